/-
  THE WALK of the law RunsGaps: whatever the runs and the number, it returns true, and turns nothing that was there.
-/
import Derived.Test.YtefoeebchjnfaaaRunsAwake
import Derived.Test.YtefoeebchjnfaaaRunsFacts
namespace Go.Proofs.Ytefoeebchjnfaaa
open Go.RowKit

/-- A set in its cell, whatever is made beside it. -/
def Held (X : Nat) (A : Option Addr) (n c : Nat) (L : List Rn) (w0 w : World) : Prop := w.cell? ⟨X, 0, none⟩ = some (.slice A n c) ∧ St w w.heap.size A n c L ∧ X < w.heap.size ∧ Below w0.heap.size w0 w
theorem Held.next {X : Nat} {A : Option Addr} {n c : Nat} {L : List Rn} {w0 w w2 : World} (h : Held X A n c L w0 w) (hb : Below w.heap.size w w2) : Held X A n c L w0 w2 :=
  ⟨(hb.cell (p := ⟨X, 0, none⟩) h.2.2.1).trans h.1, h.2.1.on hb (Nat.le_refl _), Nat.lt_of_lt_of_le h.2.2.1 hb.size, h.2.2.2.trans (hb.mono h.2.2.2.size)⟩
theorem Held.made {w0 w : World} {A : Option Addr} {n c : Nat} {L : List Rn} (hs : St w w.heap.size A n c L) (hb : Below w0.heap.size w0 w) (t : TypeId) : Held w.heap.size A n c L w0 (w.alloc (.cells #[.slice A n c] t)) :=
  ⟨cell_last w _ _ _ 0 rfl, hs.on (below_box w _) (Nat.le_refl _), by simp, hb.trans ((below_box w _).mono hb.size)⟩

set_option maxRecDepth 100000 in
set_option maxHeartbeats 1000000 in
theorem runsGaps_walk (w : World) (A : Option Addr) (n c v : Nat) (l : List Rn) (hs : Rs w w.heap.size A n c l) (hv : v < two64) :
    Calls Try.prog 9 #[.slice A n c, .int .u64 (v : Int)] w (Says w (.bool true)) := by
  have H := Lib.hid hs
  clear hs
  go_enter Try.func9, Try.ntmps9
  go_wp2_with fail
  refine (awake3_any w).mono ?_
  rintro e w1 ⟨rfl, hb1⟩
  have H1 := Lib.hid (H.out.on hb1 (Nat.le_refl _))
  have HB1 := Lib.hid hb1
  clear hb1
  go_wp2_with fail
  refine (few3_any w1 w1.heap.size A n c l H1.out).mono ?_
  rintro e w' ⟨rfl, rfl⟩
  have HM : Hid (min n 20 ≤ n ∧ min n 20 ≤ 20) := ⟨by omega, by omega⟩
  have H2 := Lib.hid (H1.out.take (m := min n 20) (d := c) HM.out.1 (by have := H1.out.sn.le; omega) (Nat.le_refl _))
  generalize min n 20 = m at *
  generalize l.take m = l2 at *
  go_wp2_with fail
  refine (set3_any w1 A m c l2 H2.out (by have := HM.out; omega)).mono ?_
  rintro e w2 ⟨A2, n2, c2, rfl, hs2, _, hb2⟩
  have HOK := Lib.hid (set_spec l2 H2.out.lt).1
  have HN2 : Hid (n2 ≤ 20) := by have := (set_spec l2 H2.out.lt).2.2; rw [hs2.rs.len, H2.out.len] at this; have := HM.out; show _ ≤ _; omega
  have hb2w : Below w.heap.size w w2 := HB1.out.trans (hb2.mono HB1.out.size)
  have hH := Held.made hs2 hb2w 27
  generalize setL l2 = S at *
  obtain ⟨X, hX⟩ : ∃ X, w2.heap.size = X := ⟨_, rfl⟩
  have HH : Hid (Held X A2 n2 c2 S w (w2.alloc (.cells #[.slice A2 n2 c2] 27))) := by rw [← hX]; exact hH
  have HX := Lib.hid hX
  clear hH hs2 hb2 hb2w hX
  go_wp2_with fail
  rw [HX.out]
  generalize w2.alloc (.cells #[.slice A2 n2 c2] 27) = wa at *
  clear HX
  have hgap := gap_any wa A2 n2 c2 v S HH.out.2.1.rs HOK.out.can (by have := HN2.out; omega)
  have HV := Lib.hid hv
  rcases gap_spec HOK.out hv with ⟨hg, hall⟩ | ⟨g, hg, hvg, hg64, hnot, hall⟩
  · rw [hg] at hgap
    have HE := Lib.hid (gap_none HOK.out hv hall)
    clear hg hall hv
    refine hgap.mono ?_
    rintro e w3 ⟨rfl, hb3⟩
    have H3 := Lib.hid (HH.out.next hb3)
    have hc3 := H3.out.1
    clear hb3 hgap
    go_wp2_with fail
    refine (from_any w3 A2 n2 c2 v S H3.out.2.1 HOK.out (by have := HN2.out; omega) HV.out).mono ?_
    rintro e w4 ⟨A4, n4, c4, rfl, hs4, _, hb4⟩
    have HS4 := Lib.hid hs4
    have HB4 : Hid (Below w.heap.size w w4) := (H3.out.next hb4).2.2.2
    clear hs4 hb4 hc3
    go_wp2_with fail
    refine (span_any w4 0 none 0 0 v 18446744073709551615 [] (St.nil_ _ _) (Nat.zero_le _) HV.out (by unfold two64; omega) (by omega)).mono ?_
    rintro e w5 ⟨A5, n5, c5, rfl, hs5, _, hb5⟩
    have HS5 := Lib.hid hs5
    have HS45 := Lib.hid (HS4.out.on hb5 (Nat.le_refl _))
    have HB5 : Hid (Below w.heap.size w w5) := HB4.out.trans (hb5.mono HB4.out.size)
    clear hs5 hb5
    have hsame := setSame_any w5 A4 A5 n4 c4 n5 c5 _ _ HS45.out.rs HS5.out.rs
    rw [show sameR (fromL S v) (spanL [] v 18446744073709551615) = true from by unfold sameR; rw [decide_eq_true_iff]; exact HE.out] at hsame
    have HSA := Lib.hid hsame
    clear hsame
    go_wp2_with fail
    refine HSA.out.mono ?_
    rintro e w6 ⟨rfl, hb6⟩
    go_wp2
    go_ret
    exact ⟨rfl, HB5.out.trans (hb6.mono HB5.out.size)⟩
  · rw [hg] at hgap
    have HALL := Lib.hid hall
    have HNOT := Lib.hid hnot
    have HG64 := Lib.hid hg64
    have hgv : ¬ (g : Int) < (v : Int) := by omega
    clear hg hall hnot hv hg64
    refine hgap.mono ?_
    rintro e w3 ⟨rfl, hb3⟩
    have H3 := Lib.hid (HH.out.next hb3)
    have hc3 := H3.out.1
    have hhas := has_any w3 A2 n2 c2 g S H3.out.2.1.rs HOK.out.can (by have := HN2.out; omega)
    rw [hasL_false HOK.out HNOT.out] at hhas
    have HHA := Lib.hid hhas
    clear hb3 hgap hhas
    go_wp2_with fail
    refine HHA.out.mono ?_
    rintro e w4 ⟨rfl, hb4⟩
    have H4 := Lib.hid (H3.out.next hb4)
    have hc4 := H4.out.1
    clear hb4 hc3 HHA
    by_cases hgv' : g = v
    · subst hgv'
      have hq : ((g : Int) == (g : Int)) = true := by simp
      have hhas := has_any w4 A2 n2 c2 g S H4.out.2.1.rs HOK.out.can (by have := HN2.out; omega)
      rw [hasL_false HOK.out HNOT.out] at hhas
      have HHA := Lib.hid hhas
      clear hhas
      go_wp2_with fail
      refine HHA.out.mono ?_
      rintro e w5 ⟨rfl, hb5⟩
      go_wp2
      go_ret
      exact ⟨rfl, (H4.out.next hb5).2.2.2⟩
    · have hq : ((g : Int) == (v : Int)) = false := by simp; omega
      have HVG : Hid (v < g) := by show _ < _; omega
      have HE := Lib.hid (gap_some HOK.out HVG.out HG64.out HALL.out)
      obtain ⟨u, hu⟩ : ∃ u, g = u + 1 := ⟨g - 1, by have := HVG.out; omega⟩
      have hgu : (g : Int) - 1 = (u : Int) := by omega
      have hg1 : (1 : Int) ≤ (g : Int) := by omega
      have HU := Lib.hid hu
      have hul : u < 18446744073709551616 := by have := HG64.out; unfold two64 at this; omega
      clear hgv' hu
      go_wp2_with fail
      refine (from_any w4 A2 n2 c2 v S H4.out.2.1 HOK.out (by have := HN2.out; omega) HV.out).mono ?_
      rintro e w5 ⟨A5, n5, c5, rfl, hs5, _, hb5⟩
      have HS5 := Lib.hid hs5
      have HN5 : Hid (n5 ≤ 30) := by have := from_len HOK.out HV.out; rw [hs5.rs.len] at this; have := H4.out.2.1.rs.len; have := HN2.out; show _ ≤ _; omega
      have H5 := Lib.hid (H4.out.next hb5)
      clear hs5 hb5 hc4
      go_wp2_with fail
      refine (below_any w5 A5 n5 c5 g (fromL S v) HS5.out.rs (from_ok HOK.out HV.out) (by have := HN5.out; omega) HG64.out).mono ?_
      rintro e w6 ⟨A6, n6, c6, rfl, hs6, _, hb6⟩
      have HS6 := Lib.hid hs6
      have H6 := Lib.hid (H5.out.next hb6)
      clear hs6 hb6
      go_wp2_with fail
      refine (span_any w6 0 none 0 0 v u [] (St.nil_ _ _) (Nat.zero_le _) HV.out (by unfold two64; omega) (by omega)).mono ?_
      rintro e w7 ⟨A7, n7, c7, rfl, hs7, _, hb7⟩
      have HS7 := Lib.hid hs7
      have HS67 := Lib.hid (HS6.out.on hb7 (Nat.le_refl _))
      have H7 := Lib.hid (H6.out.next hb7)
      clear hs7 hb7
      have hsame := setSame_any w7 A6 A7 n6 c6 n7 c7 _ _ HS67.out.rs HS7.out.rs
      rw [show sameR (belowL (fromL S v) g) (spanL [] v u) = true from by unfold sameR; rw [decide_eq_true_iff, HE.out, HU.out]; rfl] at hsame
      have HSA := Lib.hid hsame
      clear hsame
      go_wp2_with fail
      refine HSA.out.mono ?_
      rintro e w8 ⟨rfl, hb8⟩
      have H8 := Lib.hid (H7.out.next hb8)
      have hc8 := H8.out.1
      have hhas := has_any w8 A2 n2 c2 v S H8.out.2.1.rs HOK.out.can (by have := HN2.out; omega)
      rw [hasL_true HOK.out (HALL.out v (Nat.le_refl _) HVG.out)] at hhas
      have HHA := Lib.hid hhas
      clear hhas hb8
      go_wp2_with fail
      refine HHA.out.mono ?_
      rintro e w9 ⟨rfl, hb9⟩
      have H9 := Lib.hid (H8.out.next hb9)
      have hc9 := H9.out.1
      have hhas := has_any w9 A2 n2 c2 u S H9.out.2.1.rs HOK.out.can (by have := HN2.out; omega)
      rw [hasL_true HOK.out (HALL.out u (by have := HVG.out; have := HU.out; omega) (by have := HU.out; omega))] at hhas
      have HHB := Lib.hid hhas
      clear hhas hb9 hc8
      go_wp2_with fail
      refine HHB.out.mono ?_
      rintro e w10 ⟨rfl, hb10⟩
      go_wp2
      go_ret
      exact ⟨rfl, (H9.out.next hb10).2.2.2⟩
theorem runsGaps_law (w : World) (A : Option Addr) (n c : Nat) (l : List Rn) (hs : Rs w w.heap.size A n c l) (v : Int) (hv : 0 ≤ v ∧ v ≤ 18446744073709551615) :
    Calls Try.prog 9 #[.slice A n c, .int .u64 v] w (Says w (.bool true)) := by
  obtain ⟨x, rfl⟩ := Int.eq_ofNat_of_zero_le hv.1
  exact runsGaps_walk w A n c x l hs (by unfold two64; omega)
end Go.Proofs.Ytefoeebchjnfaaa
