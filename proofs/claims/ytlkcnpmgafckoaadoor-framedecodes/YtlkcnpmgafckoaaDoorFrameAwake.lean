/-
  CONTRACTS: the law's own awake (layer 5), few.
  No statement is proved here.
-/
import Derived.Test.YtlkcnpmgafckoaaDoorFrameEncode
namespace Go.Proofs.YtlkcnpmgafckoaaDoor
open Go.RowKit

/-- The document's Hello. -/
def hello3 : Fv := ⟨1, 1, 2, 0, 3, 0, 0, none, 0, 0, [], none, 0, 0, []⟩
theorem hello3_at (w : World) : FrAt w hello3 where
  rs := Rs.nil_ w _ none 0 (Nat.zero_le _)
  it := ⟨rfl, Nat.le_refl _, Nat.zero_le _, fun h => absurd h (Nat.lt_irrefl _), fun k hk => absurd hk List.not_mem_nil⟩
  kd := by decide
  ag := by decide
  ep := by decide
  ic := by decide
  ba := by decide
  cu := by decide
  li := by decide
theorem hello3_right : RightP hello3.m := ⟨by decide, by decide, by decide, .inl ⟨rfl, by decide, rfl, rfl, rfl, rfl, rfl⟩⟩
theorem hello3_enc : encB hello3.m = closed [1, 1, 2, 3] := by
  unfold encB
  congr 1
  unfold innerB tailB helloB numsB hello3 Fv.m
  simp only [List.flatMap_cons, List.flatMap_nil]
  rw [num_lo (by decide), num_lo (by decide), num_lo (by decide)]
  decide

set_option maxRecDepth 100000 in
set_option maxHeartbeats 800000 in
theorem awake5_any (w : World) (ht : TabAt w) : Calls Tryd.prog 10 #[] w (Yes w) := by
  have hc := encode_any w ht hello3 (hello3_at w)
  have HC := Lib.hid hc
  clear hc
  go_enter Tryd.func10, Tryd.ntmps10
  go_wp2_with fail
  refine HC.out.mono ?_
  intro e w2 h2
  have h3 : ∃ A n c, e = .returned (.tuple #[.slice A n c, .int .i64 0]) ∧ w2.ownsRow w.heap.size 5 1 (.slice A n c) n (cbs (closed [1, 1, 2, 3])) ∧ Below w.heap.size w w2 := by
    rw [← hello3_enc]
    rcases h2 with h2 | h2 | h2
    · exact absurd hello3_right h2.1
    · have := h2.2.1
      rw [hello3_enc, closed_len] at this
      simp at this
    · exact h2.2.2
  obtain ⟨A, n, c, rfl, hown, hb⟩ := h3
  have HO := Lib.hid hown
  have HB := Lib.hid hb
  clear h2 HC hown hb ht
  go_wp2_with fail
  have hl := (lit_sl w2 5 [1, 1, 2, 3] 4 rfl (by unfold maxLen; omega)).more (B' := (w2.alloc (.cells (cbs [1, 1, 2, 3]).toArray 5)).heap.size) (by simp)
  refine (refClose_any _ _ 4 4 [1, 1, 2, 3] hl (by simp)).mono ?_
  rintro e w3 ⟨A3, n3, c3, rfl, hown3, hb3⟩
  have hb23 : Below w2.heap.size w2 w3 := (below_box w2 _).trans (hb3.mono (by simp))
  have hs1 := (Sl.of_own HO.out).on hb23 (Nat.le_refl _)
  have hs3 := Sl.of_own hown3
  clear hl hown3 hb3
  go_wp2_with fail
  refine (same_yes w3 w3.heap.size A A3 n c n3 c3 _ hs1 hs3).mono ?_
  rintro e w4 ⟨rfl, q, rfl⟩
  go_wp2
  go_ret
  exact ⟨rfl, below_drewN (HB.out.trans (hb23.mono HB.out.size)) q⟩

/-- A frame with not too much in it. -/
def Fv.few (f : Fv) : Fv := ⟨f.kd, f.ag, f.ep, f.ic, f.ba, f.cu, f.li, f.Ar, min f.nr 40, f.cr, f.L.take 40, f.Ai, min f.ni 70, f.ci, f.ks.take 70⟩
theorem Itms.take {w : World} {B : Nat} {A : Option Addr} {n c : Nat} {ks : List Ik} (h : Itms w B A n c ks) (m : Nat) : Itms w B A (min n m) c (ks.take m) :=
  ⟨by rw [List.length_take, h.len]; omega, by have := h.le; omega, h.max, fun hn => by
    obtain ⟨b, o, e, hb, hc⟩ := h.cell (by omega)
    refine ⟨b, o, e, hb, fun j k hk => hc j k ?_⟩
    rw [List.getElem?_take] at hk
    split at hk
    · exact hk
    · exact absurd hk (by simp), fun k hk => h.sl k (List.mem_of_mem_take hk)⟩
theorem FrAt.few {w : World} {f : Fv} (h : FrAt w f) : FrAt w f.few where
  rs := by
    have h1 := h.rs.take (m := min f.nr 40) (d := f.cr) (by omega) (by have := h.rs.sn.le; omega) (Nat.le_refl _)
    have e : f.L.take (min f.nr 40) = f.L.take 40 := by
      have := h.rs.len
      rcases Nat.le_total f.nr 40 with h2 | h2
      · rw [Nat.min_eq_left h2, List.take_of_length_le (by omega), List.take_of_length_le (by omega)]
      · rw [Nat.min_eq_right h2]
    rw [e] at h1
    exact h1
  it := h.it.take 70
  kd := h.kd
  ag := h.ag
  ep := h.ep
  ic := h.ic
  ba := h.ba
  cu := h.cu
  li := h.li

end Go.Proofs.YtlkcnpmgafckoaaDoor
