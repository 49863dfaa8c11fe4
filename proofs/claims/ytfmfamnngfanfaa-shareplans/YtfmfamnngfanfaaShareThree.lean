/-
  CONTRACTS of the reference's Sum, Right, Excess; of share's Total, bounded.
  No statement is proved here.
-/
import Derived.Test.YtfmfamnngfanfaaShareTwo
namespace Go.Proofs.Ytfmfamnngfanfaa
open Go.RowKit

set_option maxRecDepth 100000 in
set_option maxHeartbeats 1000000 in
theorem refSum_any (w : World) (A : Option Addr) (n c : Nat) (L : List Int) (h : Is w w.heap.size A n c L) (hs : Small L) :
    Calls Try.prog 55 #[.slice A n c] w fun e w' => e = .returned (.int .i64 (isum L)) ∧ w = w' := by
  have H := Lib.hid h
  have HS := Lib.hid hs
  have HL := Lib.hid h.len
  have hn : n ≤ 9223372036854775807 := Nat.le_trans h.sn.le h.sn.max
  clear h hs
  go_enter Try.func55, Try.ntmps55
  go_wp2_with fail
  go_loopg [3, 8] n (fun gk vt vi wr => SumRel w L n gk vt vi wr)
  case atStart => exact ⟨0, rfl, rfl, rfl, rfl⟩
  case round =>
    obtain ⟨k, hk, rfl, rfl, rfl⟩ := hrel
    by_cases hlt : k < n
    · obtain ⟨b, o, x, rfl, hb, hx, hc, hxr⟩ := H.out.at_ hlt
      obtain ⟨h1, h2, h3, h4⟩ := sum_step HS.out hx
      have H1 := Lib.hid h1
      clear h1 hx
      generalize isum (L.take k) = t at *
      go_wp2_with fail
      go_roundg (gk - 1)
      case measure => omega
      case rel => exact ⟨k + 1, by omega, by go_num, by rw [H1.out], rfl⟩
    · go_wp2_with fail
      go_ret
      refine ⟨?_, rfl⟩
      have HT : L.take k = L := List.take_of_length_le (by have := HL.out; omega)
      rw [HT]
      rfl
set_option maxRecDepth 100000 in
set_option maxHeartbeats 1000000 in
theorem refRight8_any (w : World) (A : Option Addr) (n c : Nat) (L : List Int) (h : Is w w.heap.size A n c L) :
    Calls Try.prog 18 #[.slice A n c] w fun e w' => e = .returned (.bool (rightW L)) ∧ w = w' := by
  have H := Lib.hid h
  have HL := Lib.hid h.len
  have hn : n ≤ 9223372036854775807 := Nat.le_trans h.sn.le h.sn.max
  clear h
  go_enter Try.func18, Try.ntmps18
  go_wp2_with fail
  go_loopg [7] n (fun gk vi wr => RightRel w L n gk vi wr)
  case atStart => exact ⟨0, rfl, rfl, by simp, rfl⟩
  case round =>
    obtain ⟨k, hk, rfl, hall, rfl⟩ := hrel
    have HALL := Lib.hid hall
    clear hall
    by_cases hlt : k < n
    · obtain ⟨b, o, x, rfl, hb, hx, hc, hxr⟩ := H.out.at_ hlt
      have HX := Lib.hid hx
      clear hx
      have hbad : okW x = false → rightW L = false := fun h => by
        unfold rightW
        have : L.all okW = false := by
          rw [List.all_eq_false]
          exact ⟨x, List.mem_of_getElem? HX.out, by simp [h]⟩
        rw [this]; rfl
      have HBAD := Lib.hid hbad
      clear hbad
      by_cases h1 : x < 1
      · go_wp2_with fail
        go_ret
        rw [HBAD.out (by unfold okW; simp; omega)]
        exact ⟨rfl, rfl⟩
      · by_cases h2 : 1000 < x
        · go_wp2_with fail
          go_ret
          rw [HBAD.out (by unfold okW; simp; omega)]
          exact ⟨rfl, rfl⟩
        · go_wp2_with fail
          go_roundg (gk - 1)
          case measure => omega
          case rel =>
            refine ⟨k + 1, by omega, by go_num, fun y hy => ?_, rfl⟩
            rw [List.take_add_one, HX.out] at hy
            rcases List.mem_append.1 hy with hy | hy
            · exact HALL.out y hy
            · simp at hy
              subst hy
              unfold okW
              simp
              omega
    · have hT : L.all okW = true := by
        rw [List.all_eq_true]
        intro x hx
        exact HALL.out x (by rw [List.take_of_length_le (by have := HL.out; omega)]; exact hx)
      have HR : Hid (rightW L = (decide (0 < (n : Int)) && decide ((n : Int) < 9))) := by
        show _ = _
        unfold rightW
        rw [hT, HL.out, Bool.eq_iff_iff]
        simp
        omega
      clear hT
      by_cases h1 : (0 : Int) < n
      · go_wp2_with fail
        go_ret
        rw [HR.out]
        simp
        omega
      · go_wp2_with fail
        go_ret
        rw [HR.out]
        simp
        omega
theorem sub64 {P Q : Int} (h1 : -2305843009213693952 ≤ P ∧ P ≤ 2305843009213693952) (h2 : -1152921504606846976 ≤ Q ∧ Q ≤ 1152921504606846976) : wrap64 (P - Q) = P - Q := w64 (by omega)
set_option maxRecDepth 100000 in
set_option maxHeartbeats 1000000 in
theorem refExc_any (w : World) (cap : Int) (A : Option Addr) (n c : Nat) (L : List Int) (k b : Int) (h : Is w w.heap.size A n c L) (hcap : -281474976710656 ≤ cap ∧ cap ≤ 281474976710656) (hb : -281474976710656 ≤ b ∧ b ≤ 281474976710656) :
    Calls Try.prog 56 #[.int .i64 cap, .slice A n c, .int .i64 k, .int .i64 b] w (Says w (.int .i64 (excW cap L k b))) := by
  have H := Lib.hid h
  have HL := Lib.hid h.len
  have hnM : n ≤ 9223372036854775807 := Nat.le_trans h.sn.le h.sn.max
  clear h
  by_cases hr : rightW L = true
  · have HF := Lib.hid (right_facts hr)
    have HR := Lib.hid hr
    clear hr
    by_cases hk0 : 0 ≤ k
    · by_cases hk1 : k < (n : Int)
      · obtain ⟨j, rfl⟩ := Int.eq_ofNat_of_zero_le hk0
        obtain ⟨blk, o, x, rfl, hbl, hx, hc, hxr⟩ := H.out.at_ (j := j) (by omega)
        have hxx := HF.out.2.2.1 x (List.mem_of_getElem? hx)
        have he : excW cap L j b = b * isum L - cap * x := by
          unfold excW
          rw [if_pos ⟨HR.out, by omega, by have := HL.out; omega⟩]
          simp [hx]
        have hS := HF.out.2.2.2.1
        have hS2 := HF.out.2.2.2.2
        have hS3 := isum_nn hS.nn
        have m1 := mul_in (x := b) (m := isum L) (X := 281474976710656) (M := 8000) (by omega) ⟨hS3, hS2⟩ (by omega)
        have m2 := mul_in (x := cap) (m := x) (X := 281474976710656) (M := 1000) (by omega) ⟨by omega, hxx.2⟩ (by omega)
        have w1 : wrap64 (b * isum L) = b * isum L := w64 (by omega)
        have w2 : wrap64 (cap * x) = cap * x := w64 (by omega)
        have w3 : wrap64 (b * isum L - cap * x) = b * isum L - cap * x := w64 (by omega)
        have HS := Lib.hid hS
        have HE := Lib.hid he
        have HW := Lib.hid (And.intro w1 (And.intro w2 w3))
        clear he hx hS m1 m2 w1 w2 w3 hcap hb
        go_enter Try.func56, Try.ntmps56
        go_wp2_with fail
        refine (refRight8_any w _ n c L H.out).mono ?_
        rintro e w1 ⟨rfl, rfl⟩
        rw [HR.out]
        go_wp2_with fail
        go_quiet (first | (go_at_call 55; exact Calls.quiet_of_same ((refSum_any _ _ n c L (H.out.drewN _) HS.out).mono fun _ _ h => ⟨h.1, h.2.symm⟩)))
        go_wp2_with fail
        go_ret
        refine ⟨?_, below_drewN (Below.refl _ _) _⟩
        have h1 := HW.out
        show Ending.returned (.int .i64 (wrap64 (wrap64 (b * isum L) - wrap64 (cap * x)))) = _
        rw [h1.1, h1.2.1, h1.2.2, HE.out]
      · have HE : Hid (excW cap L k b = 0) := by
          show _ = _
          unfold excW
          rw [if_neg (fun h => hk1 (by have := h.2.2; have := HL.out; omega))]
        go_enter Try.func56, Try.ntmps56
        go_wp2_with fail
        refine (refRight8_any w A n c L H.out).mono ?_
        rintro e w1 ⟨rfl, rfl⟩
        rw [HR.out]
        go_wp2_with fail
        go_ret
        exact ⟨by rw [HE.out]; rfl, Below.refl _ _⟩
    · have HE : Hid (excW cap L k b = 0) := by
        show _ = _
        unfold excW
        rw [if_neg (fun h => hk0 h.2.1)]
      go_enter Try.func56, Try.ntmps56
      go_wp2_with fail
      refine (refRight8_any w A n c L H.out).mono ?_
      rintro e w1 ⟨rfl, rfl⟩
      rw [HR.out]
      go_wp2_with fail
      go_ret
      exact ⟨by rw [HE.out]; rfl, Below.refl _ _⟩
  · have hr2 : rightW L = false := by simpa using hr
    have HE : Hid (excW cap L k b = 0) := by
      show _ = _
      unfold excW
      rw [if_neg (fun h => hr h.1)]
    have HR := Lib.hid hr2
    clear hr hr2
    go_enter Try.func56, Try.ntmps56
    go_wp2_with fail
    refine (refRight8_any w A n c L H.out).mono ?_
    rintro e w1 ⟨rfl, rfl⟩
    rw [HR.out]
    go_wp2_with fail
    go_ret
    exact ⟨by rw [HE.out]; rfl, Below.refl _ _⟩

/-! ### Total, bounded -/
def qsum (Q : List Ic) : List Int := Q.map fun x => isum x.L
theorem qsum_take {Q : List Ic} {j : Nat} {x : Ic} (h : Q[j]? = some x) : isum (qsum (Q.take (j + 1))) = isum (qsum (Q.take j)) + isum x.L := by
  have h1 : (qsum Q)[j]? = some (isum x.L) := by simp [qsum, h]
  have h2 := isum_take h1
  simp only [qsum, ← List.map_take] at h2 ⊢
  exact h2
structure SmallQ (Q : List Ic) : Prop where
  each : ∀ x ∈ Q, Small x.L
  top : isum (qsum Q) ≤ 4611686018427387904
theorem SmallQ.sums {Q : List Ic} (h : SmallQ Q) : Small (qsum Q) := ⟨fun x hx => by
  obtain ⟨y, hy, rfl⟩ := List.mem_map.1 hx
  exact isum_nn (h.each y hy).nn, h.top⟩
theorem tot_step {Q : List Ic} {k : Nat} {x : Ic} (hs : SmallQ Q) (hx : Q[k]? = some x) : isum (qsum (Q.take (k + 1))) = isum (qsum (Q.take k)) + isum x.L ∧ 0 ≤ isum (qsum (Q.take k)) ∧ 0 ≤ isum x.L ∧ isum (qsum (Q.take k)) + isum x.L ≤ 4611686018427387904 := by
  have h1 : (qsum Q)[k]? = some (isum x.L) := by simp [qsum, hx]
  have h2 := sum_step hs.sums h1
  simp only [qsum, ← List.map_take] at h2 ⊢
  exact h2
def TotRel (w : World) (Q : List Ic) (n gk : Nat) (vt vi : Value) (wr : World) : Prop :=
  ∃ k, gk + k = n ∧ vi = .int .i64 (k : Int) ∧ vt = .int .i64 (isum (qsum (Q.take k))) ∧ w = wr
set_option maxRecDepth 100000 in
set_option maxHeartbeats 1000000 in
theorem total_any (w : World) (A : Option Addr) (n c : Nat) (Q : List Ic) (h : Iss w w.heap.size A n c Q) (hs : SmallQ Q) :
    Calls Try.prog 80 #[.slice A n c] w fun e w' => e = .returned (.int .i64 (isum (qsum Q))) ∧ w = w' := by
  have H := Lib.hid h
  have HS := Lib.hid hs
  have HL := Lib.hid h.len
  have hn : n ≤ 9223372036854775807 := Nat.le_trans h.sn.le h.sn.max
  clear h hs
  go_enter Try.func80, Try.ntmps80
  go_wp2_with fail
  go_loopg [3, 8] n (fun gk vt vi wr => TotRel w Q n gk vt vi wr)
  case atStart => exact ⟨0, rfl, rfl, rfl, rfl⟩
  case round =>
    obtain ⟨k, hk, rfl, rfl, rfl⟩ := hrel
    by_cases hlt : k < n
    · obtain ⟨b, o, x, rfl, hb, hx, hc, hxi⟩ := H.out.at_ hlt
      obtain ⟨h1, h2, h3, h4⟩ := tot_step HS.out hx
      have HSX := Lib.hid (HS.out.each x (List.mem_of_getElem? hx))
      have HXI := Lib.hid hxi
      have H1 := Lib.hid h1
      clear h1 hx hxi
      generalize isum (qsum (Q.take k)) = t at *
      go_wp2_with fail
      refine (sum_any w x.A x.n x.c x.L HXI.out HSX.out).mono ?_
      rintro e w1 ⟨rfl, rfl⟩
      generalize isum x.L = y at *
      go_wp2_with fail
      go_roundg (gk - 1)
      case measure => omega
      case rel => exact ⟨k + 1, by omega, by go_num, by rw [H1.out], rfl⟩
    · go_wp2_with fail
      go_ret
      refine ⟨?_, rfl⟩
      have HT : Q.take k = Q := List.take_of_length_le (by have := HL.out; omega)
      rw [HT]
      rfl
def okS (x : Int) : Bool := decide (0 ≤ x) && decide (x ≤ 1048576)
def qcnt : List Ic → Nat
  | [] => 0
  | x :: Q => x.n + qcnt Q
theorem qcnt_app (P Q : List Ic) : qcnt (P ++ Q) = qcnt P + qcnt Q := by
  induction P with
  | nil => simp [qcnt]
  | cons x P ih => simp only [List.cons_append, qcnt, ih]; omega
theorem qcnt_take {Q : List Ic} {j : Nat} {x : Ic} (h : Q[j]? = some x) : qcnt (Q.take (j + 1)) = qcnt (Q.take j) + x.n := by
  rw [List.take_add_one, h, qcnt_app]
  simp [qcnt]
theorem qcnt_pre (Q : List Ic) (j : Nat) : qcnt (Q.take j) ≤ qcnt Q := by
  have := qcnt_app (Q.take j) (Q.drop j)
  rw [List.take_append_drop] at this
  omega
def bndQ (Q : List Ic) : Bool := Q.all (fun x => x.L.all okS) && decide (qcnt Q ≤ 65536)
def BndRel (w : World) (Q : List Ic) (n gk : Nat) (vt vi : Value) (wr : World) : Prop :=
  ∃ k, gk + k = n ∧ vi = .int .i64 (k : Int) ∧ vt = .int .i64 (qcnt (Q.take k) : Nat) ∧ (∀ x ∈ Q.take k, x.L.all okS = true) ∧ w = wr
def BndIn (w : World) (L : List Int) (n gk : Nat) (vi : Value) (wr : World) : Prop :=
  ∃ k, gk + k = n ∧ vi = .int .i64 (k : Int) ∧ (∀ x ∈ L.take k, okS x = true) ∧ w = wr
theorem bnd_bad {Q : List Ic} {x : Ic} {y : Int} (hx : x ∈ Q) (hy : y ∈ x.L) (h : okS y = false) : bndQ Q = false := by
  unfold bndQ
  have : Q.all (fun x => x.L.all okS) = false := by
    rw [List.all_eq_false]
    refine ⟨x, hx, ?_⟩
    simp only [Bool.not_eq_true, List.all_eq_false]
    exact ⟨y, hy, by simp [h]⟩
  rw [this]; rfl
set_option maxRecDepth 100000 in
set_option maxHeartbeats 2000000 in
theorem bounded_any (w : World) (A : Option Addr) (n c : Nat) (Q : List Ic) (h : Iss w w.heap.size A n c Q) (hq : qcnt Q ≤ 4611686018427387904) :
    Calls Try.prog 52 #[.slice A n c] w fun e w' => e = .returned (.bool (bndQ Q)) ∧ w = w' := by
  have H := Lib.hid h
  have HL := Lib.hid h.len
  have hn : n ≤ 9223372036854775807 := Nat.le_trans h.sn.le h.sn.max
  clear h
  go_enter Try.func52, Try.ntmps52
  go_wp2_with fail
  go_loopg [3, 10] n (fun gk vt vi wr => BndRel w Q n gk vt vi wr)
  case atStart => exact ⟨0, rfl, rfl, rfl, by simp, rfl⟩
  case round =>
    obtain ⟨k, hk, rfl, rfl, hall, rfl⟩ := hrel
    have HALL := Lib.hid hall
    clear hall
    by_cases hlt : k < n
    · obtain ⟨b, o, x, rfl, hb, hx, hc, hxi⟩ := H.out.at_ hlt
      have hm := qcnt_pre Q (k + 1)
      have h1 := qcnt_take hx
      rw [h1] at hm
      have HXI := Lib.hid hxi
      have HXL := Lib.hid hxi.len
      have HMEM := Lib.hid (List.mem_of_getElem? hx)
      have HX := Lib.hid hx
      have H1 := Lib.hid h1
      clear h1 hx hxi
      generalize qcnt (Q.take k) = t at *
      go_wp2_with fail
      obtain ⟨g0, rfl⟩ : ∃ x, x = gk := ⟨_, rfl⟩
      go_loopg [16] x.n (fun gk vi wr => BndIn w x.L x.n gk vi wr)
      case atStart => exact ⟨0, rfl, rfl, by simp, rfl⟩
      case round =>
        obtain ⟨i, hi, rfl, hall, rfl⟩ := hrel
        have HA2 := Lib.hid hall
        clear hall
        by_cases hlt2 : i < x.n
        · obtain ⟨b2, o2, y, hA2, hb2, hy, hc2, hyr⟩ := HXI.out.at_ hlt2
          obtain ⟨xA, xn, xc, xL⟩ := x
          simp only at hA2
          subst hA2
          have HY := Lib.hid hy
          have HYM := Lib.hid (List.mem_of_getElem? hy)
          clear hy
          by_cases h1 : y < 0
          · go_wp2_with fail
            go_ret
            rw [bnd_bad HMEM.out HYM.out (by unfold okS; simp; omega)]
            exact ⟨rfl, rfl⟩
          · by_cases h2 : 1048576 < y
            · go_wp2_with fail
              go_ret
              rw [bnd_bad HMEM.out HYM.out (by unfold okS; simp; omega)]
              exact ⟨rfl, rfl⟩
            · go_wp2_with fail
              go_roundg (gk - 1)
              case measure => omega
              case rel =>
                refine ⟨i + 1, by omega, by go_num, fun z hz => ?_, rfl⟩
                rw [List.take_add_one, HY.out] at hz
                rcases List.mem_append.1 hz with hz | hz
                · exact HA2.out z hz
                · simp at hz
                  subst hz
                  unfold okS
                  simp
                  omega
        · have HT : Hid (x.L.all okS = true) := by
            show _ = _
            rw [List.all_eq_true]
            intro z hz
            exact HA2.out z (by rw [List.take_of_length_le (by have := HXL.out; omega)]; exact hz)
          go_wp2_with fail
          go_roundg (g0 - 1)
          case measure => omega
          case rel =>
            refine ⟨k + 1, by omega, by go_num, by rw [H1.out]; go_num, fun z hz => ?_, rfl⟩
            rw [List.take_add_one, HX.out] at hz
            rcases List.mem_append.1 hz with hz | hz
            · exact HALL.out z hz
            · simp at hz
              subst hz
              exact HT.out
    · have hT : Q.all (fun x => x.L.all okS) = true := by
        rw [List.all_eq_true]
        intro x hx
        exact HALL.out x (by rw [List.take_of_length_le (by have := HL.out; omega)]; exact hx)
      have hQ : Q.take k = Q := List.take_of_length_le (by have := HL.out; omega)
      have HR : Hid (bndQ Q = decide (((qcnt Q : Nat) : Int) ≤ 65536)) := by
        show _ = _
        unfold bndQ
        rw [hT, Bool.eq_iff_iff]
        simp
        omega
      clear hT
      rw [hQ]
      clear hQ
      go_wp2_with fail
      go_ret
      rw [HR.out]
      exact ⟨rfl, rfl⟩
end Go.Proofs.Ytfmfamnngfanfaa
