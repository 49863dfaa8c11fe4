/-
  CONTRACT of slices.Equal at numbers.
  No statement is proved here.
-/
import Derived.Test.YtfmfamnngfanfaaAlarmDue
namespace Go.Proofs.Ytfmfamnngfanfaa
open Go.RowKit Go.Sort

def EqnRel (w : World) (L M : List Nat) (n gk : Nat) (vi : Value) (wr : World) : Prop :=
  ∃ k, gk + k = n ∧ vi = .int .i64 (k : Int) ∧ L.take k = M.take k ∧ RowKit.Below w.heap.size w wr
theorem sn_nat {w : World} {B n c j : Nat} {A : Option Addr} {L : List Nat} (h : Sn w B A n c 1 (unvs L)) (hj : j < n) : ∃ b o x, A = some ⟨b, o, none⟩ ∧ b < B ∧ L[j]? = some x ∧ w.cell? ⟨b, o + j, none⟩ = some (.int .u64 (x : Int)) := by
  have hl : L.length = n := by have := h.len; rw [unvs_len] at this; omega
  have hr : L[j]? = some L[j] := List.getElem?_eq_getElem (by omega)
  obtain ⟨b, o, e, hb, hc⟩ := h.cell (by omega)
  exact ⟨b, o, L[j], e, hb, hr, hc _ _ (unvs_at hr)⟩
set_option maxRecDepth 100000 in
set_option maxHeartbeats 4000000 in
theorem eqn_any (w : World) (A A' : Option Addr) (n c n' c' : Nat) (L M : List Nat) (h : Sn w w.heap.size A n c 1 (unvs L)) (h' : Sn w w.heap.size A' n' c' 1 (unvs M)) :
    Calls Try.prog 44 #[.slice A n c, .slice A' n' c'] w (Says w (.bool (decide (L = M)))) := by
  have H := Lib.hid h
  have H' := Lib.hid h'
  have hl : L.length = n := by have := h.len; rw [unvs_len] at this; omega
  have hl' : M.length = n' := by have := h'.len; rw [unvs_len] at this; omega
  have hnm : n ≤ 9223372036854775807 := Nat.le_trans h.le h.max
  have HL : Hid (L.length = n ∧ M.length = n') := ⟨hl, hl'⟩
  clear h h' hl hl'
  by_cases hnn : n = n'
  · subst hnn
    go_enter Try.func44, Try.ntmps44
    go_wp2_with fail
    go_loopg [13] n (fun gk vi wr => EqnRel w L M n gk vi wr)
    case atStart => exact ⟨0, rfl, rfl, rfl, RowKit.Below.refl _ _⟩
    case round =>
      obtain ⟨k, hk, rfl, hE, hb0⟩ := hrel
      have HE := Lib.hid hE
      have HB0 := Lib.hid hb0
      clear hE hb0
      by_cases hlt : k < n
      · obtain ⟨b, o, x, rfl, hb, hx, hc⟩ := sn_nat (H.out.on HB0.out (Nat.le_refl _)) hlt
        obtain ⟨b', o', y, rfl, hb', hy, hc'⟩ := sn_nat (H'.out.on HB0.out (Nat.le_refl _)) hlt
        have HX := Lib.hid hx
        have HY := Lib.hid hy
        clear hx hy
        by_cases hxy : x = y
        · subst hxy
          have hne : ((x : Int) != (x : Int)) = false := by simp
          go_wp2_with fail
          go_quiet (fail)
          go_wp2_with fail
          go_roundg (gk - 1)
          case measure => omega
          case rel => exact ⟨k + 1, by omega, by go_num, by rw [List.take_add_one, List.take_add_one, HX.out, HY.out, HE.out], below_drewN HB0.out _⟩
        · have hne : ((x : Int) != (y : Int)) = true := by simp; omega
          have HN : Hid (decide (L = M) = false) := by
            show _ = _
            rw [decide_eq_false_iff_not]
            intro e
            have h1 := HX.out
            rw [e, HY.out] at h1
            injection h1 with h1
            exact hxy h1.symm
          go_wp2_with fail
          go_quiet (fail)
          go_wp2_with fail
          go_ret
          exact ⟨(by rw [HN.out]; first | done | rfl), below_drewN HB0.out _⟩
      · have HN : Hid (decide (L = M) = true) := by
          show _ = _
          rw [decide_eq_true_iff]
          have h1 := HE.out
          rw [List.take_of_length_le (by have := HL.out.1; omega), List.take_of_length_le (by have := HL.out.2; omega)] at h1
          exact h1
        go_wp2_with fail
        go_ret
        exact ⟨(by rw [HN.out]; first | done | rfl), HB0.out⟩
  · have hne : ((n : Int) != (n' : Int)) = true := by simp; omega
    have HN : Hid (decide (L = M) = false) := by
      show _ = _
      rw [decide_eq_false_iff_not]
      intro e
      rw [e] at HL
      exact hnn (HL.out.1.symm.trans HL.out.2)
    go_enter Try.func44, Try.ntmps44
    go_wp2_with fail
    go_ret
    exact ⟨(by rw [HN.out]; first | done | rfl), RowKit.Below.refl _ _⟩
end Go.Proofs.Ytfmfamnngfanfaa
