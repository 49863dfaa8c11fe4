/-
  THE WALK of ShareCalm.
-/
import Derived.Test.YtfmfamnngfanfaaShareFacts
namespace Go.Proofs.Ytfmfamnngfanfaa
open Go.RowKit Go.Sort

theorem vvs_at {L : List (Nat × Nat)} {j : Nat} {v : Nat × Nat} (h : L[j]? = some v) : (vvs L)[j * 2]? = some (.int .i64 (v.1 : Int)) ∧ (vvs L)[j * 2 + 1]? = some (.int .i64 (v.2 : Int)) := by
  induction L generalizing j with
  | nil => simp at h
  | cons a L ih =>
    have hc : vvs (a :: L) = [.int .i64 (a.1 : Int), .int .i64 (a.2 : Int)] ++ vvs L := rfl
    rw [hc]
    rcases j with _ | j
    · simp at h
      subst h
      exact ⟨rfl, rfl⟩
    · have := ih (j := j) (by simpa using h)
      rw [List.getElem?_append_right (by simp; omega), List.getElem?_append_right (by simp; omega)]
      simp only [List.length_cons, List.length_nil]
      rw [show (j + 1) * 2 - (0 + 1 + 1) = j * 2 from by omega, show (j + 1) * 2 + 1 - (0 + 1 + 1) = j * 2 + 1 from by omega]
      exact this
/-- A victim's two cells. -/
theorem vic_at {w : World} {B : Nat} {A : Option Addr} {n c j : Nat} {out : List (Nat × Nat)} (h : Sn w B A n c 2 (vvs out)) (hj : j < n) : ∃ b o v, A = some ⟨b, o, none⟩ ∧ b < B ∧ out[j]? = some v ∧ w.cell? ⟨b, o + j * 2, none⟩ = some (.int .i64 (v.1 : Int)) ∧ w.cell? ⟨b, o + j * 2 + 1, none⟩ = some (.int .i64 (v.2 : Int)) := by
  have hl : j < out.length := by have := h.len; rw [vvs_len] at this; omega
  have hr := List.getElem?_eq_getElem hl
  obtain ⟨b, o, e, hb, hc⟩ := h.cell (by omega)
  obtain ⟨h0, h1⟩ := vvs_at hr
  exact ⟨b, o, out[j], e, hb, hr, hc _ _ h0, by rw [Nat.add_assoc]; exact hc _ _ h1⟩
theorem szs_sum {R : List Ic} {cls k : Nat} {size : Int} {x : Ic} (hx : R[k]? = some x) : isum (szs R cls size k) = isum x.L + if k = cls then size else 0 := by
  unfold szs
  simp only [List.getD_eq_getElem?_getD, hx, Option.getD_some]
  split
  · rw [isum_app]; simp [isum]
  · omega
def CRel (w w3 : World) (room : Int) (W : List Int) (R : List Ic) (cls sz n gk : Nat) (vc vi : Value) (wr : World) : Prop :=
  ∃ (k : Nat) (calm : Bool), gk + k = n ∧ vc = .bool calm ∧ vi = .int .i64 (k : Int) ∧ (calm = true → ∀ j, j < k → cexc room W j (szs R cls sz j) ≤ 0) ∧ RowKit.Below w.heap.size w wr ∧ RowKit.Below w3.heap.size w3 wr
def CIn (w w3 : World) (nv gk : Nat) (vi : Value) (wr : World) : Prop :=
  ∃ (j : Nat), gk + j = nv ∧ vi = .int .i64 (j : Int) ∧ RowKit.Below w.heap.size w wr ∧ RowKit.Below w3.heap.size w3 wr
end Go.Proofs.Ytfmfamnngfanfaa
