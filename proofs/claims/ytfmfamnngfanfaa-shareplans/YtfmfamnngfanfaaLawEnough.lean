/-
  THE WALK of ShareEnough.
-/
import Derived.Test.YtfmfamnngfanfaaLawCalm
namespace Go.Proofs.Ytfmfamnngfanfaa
open Go.RowKit Go.Sort

/-- What is left of each class is the end of what it had. -/
def Dr (Q : List Ic) (cls : Nat) (size : Int) (st : List Cs) : Prop := ∀ (k p : Nat) (S : List Int), st[k]? = some (p, S) → S = (szs Q cls size k).drop p
/-- A victim's size. -/
def vsz (Q : List Ic) (cls : Nat) (size : Int) (v : Nat × Nat) : Int := (szs Q cls size v.1).getD v.2 0
theorem Dr.start (Q : List Ic) (cls : Nat) (size : Int) (n : Nat) : Dr Q cls size (stTo Q cls size n) := fun k p S h => by
  have hk : k < n := by have := (List.getElem?_eq_some_iff.1 h).1; rw [stTo_len] at this; exact this
  rw [stTo_at n k hk] at h
  injection h with h
  injection h with e1 e2
  subst e1 e2
  rfl
theorem Dr.step {Q : List Ic} {cls : Nat} {size s : Int} {st : List Cs} {k p : Nat} {T : List Int} (h : Dr Q cls size st) (hk : st[k]? = some (p, s :: T)) :
    Dr Q cls size (st.set k (p + 1, T)) ∧ vsz Q cls size (k, p) = s ∧ p < (szs Q cls size k).length := by
  have e := h k p _ hk
  have hlt : p < (szs Q cls size k).length := by
    apply Classical.byContradiction
    intro hn
    rw [List.drop_eq_nil_of_le (by omega)] at e
    cases e
  have e2 : s = (szs Q cls size k)[p] ∧ T = (szs Q cls size k).drop (p + 1) := by
    rw [List.drop_eq_getElem_cons hlt] at e
    injection e with a b
    exact ⟨a, b⟩
  refine ⟨fun j q S hj => ?_, ?_, hlt⟩
  · by_cases hjk : k = j
    · subst hjk
      rw [List.getElem?_set_self (List.getElem?_eq_some_iff.1 hk).1] at hj
      injection hj with hj
      injection hj with a b
      subst a b
      exact e2.2
    · rw [List.getElem?_set_ne hjk] at hj
      exact h j q S hj
  · unfold vsz
    simp only [List.getD_eq_getElem?_getD, List.getElem?_eq_getElem hlt, Option.getD_some]
    exact e2.1.symm
theorem Goes.left {Q : List Ic} {cls : Nat} {size cap : Int} {W : List Int} {st : List Cs} {o : Int} {out : List (Nat × Nat)} (h : Goes cap W st o out) (hd : Dr Q cls size st) :
    (∀ j, j < out.length → 0 < o - isum ((out.take j).map (vsz Q cls size))) ∧ o - isum (out.map (vsz Q cls size)) ≤ 0 ∧ ∀ v ∈ out, v.2 < (szs Q cls size v.1).length ∧ v.1 < st.length := by
  induction h with
  | done h0 => exact ⟨fun j hj => by simp at hj, by simp [isum]; omega, fun v hv => by cases hv⟩
  | @step st o s k p T out h0 hb hk hg ih =>
    obtain ⟨d1, d2, d3⟩ := hd.step hk
    obtain ⟨i1, i2, i3⟩ := ih d1
    refine ⟨fun j hj => ?_, ?_, fun v hv => ?_⟩
    · rcases j with _ | j
      · simp [isum]; exact h0
      · have := i1 j (by simpa using hj)
        rw [List.take_succ_cons, List.map_cons, isum_cons, d2]
        omega
    · rw [List.map_cons, isum_cons, d2]
      omega
    · rcases List.mem_cons.1 hv with rfl | hv
      · exact ⟨d3, (List.getElem?_eq_some_iff.1 hk).1⟩
      · have := i3 v hv
        rw [List.length_set] at this
        exact this
theorem vsz_take {Q : List Ic} {cls : Nat} {size : Int} {out : List (Nat × Nat)} {j : Nat} {v : Nat × Nat} (h : out[j]? = some v) : isum ((out.take (j + 1)).map (vsz Q cls size)) = isum ((out.take j).map (vsz Q cls size)) + vsz Q cls size v := by
  rw [List.take_add_one, h, List.map_append, isum_app]
  simp [isum]
/-- A victim is one of those that were queued, or who comes. -/
theorem vsz_two {Q : List Ic} {cls : Nat} {size : Int} {v : Nat × Nat} {x : Ic} (hx : Q[v.1]? = some x) (hl : x.L.length = x.n) (h : v.2 < (szs Q cls size v.1).length) : (v.2 < x.n ∧ x.L[v.2]? = some (vsz Q cls size v)) ∨ (x.n ≤ v.2 ∧ v.1 = cls ∧ v.2 = x.n ∧ vsz Q cls size v = size) := by
  have e : szs Q cls size v.1 = if v.1 = cls then x.L ++ [size] else x.L := by
    unfold szs
    simp [List.getD_eq_getElem?_getD, hx]
  unfold vsz
  rw [e] at h ⊢
  by_cases hc : v.1 = cls
  · rw [if_pos hc] at h ⊢
    simp at h
    by_cases hp : v.2 < x.n
    · refine .inl ⟨hp, ?_⟩
      simp [List.getD_eq_getElem?_getD, List.getElem?_append_left (show v.2 < x.L.length by omega), show v.2 < x.L.length by omega]
    · refine .inr ⟨by omega, hc, by omega, ?_⟩
      have : v.2 = x.L.length := by omega
      simp [List.getD_eq_getElem?_getD, this]
  · rw [if_neg hc] at h ⊢
    refine .inl ⟨by omega, ?_⟩
    simp [List.getD_eq_getElem?_getD, h]
def NRel (w w3 : World) (tot : Int) (vs : Nat × Nat → Int) (out : List (Nat × Nat)) (nv gk : Nat) (vl vi : Value) (wr : World) : Prop :=
  ∃ (j : Nat) (lf : Int), gk + j = nv ∧ vl = .int .i64 lf ∧ vi = .int .i64 (j : Int) ∧ lf = tot - isum ((out.take j).map vs) ∧ -1000000 ≤ lf ∧ lf ≤ tot ∧ RowKit.Below w.heap.size w wr ∧ RowKit.Below w3.heap.size w3 wr
end Go.Proofs.Ytfmfamnngfanfaa
