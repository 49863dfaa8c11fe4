/-
  THE REFERENCE's READING, as plain mathematics: bytes whose highest bit is set are skipped, then all are laid together from the last one on: it comes to what 'rd' reads.
  No statement is proved here; nothing of a program is named.
-/
import Derived.Test.YtlkcnpmgafckoaaDoorPackMath
import Derived.Test.YtlkcnpmgafckoaaDoorWords
namespace Go.Proofs.YtlkcnpmgafckoaaDoor

def hor : List UInt8 → Nat
  | [] => 0
  | b :: t => b.toNat % 128 + 128 * hor t
theorem hor_snoc (l : List UInt8) (x : UInt8) : hor (l ++ [x]) = hor l + x.toNat % 128 * 128 ^ l.length := by
  induction l with
  | nil => simp [hor]
  | cons b t ih =>
    rw [List.cons_append, hor, hor, ih, List.length_cons, Nat.pow_succ, Nat.mul_add, Nat.mul_comm (128 ^ t.length) 128, Nat.mul_left_comm 128]
    omega
theorem hor_take_succ {l : List UInt8} {j : Nat} {x : UInt8} (h : l[j]? = some x) : hor (l.take (j + 1)) = hor (l.take j) + x.toNat % 128 * 128 ^ j := by
  obtain ⟨hl, _⟩ := List.getElem?_eq_some_iff.1 h
  rw [take_snoc h, hor_snoc, List.length_take, Nat.min_eq_left (by omega)]
theorem drop_cons {l : List UInt8} {j : Nat} {x : UInt8} (h : l[j]? = some x) : l.drop j = x :: l.drop (j + 1) := by
  obtain ⟨hl, hx⟩ := List.getElem?_eq_some_iff.1 h
  rw [List.drop_eq_getElem_cons hl, hx]
/-- The first j bytes have their highest bit set. -/
def High (l : List UInt8) (j : Nat) : Prop := ∀ i x, i < j → l[i]? = some x → 128 ≤ x.toNat
theorem High.succ {l : List UInt8} {j : Nat} {x : UInt8} (h : High l j) (hx : l[j]? = some x) (h128 : 128 ≤ x.toNat) : High l (j + 1) := by
  intro i y hi hy
  by_cases e : i = j
  · subst e
    rw [hx] at hy
    injection hy with hy
    rw [← hy]
    exact h128
  · exact h i y (by omega) hy
theorem rd_skip (l : List UInt8) : ∀ j, j ≤ 9 → j ≤ l.length → High l j → rd l = rdGo j (hor (l.take j)) (l.drop j) := by
  intro j
  induction j with
  | zero => intro _ _ _; simp [rd, hor]
  | succ j ih =>
    intro h9 hl hh
    have h1 := ih (by omega) (by omega) (fun i x hi hx => hh i x (by omega) hx)
    have hx : l[j]? = some l[j] := List.getElem?_eq_getElem (by omega)
    have hb := hh j _ (by omega) hx
    rw [h1, drop_cons hx, hor_take_succ hx]
    simp only [rdGo]
    rw [if_neg (by omega), if_pos hb]
/-- How it ends. -/
theorem rd_none {l : List UInt8} {j : Nat} (h9 : j ≤ 9) (hl : j = l.length) (hh : High l j) : rd l = (0, 0, 2) := by
  rw [rd_skip l j h9 (by omega) hh, List.drop_eq_nil_of_le (by omega)]; rfl
theorem rd_over {l : List UInt8} {x : UInt8} (hx : l[9]? = some x) (h1 : 1 < x.toNat) (hh : High l 9) : rd l = (0, 0, 7) := by
  obtain ⟨hl, _⟩ := List.getElem?_eq_some_iff.1 hx
  rw [rd_skip l 9 (by omega) (by omega) hh, drop_cons hx]
  simp [rdGo, h1]
theorem rd_zero {l : List UInt8} {j : Nat} {x : UInt8} (h9 : j ≤ 9) (hx : l[j]? = some x) (h0 : x.toNat = 0) (hj : 0 < j) (hh : High l j) : rd l = (0, 0, 2) := by
  obtain ⟨hl, _⟩ := List.getElem?_eq_some_iff.1 hx
  rw [rd_skip l j h9 (by omega) hh, drop_cons hx]
  simp only [rdGo]
  rw [if_neg (by omega), if_neg (by omega), if_pos ⟨h0, hj⟩]
theorem rd_good {l : List UInt8} {j : Nat} {x : UInt8} (h9 : j ≤ 9) (hx : l[j]? = some x) (hlo : x.toNat < 128) (ho : ¬ (j = 9 ∧ 1 < x.toNat)) (h0 : ¬ (x.toNat = 0 ∧ 0 < j)) (hh : High l j) : rd l = (hor (l.take (j + 1)), j + 1, 0) := by
  obtain ⟨hl, _⟩ := List.getElem?_eq_some_iff.1 hx
  rw [rd_skip l j h9 (by omega) hh, drop_cons hx, hor_take_succ hx]
  simp only [rdGo]
  rw [if_neg ho, if_neg (by omega), if_neg h0]
theorem hor_drop (l : List UInt8) : ∀ k, hor (l.drop k) ≤ hor l := by
  induction l with
  | nil => intro k; simp
  | cons b t ih =>
    intro k
    rcases k with _ | k
    · exact Nat.le_refl _
    · have := ih k
      rw [List.drop_succ_cons, hor]
      omega
theorem hor_step {l : List UInt8} {k : Nat} {x : UInt8} (h : l[k]? = some x) : hor (l.drop k) = x.toNat % 128 + 128 * hor (l.drop (k + 1)) := by
  rw [drop_cons h, hor]
end Go.Proofs.YtlkcnpmgafckoaaDoor
