/-
  CONTRACT of runs.Make.
  No statement is proved here.
-/
import Derived.Test.YthhmgbeigeagdaaRunsEq
namespace Go.Proofs.Ythhmgbeigeagdaa
open Go.RowKit

/-- The set that has just these runs, or none. -/
def SaysMake (w : World) (l : List Rn) (e : Ending) (w' : World) : Prop :=
  (Canon l ∧ ∃ A n c, e = .returned (.tuple #[.agg #[.slice A n c], .bool true]) ∧ St w' w'.heap.size A n c l ∧ (∀ b o, A = some ⟨b, o, none⟩ → w.heap.size < b) ∧ Below w.heap.size w w') ∨
  (¬ Canon l ∧ e = .returned (.tuple #[.agg #[.slice none 0 0], .bool false]) ∧ Below w.heap.size w w')
theorem canon_take {L : List Rn} (h : Canon L) (k : Nat) : Canon (L.take k) := ⟨List.Pairwise.sublist (List.take_sublist _ _) h.far, fun q hq => h.ok q (List.mem_of_mem_take hq)⟩
theorem canon_one_more {l : List Rn} {k : Nat} {r : Rn} (h : Canon (l.take k)) (hr : l[k]? = some r) (ho : r.1 ≤ r.2) (hp : ∀ q, k ≠ 0 → l[k - 1]? = some q → q.2 + 1 < r.1) : Canon (l.take (k + 1)) := by
  rw [List.take_add_one, hr]
  refine canon_snoc h ho fun q hq => ?_
  rcases Nat.eq_zero_or_pos k with h0 | h0
  · subst h0; simp at hq
  · obtain ⟨m, rfl⟩ : ∃ m, k = m + 1 := ⟨k - 1, by omega⟩
    obtain ⟨hk, _⟩ := List.getElem?_eq_some_iff.1 hr
    have hl : l[m]? = some l[m] := List.getElem?_eq_getElem (by omega)
    have h1 := hp l[m] (by omega) (by simp)
    rw [List.take_add_one, hl] at h hq
    obtain ⟨_, hf, hok⟩ := canon_init h
    rcases List.mem_append.1 hq with hq | hq
    · have := hf q hq
      omega
    · simp at hq
      subst hq
      exact h1
def MakeRel (w : World) (l : List Rn) (gk : Nat) (vi : Value) (wr : World) : Prop :=
  ∃ k : Nat, gk + k = l.length ∧ vi = .int .i64 (k : Int) ∧ Canon (l.take k) ∧ Below w.heap.size w wr
end Go.Proofs.Ythhmgbeigeagdaa
