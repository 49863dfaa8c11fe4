/-
  CONTRACTS of the reference's Gap and Count.
  No statement is proved here.
-/
import Derived.Test.YtjgkfoldbnjpeaaRefPlain
namespace Go.Proofs.Ytjgkfoldbnjpeaa
open Go.RowKit

theorem gap_skip {r : Rn} {s : List Rn} (h : Canon (r :: s)) {v : Nat} (hv : ¬ (r.1 ≤ v ∧ v ≤ r.2)) : gapL (r :: s) v = gapL s v := by
  unfold gapL
  by_cases h1 : r.2 < v
  · rw [reachL_lo h1]
  · rw [reachL_hi h1]
    have h2 : v < r.1 := by omega
    simp only [if_pos h2]
    have h3 := h.ok r List.mem_cons_self
    cases s with
    | nil => rfl
    | cons q s =>
      have h4 := (List.pairwise_cons.1 h.far).1 q List.mem_cons_self
      have h5 := h.ok q (List.mem_cons_of_mem _ List.mem_cons_self)
      rw [reachL_hi (by omega)]
      simp only [if_pos (show v < q.1 by omega)]
theorem gap_hit {r : Rn} {s : List Rn} {v : Nat} (h1 : r.1 ≤ v) (h2 : v ≤ r.2) : gapL (r :: s) v = if r.2 = two64 - 1 then (0, false) else (r.2 + 1, true) := by
  unfold gapL
  rw [reachL_hi (by omega)]
  simp only [if_neg (show ¬ v < r.1 by omega)]
theorem canon_drop {L : List Rn} (h : Canon L) (k : Nat) : Canon (L.drop k) := ⟨List.Pairwise.sublist (List.drop_sublist _ _) h.far, fun q hq => h.ok q (List.mem_of_mem_drop hq)⟩
def GapRel (w : World) (P : List Rn) (v gk : Nat) (vi : Value) (wr : World) : Prop :=
  ∃ k : Nat, gk + k = P.length ∧ vi = .int .i64 (k : Int) ∧ gapL P v = gapL (P.drop k) v ∧ Below w.heap.size w wr
/-! ### Count -/
theorem card_app (L M : List Rn) : cardL (L ++ M) = cardL L + cardL M := by
  induction L with
  | nil => simp [cardL]
  | cons r s ih => rw [List.cons_append, cardL, cardL, ih]; omega
def CouRel (w : World) (P : List Rn) (gk : Nat) (vc vi : Value) (wr : World) : Prop :=
  ∃ k a : Nat, gk + k = P.length ∧ vc = .int .u64 (a : Int) ∧ vi = .int .i64 (k : Int) ∧ a + cardL (P.drop k) = cardL P ∧ a < two64 ∧ Below w.heap.size w wr
end Go.Proofs.Ytjgkfoldbnjpeaa
