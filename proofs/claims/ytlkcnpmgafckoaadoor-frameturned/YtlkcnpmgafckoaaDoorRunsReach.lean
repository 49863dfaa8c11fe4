/-
  CONTRACTS of sort.Search with reach's own test, reach, Has, Gap.
  No statement is proved here.
-/
import Derived.Test.YtlkcnpmgafckoaaDoorRunsSpan
namespace Go.Proofs.YtlkcnpmgafckoaaDoor
open Go.RowKit

def SearchRel (w : World) (k n gk : Nat) (vi vj : Value) (wr : World) : Prop :=
  ∃ i j q : Nat, gk + i = j ∧ i ≤ k ∧ k ≤ j ∧ j ≤ n ∧ vi = .int .i64 (i : Int) ∧ vj = .int .i64 (j : Int) ∧ wr = w.drewN q
/-! ### Has, Gap -/
end Go.Proofs.YtlkcnpmgafckoaaDoor
