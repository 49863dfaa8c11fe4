/-
  CONTRACTS of Below, From.
  No statement is proved here.
-/
import Derived.Test.YtlkcnpmgafckoaaDoorRunsLess
namespace Go.Proofs.YtlkcnpmgafckoaaDoor
open Go.RowKit

def belowL (L : List Rn) (v : Nat) : List Rn := lessL L (spanL [] v (two64 - 1))
def fromL (L : List Rn) (v : Nat) : List Rn := if v = 0 then L else lessL L (spanL [] 0 (v - 1))
theorem span1_len (f t : Nat) (hf : f < two64) (ht : t < two64) : (spanL [] f t).length ≤ 1 := span_len Okl.nil hf ht

end Go.Proofs.YtlkcnpmgafckoaaDoor
