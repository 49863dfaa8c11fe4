/-
  TEXTS OF EARLIER ROUNDS, laid together: part 15.
  No statement is proved here.
-/
import Derived.Test.YtbnhemmklbbnmaaRows
import Derived.ProofKit
import Derived.OpenShut
import Derived.ShutString
import Derived.ChangeOld
import Derived.Deep.Slices
import Derived.Lib.SmallJoins

/-! ## CameBase -/
namespace Go.Proofs.Ytbnhemmklbbnmaa
open Go.ChangeShapes Go.WideShapes Go.ChangeAt Go.RowKit

theorem ownK : ownKnob Try.prog.godebug = none := by kernel_rfl
theorem laidOut : laidOutB Try.prog = true := by kernel_rfl
end Go.Proofs.Ytbnhemmklbbnmaa
