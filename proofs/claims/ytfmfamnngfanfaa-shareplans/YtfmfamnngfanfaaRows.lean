/-
  No cell of these rows narrows 'for every input' (looked for: loops, veiled, ifaces, maps, wideKeys, modest, calm, conditions, laid).
  DERIVED. THE GIVEN ROWS OF THIS SEAT. 10 by the template 'for every input the law returns true; each argument reads behind the call as it read before'; 0 by the template 'total and deterministic' (their statements: YtfmfamnngfanfaaTotals.lean).
  GIVEN WITH THE SEED: the statements are not yours to turn. If you find one false, say at which input.
  Laid BY PROGRAM, IN A SANDBOX (cutbox-rows.mjs): the forced cells as the released guide's own fill.sh prints them over the translation fd2c95d0673fedd3… (all of the seat's roots in one cut). By AI agents, Wed Nov 11 2026. No macro, syntax, notation, axiom, sorry.
-/
import Derived.Test.YtfmfamnngfanfaaChecked
import GoSem.Claim
import GoSem.ClaimJoined
import GoSem.ClaimMapViews
import Derived.JoinedTies
import Derived.KernelRfl
namespace Go.Proofs.Ytfmfamnngfanfaa
/- THE CELL 'sum', in the pinned program and in every row, IS THE sha256 OF THE DUMP (.gsa) THAT YtfmfamnngfanfaaProg.lean LOADS. Nothing in Lean hashes anything: it is a label: what it is worth is what the hold of that sum in a sandbox is worth. -/
noncomputable def Try.pinned : Pinned := { name := "ytfmfamnngfanfaa", sum := "fd2c95d0673fedd3dbec39e7b649c18212138464cfb832b06e40634c91dc450a", checked := Try.checked }
namespace Rows
def none {H : Type} : Left H := { results := [], args := [] }

/-- 'sumpterlaw08.SharePlans': WHATEVER THE INPUT: true; the input reads as it did. -/
def sharePlansSpec : ChangeSpec := { name := "sharePlans", fn := fun _ => fun
  | [d1, d2, d3, d4, d5] => { results := [.lit (.bool true)], args := [d1, d2, d3, d4, d5] }
  | _ => none }
def sharePlansRow : OpenClaim := { program := "ytfmfamnngfanfaa", sum := "fd2c95d0673fedd3dbec39e7b649c18212138464cfb832b06e40634c91dc450a", func := "sumpter/sumpterlaw08.SharePlans", spec := "sharePlans", unfollowed := true, recurses := true, apart := false }
def SharePlansSaid : Prop := sharePlansRow.holds Try.pinned (OpenSpec.ofChange sharePlansSpec)

/-- ITS FALSE NEIGHBOUR: 'it returns false'. Refute it at one input. -/
def sharePlansWrong : ChangeSpec := { name := "sharePlans", fn := fun _ => fun
  | [d1, d2, d3, d4, d5] => { results := [.lit (.bool false)], args := [d1, d2, d3, d4, d5] }
  | _ => none }
def SharePlansWrongFalsely : Prop := sharePlansRow.holds Try.pinned (OpenSpec.ofChange sharePlansWrong)

/-- 'sumpterlaw09.QueuePlays': WHATEVER THE INPUT: true; the input reads as it did. -/
def queuePlaysSpec : ChangeSpec := { name := "queuePlays", fn := fun _ => fun
  | [d1, d2, d3] => { results := [.lit (.bool true)], args := [d1, d2, d3] }
  | _ => none }
def queuePlaysRow : OpenClaim := { program := "ytfmfamnngfanfaa", sum := "fd2c95d0673fedd3dbec39e7b649c18212138464cfb832b06e40634c91dc450a", func := "sumpter/sumpterlaw09.QueuePlays", spec := "queuePlays", unfollowed := true, recurses := true, apart := false }
def QueuePlaysSaid : Prop := queuePlaysRow.holds Try.pinned (OpenSpec.ofChange queuePlaysSpec)

/-- ITS FALSE NEIGHBOUR: 'it returns false'. Refute it at one input. -/
def queuePlaysWrong : ChangeSpec := { name := "queuePlays", fn := fun _ => fun
  | [d1, d2, d3] => { results := [.lit (.bool false)], args := [d1, d2, d3] }
  | _ => none }
def QueuePlaysWrongFalsely : Prop := queuePlaysRow.holds Try.pinned (OpenSpec.ofChange queuePlaysWrong)

/-- 'sumpterlaw09.QueueBounds': WHATEVER THE INPUT: true; the input reads as it did. -/
def queueBoundsSpec : ChangeSpec := { name := "queueBounds", fn := fun _ => fun
  | [d1, d2, d3] => { results := [.lit (.bool true)], args := [d1, d2, d3] }
  | _ => none }
def queueBoundsRow : OpenClaim := { program := "ytfmfamnngfanfaa", sum := "fd2c95d0673fedd3dbec39e7b649c18212138464cfb832b06e40634c91dc450a", func := "sumpter/sumpterlaw09.QueueBounds", spec := "queueBounds", unfollowed := true, recurses := true, apart := false }
def QueueBoundsSaid : Prop := queueBoundsRow.holds Try.pinned (OpenSpec.ofChange queueBoundsSpec)

/-- ITS FALSE NEIGHBOUR: 'it returns false'. Refute it at one input. -/
def queueBoundsWrong : ChangeSpec := { name := "queueBounds", fn := fun _ => fun
  | [d1, d2, d3] => { results := [.lit (.bool false)], args := [d1, d2, d3] }
  | _ => none }
def QueueBoundsWrongFalsely : Prop := queueBoundsRow.holds Try.pinned (OpenSpec.ofChange queueBoundsWrong)

/-- 'sumpterlaw09.QueueKeeps': WHATEVER THE INPUT: true; the input reads as it did. -/
def queueKeepsSpec : ChangeSpec := { name := "queueKeeps", fn := fun _ => fun
  | [d1, d2] => { results := [.lit (.bool true)], args := [d1, d2] }
  | _ => none }
def queueKeepsRow : OpenClaim := { program := "ytfmfamnngfanfaa", sum := "fd2c95d0673fedd3dbec39e7b649c18212138464cfb832b06e40634c91dc450a", func := "sumpter/sumpterlaw09.QueueKeeps", spec := "queueKeeps", unfollowed := true, recurses := true, apart := false }
def QueueKeepsSaid : Prop := queueKeepsRow.holds Try.pinned (OpenSpec.ofChange queueKeepsSpec)

/-- ITS FALSE NEIGHBOUR: 'it returns false'. Refute it at one input. -/
def queueKeepsWrong : ChangeSpec := { name := "queueKeeps", fn := fun _ => fun
  | [d1, d2] => { results := [.lit (.bool false)], args := [d1, d2] }
  | _ => none }
def QueueKeepsWrongFalsely : Prop := queueKeepsRow.holds Try.pinned (OpenSpec.ofChange queueKeepsWrong)

/-- 'sumpterlaw09.QueueNil': WHATEVER THE INPUT: true; the input reads as it did. -/
def queueNilSpec : ChangeSpec := { name := "queueNil", fn := fun _ => fun
  | [d1, d2, d3, d4] => { results := [.lit (.bool true)], args := [d1, d2, d3, d4] }
  | _ => none }
def queueNilRow : OpenClaim := { program := "ytfmfamnngfanfaa", sum := "fd2c95d0673fedd3dbec39e7b649c18212138464cfb832b06e40634c91dc450a", func := "sumpter/sumpterlaw09.QueueNil", spec := "queueNil", unfollowed := true, recurses := true, apart := false }
def QueueNilSaid : Prop := queueNilRow.holds Try.pinned (OpenSpec.ofChange queueNilSpec)

/-- ITS FALSE NEIGHBOUR: 'it returns false'. Refute it at one input. -/
def queueNilWrong : ChangeSpec := { name := "queueNil", fn := fun _ => fun
  | [d1, d2, d3, d4] => { results := [.lit (.bool false)], args := [d1, d2, d3, d4] }
  | _ => none }
def QueueNilWrongFalsely : Prop := queueNilRow.holds Try.pinned (OpenSpec.ofChange queueNilWrong)

/-- 'sumpterlaw09.QueueAges': WHATEVER THE INPUT: true; the input reads as it did. -/
def queueAgesSpec : ChangeSpec := { name := "queueAges", fn := fun _ => fun
  | [d1, d2, d3, d4] => { results := [.lit (.bool true)], args := [d1, d2, d3, d4] }
  | _ => none }
def queueAgesRow : OpenClaim := { program := "ytfmfamnngfanfaa", sum := "fd2c95d0673fedd3dbec39e7b649c18212138464cfb832b06e40634c91dc450a", func := "sumpter/sumpterlaw09.QueueAges", spec := "queueAges", unfollowed := true, recurses := true, apart := false }
def QueueAgesSaid : Prop := queueAgesRow.holds Try.pinned (OpenSpec.ofChange queueAgesSpec)

/-- ITS FALSE NEIGHBOUR: 'it returns false'. Refute it at one input. -/
def queueAgesWrong : ChangeSpec := { name := "queueAges", fn := fun _ => fun
  | [d1, d2, d3, d4] => { results := [.lit (.bool false)], args := [d1, d2, d3, d4] }
  | _ => none }
def QueueAgesWrongFalsely : Prop := queueAgesRow.holds Try.pinned (OpenSpec.ofChange queueAgesWrong)

/-- 'sumpterlaw12.AlarmPlays': WHATEVER THE INPUT: true; the input reads as it did. -/
def alarmPlaysSpec : ChangeSpec := { name := "alarmPlays", fn := fun _ => fun
  | [d] => { results := [.lit (.bool true)], args := [d] }
  | _ => none }
def alarmPlaysRow : OpenClaim := { program := "ytfmfamnngfanfaa", sum := "fd2c95d0673fedd3dbec39e7b649c18212138464cfb832b06e40634c91dc450a", func := "sumpter/sumpterlaw12.AlarmPlays", spec := "alarmPlays", unfollowed := true, recurses := true, apart := false }
def AlarmPlaysSaid : Prop := alarmPlaysRow.holds Try.pinned (OpenSpec.ofChange alarmPlaysSpec)

/-- ITS FALSE NEIGHBOUR: 'it returns false'. Refute it at one input. -/
def alarmPlaysWrong : ChangeSpec := { name := "alarmPlays", fn := fun _ => fun
  | [d] => { results := [.lit (.bool false)], args := [d] }
  | _ => none }
def AlarmPlaysWrongFalsely : Prop := alarmPlaysRow.holds Try.pinned (OpenSpec.ofChange alarmPlaysWrong)

/-- 'sumpterlaw12.AlarmSorts': WHATEVER THE INPUT: true; the input reads as it did. -/
def alarmSortsSpec : ChangeSpec := { name := "alarmSorts", fn := fun _ => fun
  | [d] => { results := [.lit (.bool true)], args := [d] }
  | _ => none }
def alarmSortsRow : OpenClaim := { program := "ytfmfamnngfanfaa", sum := "fd2c95d0673fedd3dbec39e7b649c18212138464cfb832b06e40634c91dc450a", func := "sumpter/sumpterlaw12.AlarmSorts", spec := "alarmSorts", unfollowed := true, recurses := true, apart := false }
def AlarmSortsSaid : Prop := alarmSortsRow.holds Try.pinned (OpenSpec.ofChange alarmSortsSpec)

/-- ITS FALSE NEIGHBOUR: 'it returns false'. Refute it at one input. -/
def alarmSortsWrong : ChangeSpec := { name := "alarmSorts", fn := fun _ => fun
  | [d] => { results := [.lit (.bool false)], args := [d] }
  | _ => none }
def AlarmSortsWrongFalsely : Prop := alarmSortsRow.holds Try.pinned (OpenSpec.ofChange alarmSortsWrong)

/-- 'sumpterlaw12.AlarmNil': WHATEVER THE INPUT: true; the input reads as it did. -/
def alarmNilSpec : ChangeSpec := { name := "alarmNil", fn := fun _ => fun
  | [d1, d2] => { results := [.lit (.bool true)], args := [d1, d2] }
  | _ => none }
def alarmNilRow : OpenClaim := { program := "ytfmfamnngfanfaa", sum := "fd2c95d0673fedd3dbec39e7b649c18212138464cfb832b06e40634c91dc450a", func := "sumpter/sumpterlaw12.AlarmNil", spec := "alarmNil", unfollowed := true, recurses := true, apart := false }
def AlarmNilSaid : Prop := alarmNilRow.holds Try.pinned (OpenSpec.ofChange alarmNilSpec)

/-- ITS FALSE NEIGHBOUR: 'it returns false'. Refute it at one input. -/
def alarmNilWrong : ChangeSpec := { name := "alarmNil", fn := fun _ => fun
  | [d1, d2] => { results := [.lit (.bool false)], args := [d1, d2] }
  | _ => none }
def AlarmNilWrongFalsely : Prop := alarmNilRow.holds Try.pinned (OpenSpec.ofChange alarmNilWrong)

/-- 'sumpterlaw12.AlarmMoves': WHATEVER THE INPUT: true; the input reads as it did. -/
def alarmMovesSpec : ChangeSpec := { name := "alarmMoves", fn := fun _ => fun
  | [d1, d2, d3, d4] => { results := [.lit (.bool true)], args := [d1, d2, d3, d4] }
  | _ => none }
def alarmMovesRow : OpenClaim := { program := "ytfmfamnngfanfaa", sum := "fd2c95d0673fedd3dbec39e7b649c18212138464cfb832b06e40634c91dc450a", func := "sumpter/sumpterlaw12.AlarmMoves", spec := "alarmMoves", unfollowed := true, recurses := true, apart := false }
def AlarmMovesSaid : Prop := alarmMovesRow.holds Try.pinned (OpenSpec.ofChange alarmMovesSpec)

/-- ITS FALSE NEIGHBOUR: 'it returns false'. Refute it at one input. -/
def alarmMovesWrong : ChangeSpec := { name := "alarmMoves", fn := fun _ => fun
  | [d1, d2, d3, d4] => { results := [.lit (.bool false)], args := [d1, d2, d3, d4] }
  | _ => none }
def AlarmMovesWrongFalsely : Prop := alarmMovesRow.holds Try.pinned (OpenSpec.ofChange alarmMovesWrong)

/- THE SECOND FORM. 'bulk': how many values and letters a reading holds, each counted each time it is reached (what is shared counts as often as it is met; a slice's spare places count too). A statement '..UptoSaid' is the law's where the arguments, and the package variables that the reading takes, are together of bulk at most 1048576: NARROWER than '..Said'. Prove '..Said' where nothing that the law and all that it calls make is longer than what came in: it says more and counts as full. Else prove '..UptoSaid'. A law counts once. -/
mutual
def uptoBulk {H : Type} : DataW H → Nat
  | .lit (.string bytes) => bytes.length + 1
  | .lit _ => 1
  | .nil => 1
  | .ptr d => uptoBulk d + 1
  | .slice elems spare => uptoBulkAll elems + uptoBulkAll spare + 1
  | .agg parts => uptoBulkAll parts + 1
  | .iface _ d => uptoBulk d + 1
  | .map entries => uptoBulkEntries entries + 1
  | .held _ => 1
def uptoBulkAll {H : Type} : List (DataW H) → Nat
  | [] => 0
  | d :: r => uptoBulk d + uptoBulkAll r
def uptoBulkEntries {H : Type} : List (Lit × DataW H) → Nat
  | [] => 0
  | x :: r => uptoBulkEntry x + uptoBulkEntries r
def uptoBulkEntry {H : Type} : Lit × DataW H → Nat
  | (.string bytes, d) => bytes.length + uptoBulk d + 1
  | (_, d) => uptoBulk d + 1
 end
def uptoSmall : (H : Type) → List (DataW H) → Bool := fun _ ds => decide (uptoBulkAll ds ≤ 1048576)
def OpenSpec.upto (s : _root_.Go.ChangeSpec) : _root_.Go.OpenSpec := { _root_.Go.OpenSpec.ofChange s with cond := some uptoSmall }

/-- 'sumpterlaw08.SharePlans', WHERE WHAT IT READS IS OF BULK AT MOST 1048576: true; the input reads as it did. -/
def sharePlansUptoRow : OpenClaim := { program := "ytfmfamnngfanfaa", sum := "fd2c95d0673fedd3dbec39e7b649c18212138464cfb832b06e40634c91dc450a", func := "sumpter/sumpterlaw08.SharePlans", spec := "sharePlans", unfollowed := true, recurses := true, apart := false, narrowed := true }
def SharePlansUptoSaid : Prop := sharePlansUptoRow.holds Try.pinned (OpenSpec.upto sharePlansSpec)

/-- 'sumpterlaw09.QueuePlays', WHERE WHAT IT READS IS OF BULK AT MOST 1048576: true; the input reads as it did. -/
def queuePlaysUptoRow : OpenClaim := { program := "ytfmfamnngfanfaa", sum := "fd2c95d0673fedd3dbec39e7b649c18212138464cfb832b06e40634c91dc450a", func := "sumpter/sumpterlaw09.QueuePlays", spec := "queuePlays", unfollowed := true, recurses := true, apart := false, narrowed := true }
def QueuePlaysUptoSaid : Prop := queuePlaysUptoRow.holds Try.pinned (OpenSpec.upto queuePlaysSpec)

/-- 'sumpterlaw09.QueueBounds', WHERE WHAT IT READS IS OF BULK AT MOST 1048576: true; the input reads as it did. -/
def queueBoundsUptoRow : OpenClaim := { program := "ytfmfamnngfanfaa", sum := "fd2c95d0673fedd3dbec39e7b649c18212138464cfb832b06e40634c91dc450a", func := "sumpter/sumpterlaw09.QueueBounds", spec := "queueBounds", unfollowed := true, recurses := true, apart := false, narrowed := true }
def QueueBoundsUptoSaid : Prop := queueBoundsUptoRow.holds Try.pinned (OpenSpec.upto queueBoundsSpec)

/-- 'sumpterlaw09.QueueKeeps', WHERE WHAT IT READS IS OF BULK AT MOST 1048576: true; the input reads as it did. -/
def queueKeepsUptoRow : OpenClaim := { program := "ytfmfamnngfanfaa", sum := "fd2c95d0673fedd3dbec39e7b649c18212138464cfb832b06e40634c91dc450a", func := "sumpter/sumpterlaw09.QueueKeeps", spec := "queueKeeps", unfollowed := true, recurses := true, apart := false, narrowed := true }
def QueueKeepsUptoSaid : Prop := queueKeepsUptoRow.holds Try.pinned (OpenSpec.upto queueKeepsSpec)

/-- 'sumpterlaw09.QueueNil', WHERE WHAT IT READS IS OF BULK AT MOST 1048576: true; the input reads as it did. -/
def queueNilUptoRow : OpenClaim := { program := "ytfmfamnngfanfaa", sum := "fd2c95d0673fedd3dbec39e7b649c18212138464cfb832b06e40634c91dc450a", func := "sumpter/sumpterlaw09.QueueNil", spec := "queueNil", unfollowed := true, recurses := true, apart := false, narrowed := true }
def QueueNilUptoSaid : Prop := queueNilUptoRow.holds Try.pinned (OpenSpec.upto queueNilSpec)

/-- 'sumpterlaw09.QueueAges', WHERE WHAT IT READS IS OF BULK AT MOST 1048576: true; the input reads as it did. -/
def queueAgesUptoRow : OpenClaim := { program := "ytfmfamnngfanfaa", sum := "fd2c95d0673fedd3dbec39e7b649c18212138464cfb832b06e40634c91dc450a", func := "sumpter/sumpterlaw09.QueueAges", spec := "queueAges", unfollowed := true, recurses := true, apart := false, narrowed := true }
def QueueAgesUptoSaid : Prop := queueAgesUptoRow.holds Try.pinned (OpenSpec.upto queueAgesSpec)

/-- 'sumpterlaw12.AlarmPlays', WHERE WHAT IT READS IS OF BULK AT MOST 1048576: true; the input reads as it did. -/
def alarmPlaysUptoRow : OpenClaim := { program := "ytfmfamnngfanfaa", sum := "fd2c95d0673fedd3dbec39e7b649c18212138464cfb832b06e40634c91dc450a", func := "sumpter/sumpterlaw12.AlarmPlays", spec := "alarmPlays", unfollowed := true, recurses := true, apart := false, narrowed := true }
def AlarmPlaysUptoSaid : Prop := alarmPlaysUptoRow.holds Try.pinned (OpenSpec.upto alarmPlaysSpec)

/-- 'sumpterlaw12.AlarmSorts', WHERE WHAT IT READS IS OF BULK AT MOST 1048576: true; the input reads as it did. -/
def alarmSortsUptoRow : OpenClaim := { program := "ytfmfamnngfanfaa", sum := "fd2c95d0673fedd3dbec39e7b649c18212138464cfb832b06e40634c91dc450a", func := "sumpter/sumpterlaw12.AlarmSorts", spec := "alarmSorts", unfollowed := true, recurses := true, apart := false, narrowed := true }
def AlarmSortsUptoSaid : Prop := alarmSortsUptoRow.holds Try.pinned (OpenSpec.upto alarmSortsSpec)

/-- 'sumpterlaw12.AlarmNil', WHERE WHAT IT READS IS OF BULK AT MOST 1048576: true; the input reads as it did. -/
def alarmNilUptoRow : OpenClaim := { program := "ytfmfamnngfanfaa", sum := "fd2c95d0673fedd3dbec39e7b649c18212138464cfb832b06e40634c91dc450a", func := "sumpter/sumpterlaw12.AlarmNil", spec := "alarmNil", unfollowed := true, recurses := true, apart := false, narrowed := true }
def AlarmNilUptoSaid : Prop := alarmNilUptoRow.holds Try.pinned (OpenSpec.upto alarmNilSpec)

/-- 'sumpterlaw12.AlarmMoves', WHERE WHAT IT READS IS OF BULK AT MOST 1048576: true; the input reads as it did. -/
def alarmMovesUptoRow : OpenClaim := { program := "ytfmfamnngfanfaa", sum := "fd2c95d0673fedd3dbec39e7b649c18212138464cfb832b06e40634c91dc450a", func := "sumpter/sumpterlaw12.AlarmMoves", spec := "alarmMoves", unfollowed := true, recurses := true, apart := false, narrowed := true }
def AlarmMovesUptoSaid : Prop := alarmMovesUptoRow.holds Try.pinned (OpenSpec.upto alarmMovesSpec)

end Rows
end Go.Proofs.Ytfmfamnngfanfaa
