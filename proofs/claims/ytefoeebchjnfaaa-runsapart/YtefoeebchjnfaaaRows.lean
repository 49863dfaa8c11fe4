/-
  No cell of these rows narrows 'for every input' (looked for: loops, veiled, ifaces, maps, wideKeys, modest, calm, conditions, laid).
  DERIVED. THE GIVEN ROWS OF THIS SEAT. 11 by the template 'for every input the law returns true; each argument reads behind the call as it read before'; 0 by the template 'total and deterministic' (their statements: YtefoeebchjnfaaaTotals.lean).
  GIVEN WITH THE SEED: the statements are not yours to turn. If you find one false, say at which input.
  Laid BY PROGRAM, IN A SANDBOX (cutbox-rows.mjs): the forced cells as the released guide's own fill.sh prints them over the translation b6b8a3f7f6b9c3db… (all of the seat's roots in one cut). By AI agents, Wed Nov 11 2026. No macro, syntax, notation, axiom, sorry.
-/
import Derived.Test.YtefoeebchjnfaaaChecked
import GoSem.Claim
import GoSem.ClaimJoined
import GoSem.ClaimMapViews
import Derived.JoinedTies
import Derived.KernelRfl
namespace Go.Proofs.Ytefoeebchjnfaaa
/- THE CELL 'sum', in the pinned program and in every row, IS THE sha256 OF THE DUMP (.gsa) THAT YtefoeebchjnfaaaProg.lean LOADS. Nothing in Lean hashes anything: it is a label: what it is worth is what the hold of that sum in a sandbox is worth. -/
noncomputable def Try.pinned : Pinned := { name := "ytefoeebchjnfaaa", sum := "b6b8a3f7f6b9c3dbd3f96de41ba1cb5edde1b59415b7d9d373eaad59cc5a0730", checked := Try.checked }
namespace Rows
def none {H : Type} : Left H := { results := [], args := [] }

/-- 'sumpterlaw03.RunsSpans': WHATEVER THE INPUT: true; the input reads as it did. -/
def runsSpansSpec : ChangeSpec := { name := "runsSpans", fn := fun _ => fun
  | [d1, d2] => { results := [.lit (.bool true)], args := [d1, d2] }
  | _ => none }
def runsSpansRow : OpenClaim := { program := "ytefoeebchjnfaaa", sum := "b6b8a3f7f6b9c3dbd3f96de41ba1cb5edde1b59415b7d9d373eaad59cc5a0730", func := "sumpter/sumpterlaw03.RunsSpans", spec := "runsSpans", unfollowed := true, recurses := true, apart := false }
def RunsSpansSaid : Prop := runsSpansRow.holds Try.pinned (OpenSpec.ofChange runsSpansSpec)

/-- ITS FALSE NEIGHBOUR: 'it returns false'. Refute it at one input. -/
def runsSpansWrong : ChangeSpec := { name := "runsSpans", fn := fun _ => fun
  | [d1, d2] => { results := [.lit (.bool false)], args := [d1, d2] }
  | _ => none }
def RunsSpansWrongFalsely : Prop := runsSpansRow.holds Try.pinned (OpenSpec.ofChange runsSpansWrong)

/-- 'sumpterlaw03.RunsSets': WHATEVER THE INPUT: true; the input reads as it did. -/
def runsSetsSpec : ChangeSpec := { name := "runsSets", fn := fun _ => fun
  | [d1, d2, d3] => { results := [.lit (.bool true)], args := [d1, d2, d3] }
  | _ => none }
def runsSetsRow : OpenClaim := { program := "ytefoeebchjnfaaa", sum := "b6b8a3f7f6b9c3dbd3f96de41ba1cb5edde1b59415b7d9d373eaad59cc5a0730", func := "sumpter/sumpterlaw03.RunsSets", spec := "runsSets", unfollowed := true, recurses := true, apart := false }
def RunsSetsSaid : Prop := runsSetsRow.holds Try.pinned (OpenSpec.ofChange runsSetsSpec)

/-- ITS FALSE NEIGHBOUR: 'it returns false'. Refute it at one input. -/
def runsSetsWrong : ChangeSpec := { name := "runsSets", fn := fun _ => fun
  | [d1, d2, d3] => { results := [.lit (.bool false)], args := [d1, d2, d3] }
  | _ => none }
def RunsSetsWrongFalsely : Prop := runsSetsRow.holds Try.pinned (OpenSpec.ofChange runsSetsWrong)

/-- 'sumpterlaw03.RunsMakes': WHATEVER THE INPUT: true; the input reads as it did. -/
def runsMakesSpec : ChangeSpec := { name := "runsMakes", fn := fun _ => fun
  | [d] => { results := [.lit (.bool true)], args := [d] }
  | _ => none }
def runsMakesRow : OpenClaim := { program := "ytefoeebchjnfaaa", sum := "b6b8a3f7f6b9c3dbd3f96de41ba1cb5edde1b59415b7d9d373eaad59cc5a0730", func := "sumpter/sumpterlaw03.RunsMakes", spec := "runsMakes", unfollowed := true, recurses := true, apart := false }
def RunsMakesSaid : Prop := runsMakesRow.holds Try.pinned (OpenSpec.ofChange runsMakesSpec)

/-- ITS FALSE NEIGHBOUR: 'it returns false'. Refute it at one input. -/
def runsMakesWrong : ChangeSpec := { name := "runsMakes", fn := fun _ => fun
  | [d] => { results := [.lit (.bool false)], args := [d] }
  | _ => none }
def RunsMakesWrongFalsely : Prop := runsMakesRow.holds Try.pinned (OpenSpec.ofChange runsMakesWrong)

/-- 'sumpterlaw03.RunsNumbers': WHATEVER THE INPUT: true; the input reads as it did. -/
def runsNumbersSpec : ChangeSpec := { name := "runsNumbers", fn := fun _ => fun
  | [d1, d2] => { results := [.lit (.bool true)], args := [d1, d2] }
  | _ => none }
def runsNumbersRow : OpenClaim := { program := "ytefoeebchjnfaaa", sum := "b6b8a3f7f6b9c3dbd3f96de41ba1cb5edde1b59415b7d9d373eaad59cc5a0730", func := "sumpter/sumpterlaw03.RunsNumbers", spec := "runsNumbers", unfollowed := true, recurses := true, apart := false }
def RunsNumbersSaid : Prop := runsNumbersRow.holds Try.pinned (OpenSpec.ofChange runsNumbersSpec)

/-- ITS FALSE NEIGHBOUR: 'it returns false'. Refute it at one input. -/
def runsNumbersWrong : ChangeSpec := { name := "runsNumbers", fn := fun _ => fun
  | [d1, d2] => { results := [.lit (.bool false)], args := [d1, d2] }
  | _ => none }
def RunsNumbersWrongFalsely : Prop := runsNumbersRow.holds Try.pinned (OpenSpec.ofChange runsNumbersWrong)

/-- 'sumpterlaw03.RunsApart': WHATEVER THE INPUT: true; the input reads as it did. -/
def runsApartSpec : ChangeSpec := { name := "runsApart", fn := fun _ => fun
  | [d1, d2] => { results := [.lit (.bool true)], args := [d1, d2] }
  | _ => none }
def runsApartRow : OpenClaim := { program := "ytefoeebchjnfaaa", sum := "b6b8a3f7f6b9c3dbd3f96de41ba1cb5edde1b59415b7d9d373eaad59cc5a0730", func := "sumpter/sumpterlaw03.RunsApart", spec := "runsApart", unfollowed := true, recurses := true, apart := false }
def RunsApartSaid : Prop := runsApartRow.holds Try.pinned (OpenSpec.ofChange runsApartSpec)

/-- ITS FALSE NEIGHBOUR: 'it returns false'. Refute it at one input. -/
def runsApartWrong : ChangeSpec := { name := "runsApart", fn := fun _ => fun
  | [d1, d2] => { results := [.lit (.bool false)], args := [d1, d2] }
  | _ => none }
def RunsApartWrongFalsely : Prop := runsApartRow.holds Try.pinned (OpenSpec.ofChange runsApartWrong)

/-- 'sumpterlaw03.RunsAlgebra': WHATEVER THE INPUT: true; the input reads as it did. -/
def runsAlgebraSpec : ChangeSpec := { name := "runsAlgebra", fn := fun _ => fun
  | [d1, d2, d3] => { results := [.lit (.bool true)], args := [d1, d2, d3] }
  | _ => none }
def runsAlgebraRow : OpenClaim := { program := "ytefoeebchjnfaaa", sum := "b6b8a3f7f6b9c3dbd3f96de41ba1cb5edde1b59415b7d9d373eaad59cc5a0730", func := "sumpter/sumpterlaw03.RunsAlgebra", spec := "runsAlgebra", unfollowed := true, recurses := true, apart := false }
def RunsAlgebraSaid : Prop := runsAlgebraRow.holds Try.pinned (OpenSpec.ofChange runsAlgebraSpec)

/-- ITS FALSE NEIGHBOUR: 'it returns false'. Refute it at one input. -/
def runsAlgebraWrong : ChangeSpec := { name := "runsAlgebra", fn := fun _ => fun
  | [d1, d2, d3] => { results := [.lit (.bool false)], args := [d1, d2, d3] }
  | _ => none }
def RunsAlgebraWrongFalsely : Prop := runsAlgebraRow.holds Try.pinned (OpenSpec.ofChange runsAlgebraWrong)

/-- 'sumpterlaw03.RunsGaps': WHATEVER THE INPUT: true; the input reads as it did. -/
def runsGapsSpec : ChangeSpec := { name := "runsGaps", fn := fun _ => fun
  | [d1, d2] => { results := [.lit (.bool true)], args := [d1, d2] }
  | _ => none }
def runsGapsRow : OpenClaim := { program := "ytefoeebchjnfaaa", sum := "b6b8a3f7f6b9c3dbd3f96de41ba1cb5edde1b59415b7d9d373eaad59cc5a0730", func := "sumpter/sumpterlaw03.RunsGaps", spec := "runsGaps", unfollowed := true, recurses := true, apart := false }
def RunsGapsSaid : Prop := runsGapsRow.holds Try.pinned (OpenSpec.ofChange runsGapsSpec)

/-- ITS FALSE NEIGHBOUR: 'it returns false'. Refute it at one input. -/
def runsGapsWrong : ChangeSpec := { name := "runsGaps", fn := fun _ => fun
  | [d1, d2] => { results := [.lit (.bool false)], args := [d1, d2] }
  | _ => none }
def RunsGapsWrongFalsely : Prop := runsGapsRow.holds Try.pinned (OpenSpec.ofChange runsGapsWrong)

/-- 'sumpterlaw04.SpanPuts': WHATEVER THE INPUT: true; the input reads as it did. -/
def spanPutsSpec : ChangeSpec := { name := "spanPuts", fn := fun _ => fun
  | [d1, d2, d3, d4] => { results := [.lit (.bool true)], args := [d1, d2, d3, d4] }
  | _ => none }
def spanPutsRow : OpenClaim := { program := "ytefoeebchjnfaaa", sum := "b6b8a3f7f6b9c3dbd3f96de41ba1cb5edde1b59415b7d9d373eaad59cc5a0730", func := "sumpter/sumpterlaw04.SpanPuts", spec := "spanPuts", recurses := true, apart := false }
def SpanPutsSaid : Prop := spanPutsRow.holds Try.pinned (OpenSpec.ofChange spanPutsSpec)

/-- ITS FALSE NEIGHBOUR: 'it returns false'. Refute it at one input. -/
def spanPutsWrong : ChangeSpec := { name := "spanPuts", fn := fun _ => fun
  | [d1, d2, d3, d4] => { results := [.lit (.bool false)], args := [d1, d2, d3, d4] }
  | _ => none }
def SpanPutsWrongFalsely : Prop := spanPutsRow.holds Try.pinned (OpenSpec.ofChange spanPutsWrong)

/-- 'sumpterlaw04.SpanGets': WHATEVER THE INPUT: true; the input reads as it did. -/
def spanGetsSpec : ChangeSpec := { name := "spanGets", fn := fun _ => fun
  | [d] => { results := [.lit (.bool true)], args := [d] }
  | _ => none }
def spanGetsRow : OpenClaim := { program := "ytefoeebchjnfaaa", sum := "b6b8a3f7f6b9c3dbd3f96de41ba1cb5edde1b59415b7d9d373eaad59cc5a0730", func := "sumpter/sumpterlaw04.SpanGets", spec := "spanGets", apart := false }
def SpanGetsSaid : Prop := spanGetsRow.holds Try.pinned (OpenSpec.ofChange spanGetsSpec)

/-- ITS FALSE NEIGHBOUR: 'it returns false'. Refute it at one input. -/
def spanGetsWrong : ChangeSpec := { name := "spanGets", fn := fun _ => fun
  | [d] => { results := [.lit (.bool false)], args := [d] }
  | _ => none }
def SpanGetsWrongFalsely : Prop := spanGetsRow.holds Try.pinned (OpenSpec.ofChange spanGetsWrong)

/-- 'sumpterlaw04.SpanRights': WHATEVER THE INPUT: true; the input reads as it did. -/
def spanRightsSpec : ChangeSpec := { name := "spanRights", fn := fun _ => fun
  | [d1, d2, d3, d4, d5] => { results := [.lit (.bool true)], args := [d1, d2, d3, d4, d5] }
  | _ => none }
def spanRightsRow : OpenClaim := { program := "ytefoeebchjnfaaa", sum := "b6b8a3f7f6b9c3dbd3f96de41ba1cb5edde1b59415b7d9d373eaad59cc5a0730", func := "sumpter/sumpterlaw04.SpanRights", spec := "spanRights", apart := false }
def SpanRightsSaid : Prop := spanRightsRow.holds Try.pinned (OpenSpec.ofChange spanRightsSpec)

/-- ITS FALSE NEIGHBOUR: 'it returns false'. Refute it at one input. -/
def spanRightsWrong : ChangeSpec := { name := "spanRights", fn := fun _ => fun
  | [d1, d2, d3, d4, d5] => { results := [.lit (.bool false)], args := [d1, d2, d3, d4, d5] }
  | _ => none }
def SpanRightsWrongFalsely : Prop := spanRightsRow.holds Try.pinned (OpenSpec.ofChange spanRightsWrong)

/-- 'sumpterlaw04.SpanRows': WHATEVER THE INPUT: true; the input reads as it did. -/
def spanRowsSpec : ChangeSpec := { name := "spanRows", fn := fun _ => fun
  | [d1, d2] => { results := [.lit (.bool true)], args := [d1, d2] }
  | _ => none }
def spanRowsRow : OpenClaim := { program := "ytefoeebchjnfaaa", sum := "b6b8a3f7f6b9c3dbd3f96de41ba1cb5edde1b59415b7d9d373eaad59cc5a0730", func := "sumpter/sumpterlaw04.SpanRows", spec := "spanRows", apart := false }
def SpanRowsSaid : Prop := spanRowsRow.holds Try.pinned (OpenSpec.ofChange spanRowsSpec)

/-- ITS FALSE NEIGHBOUR: 'it returns false'. Refute it at one input. -/
def spanRowsWrong : ChangeSpec := { name := "spanRows", fn := fun _ => fun
  | [d1, d2] => { results := [.lit (.bool false)], args := [d1, d2] }
  | _ => none }
def SpanRowsWrongFalsely : Prop := spanRowsRow.holds Try.pinned (OpenSpec.ofChange spanRowsWrong)

/- THE SECOND FORM. 'bulk': how many values and letters a reading holds, each counted each time it is reached (what is shared counts as often as it is met; a slice's spare places count too). A statement '..UptoSaid' is the law's where the arguments, and the package variables that the reading takes, are together of bulk at most 1048576: NARROWER than '..Said'. Prove '..Said' where nothing that the law and all that it calls make is longer than what came in: it says more and counts as full. Else prove '..UptoSaid'. A law counts once. -/
mutual
def uptoBulk {H : Type} : DataW H → Nat
  | .lit (.string bytes) => bytes.length + 1
  | .lit _ => 1
  | .nil => 1
  | .ptr d => uptoBulk d + 1
  | .slice elems spare => uptoBulkAll elems + uptoBulkAll spare + 1
  | .agg parts => uptoBulkAll parts + 1
  | .iface _ d => uptoBulk d + 1
  | .map entries => uptoBulkEntries entries + 1
  | .held _ => 1
def uptoBulkAll {H : Type} : List (DataW H) → Nat
  | [] => 0
  | d :: r => uptoBulk d + uptoBulkAll r
def uptoBulkEntries {H : Type} : List (Lit × DataW H) → Nat
  | [] => 0
  | x :: r => uptoBulkEntry x + uptoBulkEntries r
def uptoBulkEntry {H : Type} : Lit × DataW H → Nat
  | (.string bytes, d) => bytes.length + uptoBulk d + 1
  | (_, d) => uptoBulk d + 1
 end
def uptoSmall : (H : Type) → List (DataW H) → Bool := fun _ ds => decide (uptoBulkAll ds ≤ 1048576)
def OpenSpec.upto (s : _root_.Go.ChangeSpec) : _root_.Go.OpenSpec := { _root_.Go.OpenSpec.ofChange s with cond := some uptoSmall }

/-- 'sumpterlaw03.RunsSpans', WHERE WHAT IT READS IS OF BULK AT MOST 1048576: true; the input reads as it did. -/
def runsSpansUptoRow : OpenClaim := { program := "ytefoeebchjnfaaa", sum := "b6b8a3f7f6b9c3dbd3f96de41ba1cb5edde1b59415b7d9d373eaad59cc5a0730", func := "sumpter/sumpterlaw03.RunsSpans", spec := "runsSpans", unfollowed := true, recurses := true, apart := false, narrowed := true }
def RunsSpansUptoSaid : Prop := runsSpansUptoRow.holds Try.pinned (OpenSpec.upto runsSpansSpec)

/-- 'sumpterlaw03.RunsSets', WHERE WHAT IT READS IS OF BULK AT MOST 1048576: true; the input reads as it did. -/
def runsSetsUptoRow : OpenClaim := { program := "ytefoeebchjnfaaa", sum := "b6b8a3f7f6b9c3dbd3f96de41ba1cb5edde1b59415b7d9d373eaad59cc5a0730", func := "sumpter/sumpterlaw03.RunsSets", spec := "runsSets", unfollowed := true, recurses := true, apart := false, narrowed := true }
def RunsSetsUptoSaid : Prop := runsSetsUptoRow.holds Try.pinned (OpenSpec.upto runsSetsSpec)

/-- 'sumpterlaw03.RunsMakes', WHERE WHAT IT READS IS OF BULK AT MOST 1048576: true; the input reads as it did. -/
def runsMakesUptoRow : OpenClaim := { program := "ytefoeebchjnfaaa", sum := "b6b8a3f7f6b9c3dbd3f96de41ba1cb5edde1b59415b7d9d373eaad59cc5a0730", func := "sumpter/sumpterlaw03.RunsMakes", spec := "runsMakes", unfollowed := true, recurses := true, apart := false, narrowed := true }
def RunsMakesUptoSaid : Prop := runsMakesUptoRow.holds Try.pinned (OpenSpec.upto runsMakesSpec)

/-- 'sumpterlaw03.RunsNumbers', WHERE WHAT IT READS IS OF BULK AT MOST 1048576: true; the input reads as it did. -/
def runsNumbersUptoRow : OpenClaim := { program := "ytefoeebchjnfaaa", sum := "b6b8a3f7f6b9c3dbd3f96de41ba1cb5edde1b59415b7d9d373eaad59cc5a0730", func := "sumpter/sumpterlaw03.RunsNumbers", spec := "runsNumbers", unfollowed := true, recurses := true, apart := false, narrowed := true }
def RunsNumbersUptoSaid : Prop := runsNumbersUptoRow.holds Try.pinned (OpenSpec.upto runsNumbersSpec)

/-- 'sumpterlaw03.RunsApart', WHERE WHAT IT READS IS OF BULK AT MOST 1048576: true; the input reads as it did. -/
def runsApartUptoRow : OpenClaim := { program := "ytefoeebchjnfaaa", sum := "b6b8a3f7f6b9c3dbd3f96de41ba1cb5edde1b59415b7d9d373eaad59cc5a0730", func := "sumpter/sumpterlaw03.RunsApart", spec := "runsApart", unfollowed := true, recurses := true, apart := false, narrowed := true }
def RunsApartUptoSaid : Prop := runsApartUptoRow.holds Try.pinned (OpenSpec.upto runsApartSpec)

/-- 'sumpterlaw03.RunsAlgebra', WHERE WHAT IT READS IS OF BULK AT MOST 1048576: true; the input reads as it did. -/
def runsAlgebraUptoRow : OpenClaim := { program := "ytefoeebchjnfaaa", sum := "b6b8a3f7f6b9c3dbd3f96de41ba1cb5edde1b59415b7d9d373eaad59cc5a0730", func := "sumpter/sumpterlaw03.RunsAlgebra", spec := "runsAlgebra", unfollowed := true, recurses := true, apart := false, narrowed := true }
def RunsAlgebraUptoSaid : Prop := runsAlgebraUptoRow.holds Try.pinned (OpenSpec.upto runsAlgebraSpec)

/-- 'sumpterlaw03.RunsGaps', WHERE WHAT IT READS IS OF BULK AT MOST 1048576: true; the input reads as it did. -/
def runsGapsUptoRow : OpenClaim := { program := "ytefoeebchjnfaaa", sum := "b6b8a3f7f6b9c3dbd3f96de41ba1cb5edde1b59415b7d9d373eaad59cc5a0730", func := "sumpter/sumpterlaw03.RunsGaps", spec := "runsGaps", unfollowed := true, recurses := true, apart := false, narrowed := true }
def RunsGapsUptoSaid : Prop := runsGapsUptoRow.holds Try.pinned (OpenSpec.upto runsGapsSpec)

/-- 'sumpterlaw04.SpanPuts', WHERE WHAT IT READS IS OF BULK AT MOST 1048576: true; the input reads as it did. -/
def spanPutsUptoRow : OpenClaim := { program := "ytefoeebchjnfaaa", sum := "b6b8a3f7f6b9c3dbd3f96de41ba1cb5edde1b59415b7d9d373eaad59cc5a0730", func := "sumpter/sumpterlaw04.SpanPuts", spec := "spanPuts", recurses := true, apart := false, narrowed := true }
def SpanPutsUptoSaid : Prop := spanPutsUptoRow.holds Try.pinned (OpenSpec.upto spanPutsSpec)

/-- 'sumpterlaw04.SpanGets', WHERE WHAT IT READS IS OF BULK AT MOST 1048576: true; the input reads as it did. -/
def spanGetsUptoRow : OpenClaim := { program := "ytefoeebchjnfaaa", sum := "b6b8a3f7f6b9c3dbd3f96de41ba1cb5edde1b59415b7d9d373eaad59cc5a0730", func := "sumpter/sumpterlaw04.SpanGets", spec := "spanGets", apart := false, narrowed := true }
def SpanGetsUptoSaid : Prop := spanGetsUptoRow.holds Try.pinned (OpenSpec.upto spanGetsSpec)

/-- 'sumpterlaw04.SpanRights', WHERE WHAT IT READS IS OF BULK AT MOST 1048576: true; the input reads as it did. -/
def spanRightsUptoRow : OpenClaim := { program := "ytefoeebchjnfaaa", sum := "b6b8a3f7f6b9c3dbd3f96de41ba1cb5edde1b59415b7d9d373eaad59cc5a0730", func := "sumpter/sumpterlaw04.SpanRights", spec := "spanRights", apart := false, narrowed := true }
def SpanRightsUptoSaid : Prop := spanRightsUptoRow.holds Try.pinned (OpenSpec.upto spanRightsSpec)

/-- 'sumpterlaw04.SpanRows', WHERE WHAT IT READS IS OF BULK AT MOST 1048576: true; the input reads as it did. -/
def spanRowsUptoRow : OpenClaim := { program := "ytefoeebchjnfaaa", sum := "b6b8a3f7f6b9c3dbd3f96de41ba1cb5edde1b59415b7d9d373eaad59cc5a0730", func := "sumpter/sumpterlaw04.SpanRows", spec := "spanRows", apart := false, narrowed := true }
def SpanRowsUptoSaid : Prop := spanRowsUptoRow.holds Try.pinned (OpenSpec.upto spanRowsSpec)

end Rows
end Go.Proofs.Ytefoeebchjnfaaa
