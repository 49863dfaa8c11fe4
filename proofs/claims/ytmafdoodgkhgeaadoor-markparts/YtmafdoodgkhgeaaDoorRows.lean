/-
  NARROWER THAN 'FOR EVERY INPUT', by the rows' own cells (each row's printed sentence says how): MarkSums: laid · MarkCloses: laid · MarkOpens: laid · MarkShows: laid · MarkParts: laid.
  DERIVED. THE GIVEN ROWS OF THIS SEAT. 5 by the template 'for every input the law returns true; each argument reads behind the call as it read before'; 0 by the template 'total and deterministic' (their statements: YtmafdoodgkhgeaaDoorTotals.lean).
  GIVEN WITH THE SEED: the statements are not yours to turn. If you find one false, say at which input.
  Laid BY PROGRAM, IN A SANDBOX (cutbox-rows.mjs): the forced cells as the released guide's own fill.sh prints them over the translation f874550121bfac9d… (all of the seat's roots in one cut). By AI agents, Wed Nov 11 2026. No macro, syntax, notation, axiom, sorry.
-/
import Derived.Test.YtmafdoodgkhgeaaDoorChecked
import GoSem.Claim
import GoSem.ClaimJoined
import GoSem.ClaimMapViews
import Derived.JoinedTies
import Derived.KernelRfl
namespace Go.Proofs.YtmafdoodgkhgeaaDoor
/- THE CELL 'sum', in the pinned program and in every row, IS THE sha256 OF THE DUMP (.gsa) THAT YtmafdoodgkhgeaaDoorProg.lean LOADS. Nothing in Lean hashes anything: it is a label: what it is worth is what the hold of that sum in a sandbox is worth. -/
noncomputable def Tryd.pinned : Pinned := { name := "ytmafdoodgkhgeaadoor", sum := "f874550121bfac9d3b698fb7382c1f1713dc445751235e605a5d202f548c8d50", checked := Tryd.checked }
namespace Rows
def none {H : Type} : Left H := { results := [], args := [] }

/- WHAT THE LISTED PACKAGE-LEVEL VARIABLES READ AS WHEN THE CALL BEGINS. Each datum BY PROGRAM (the guide's laid-datum.mjs) off the statement by which the dump's own 'gosem.cut.vars' lays the variable. In a bare row this is a premise. The card (YtmafdoodgkhgeaaDoorCards.lean) ties it to the program's text. -/
def laid_sumpter_mark_halves {H : Type} : DataW H := .agg [.lit (.int .u32 0), .lit (.int .u32 498536548), .lit (.int .u32 997073096), .lit (.int .u32 651767980), .lit (.int .u32 1994146192), .lit (.int .u32 1802195444), .lit (.int .u32 1303535960), .lit (.int .u32 1342533948), .lit (.int .u32 3988292384), .lit (.int .u32 4027552580), .lit (.int .u32 3604390888), .lit (.int .u32 3412177804), .lit (.int .u32 2607071920), .lit (.int .u32 2262029012), .lit (.int .u32 2685067896), .lit (.int .u32 3183342108)]

/-- 'sumpterlaw01.MarkSums': WHATEVER THE INPUT: true; the input reads as it did. -/
def markSumsSpec : ChangeSpec := { name := "markSums", fn := fun _ => fun
  | [d1, d2] => { results := [.lit (.bool true)], args := [d1, d2] }
  | _ => none }
def markSumsRow : OpenClaim := { program := "ytmafdoodgkhgeaadoor", sum := "f874550121bfac9d3b698fb7382c1f1713dc445751235e605a5d202f548c8d50", func := "sumpter/sumpterlaw01.MarkSums", spec := "markSums", named := ["sumpter/mark.halves"], apart := false, laid := [("sumpter/mark.halves", laid_sumpter_mark_halves)] }
def MarkSumsSaid : Prop := markSumsRow.holds Tryd.pinned (OpenSpec.ofChange markSumsSpec)

/-- ITS FALSE NEIGHBOUR: 'it returns false'. Refute it at one input. -/
def markSumsWrong : ChangeSpec := { name := "markSums", fn := fun _ => fun
  | [d1, d2] => { results := [.lit (.bool false)], args := [d1, d2] }
  | _ => none }
def MarkSumsWrongFalsely : Prop := markSumsRow.holds Tryd.pinned (OpenSpec.ofChange markSumsWrong)

/-- 'sumpterlaw01.MarkCloses': WHATEVER THE INPUT: true; the input reads as it did. -/
def markClosesSpec : ChangeSpec := { name := "markCloses", fn := fun _ => fun
  | [d] => { results := [.lit (.bool true)], args := [d] }
  | _ => none }
def markClosesRow : OpenClaim := { program := "ytmafdoodgkhgeaadoor", sum := "f874550121bfac9d3b698fb7382c1f1713dc445751235e605a5d202f548c8d50", func := "sumpter/sumpterlaw01.MarkCloses", spec := "markCloses", named := ["sumpter/mark.halves"], apart := false, laid := [("sumpter/mark.halves", laid_sumpter_mark_halves)] }
def MarkClosesSaid : Prop := markClosesRow.holds Tryd.pinned (OpenSpec.ofChange markClosesSpec)

/-- ITS FALSE NEIGHBOUR: 'it returns false'. Refute it at one input. -/
def markClosesWrong : ChangeSpec := { name := "markCloses", fn := fun _ => fun
  | [d] => { results := [.lit (.bool false)], args := [d] }
  | _ => none }
def MarkClosesWrongFalsely : Prop := markClosesRow.holds Tryd.pinned (OpenSpec.ofChange markClosesWrong)

/-- 'sumpterlaw01.MarkOpens': WHATEVER THE INPUT: true; the input reads as it did. -/
def markOpensSpec : ChangeSpec := { name := "markOpens", fn := fun _ => fun
  | [d] => { results := [.lit (.bool true)], args := [d] }
  | _ => none }
def markOpensRow : OpenClaim := { program := "ytmafdoodgkhgeaadoor", sum := "f874550121bfac9d3b698fb7382c1f1713dc445751235e605a5d202f548c8d50", func := "sumpter/sumpterlaw01.MarkOpens", spec := "markOpens", named := ["sumpter/mark.halves"], apart := false, laid := [("sumpter/mark.halves", laid_sumpter_mark_halves)] }
def MarkOpensSaid : Prop := markOpensRow.holds Tryd.pinned (OpenSpec.ofChange markOpensSpec)

/-- ITS FALSE NEIGHBOUR: 'it returns false'. Refute it at one input. -/
def markOpensWrong : ChangeSpec := { name := "markOpens", fn := fun _ => fun
  | [d] => { results := [.lit (.bool false)], args := [d] }
  | _ => none }
def MarkOpensWrongFalsely : Prop := markOpensRow.holds Tryd.pinned (OpenSpec.ofChange markOpensWrong)

/-- 'sumpterlaw01.MarkShows': WHATEVER THE INPUT: true; the input reads as it did. -/
def markShowsSpec : ChangeSpec := { name := "markShows", fn := fun _ => fun
  | [d1, d2, d3] => { results := [.lit (.bool true)], args := [d1, d2, d3] }
  | _ => none }
def markShowsRow : OpenClaim := { program := "ytmafdoodgkhgeaadoor", sum := "f874550121bfac9d3b698fb7382c1f1713dc445751235e605a5d202f548c8d50", func := "sumpter/sumpterlaw01.MarkShows", spec := "markShows", named := ["sumpter/mark.halves"], apart := false, laid := [("sumpter/mark.halves", laid_sumpter_mark_halves)] }
def MarkShowsSaid : Prop := markShowsRow.holds Tryd.pinned (OpenSpec.ofChange markShowsSpec)

/-- ITS FALSE NEIGHBOUR: 'it returns false'. Refute it at one input. -/
def markShowsWrong : ChangeSpec := { name := "markShows", fn := fun _ => fun
  | [d1, d2, d3] => { results := [.lit (.bool false)], args := [d1, d2, d3] }
  | _ => none }
def MarkShowsWrongFalsely : Prop := markShowsRow.holds Tryd.pinned (OpenSpec.ofChange markShowsWrong)

/-- 'sumpterlaw01.MarkParts': WHATEVER THE INPUT: true; the input reads as it did. -/
def markPartsSpec : ChangeSpec := { name := "markParts", fn := fun _ => fun
  | [d1, d2, d3] => { results := [.lit (.bool true)], args := [d1, d2, d3] }
  | _ => none }
def markPartsRow : OpenClaim := { program := "ytmafdoodgkhgeaadoor", sum := "f874550121bfac9d3b698fb7382c1f1713dc445751235e605a5d202f548c8d50", func := "sumpter/sumpterlaw01.MarkParts", spec := "markParts", named := ["sumpter/mark.halves"], apart := false, laid := [("sumpter/mark.halves", laid_sumpter_mark_halves)] }
def MarkPartsSaid : Prop := markPartsRow.holds Tryd.pinned (OpenSpec.ofChange markPartsSpec)

/-- ITS FALSE NEIGHBOUR: 'it returns false'. Refute it at one input. -/
def markPartsWrong : ChangeSpec := { name := "markParts", fn := fun _ => fun
  | [d1, d2, d3] => { results := [.lit (.bool false)], args := [d1, d2, d3] }
  | _ => none }
def MarkPartsWrongFalsely : Prop := markPartsRow.holds Tryd.pinned (OpenSpec.ofChange markPartsWrong)

/- THE SECOND FORM. 'bulk': how many values and letters a reading holds, each counted each time it is reached (what is shared counts as often as it is met; a slice's spare places count too). A statement '..UptoSaid' is the law's where the arguments, and the package variables that the reading takes, are together of bulk at most 1048576: NARROWER than '..Said'. Prove '..Said' where nothing that the law and all that it calls make is longer than what came in: it says more and counts as full. Else prove '..UptoSaid'. A law counts once. -/
mutual
def uptoBulk {H : Type} : DataW H → Nat
  | .lit (.string bytes) => bytes.length + 1
  | .lit _ => 1
  | .nil => 1
  | .ptr d => uptoBulk d + 1
  | .slice elems spare => uptoBulkAll elems + uptoBulkAll spare + 1
  | .agg parts => uptoBulkAll parts + 1
  | .iface _ d => uptoBulk d + 1
  | .map entries => uptoBulkEntries entries + 1
  | .held _ => 1
def uptoBulkAll {H : Type} : List (DataW H) → Nat
  | [] => 0
  | d :: r => uptoBulk d + uptoBulkAll r
def uptoBulkEntries {H : Type} : List (Lit × DataW H) → Nat
  | [] => 0
  | x :: r => uptoBulkEntry x + uptoBulkEntries r
def uptoBulkEntry {H : Type} : Lit × DataW H → Nat
  | (.string bytes, d) => bytes.length + uptoBulk d + 1
  | (_, d) => uptoBulk d + 1
 end
def uptoSmall : (H : Type) → List (DataW H) → Bool := fun _ ds => decide (uptoBulkAll ds ≤ 1048576)
def OpenSpec.upto (s : _root_.Go.ChangeSpec) : _root_.Go.OpenSpec := { _root_.Go.OpenSpec.ofChange s with cond := some uptoSmall }

/-- 'sumpterlaw01.MarkSums', WHERE WHAT IT READS IS OF BULK AT MOST 1048576: true; the input reads as it did. -/
def markSumsUptoRow : OpenClaim := { program := "ytmafdoodgkhgeaadoor", sum := "f874550121bfac9d3b698fb7382c1f1713dc445751235e605a5d202f548c8d50", func := "sumpter/sumpterlaw01.MarkSums", spec := "markSums", named := ["sumpter/mark.halves"], apart := false, laid := [("sumpter/mark.halves", laid_sumpter_mark_halves)], narrowed := true }
def MarkSumsUptoSaid : Prop := markSumsUptoRow.holds Tryd.pinned (OpenSpec.upto markSumsSpec)

/-- 'sumpterlaw01.MarkCloses', WHERE WHAT IT READS IS OF BULK AT MOST 1048576: true; the input reads as it did. -/
def markClosesUptoRow : OpenClaim := { program := "ytmafdoodgkhgeaadoor", sum := "f874550121bfac9d3b698fb7382c1f1713dc445751235e605a5d202f548c8d50", func := "sumpter/sumpterlaw01.MarkCloses", spec := "markCloses", named := ["sumpter/mark.halves"], apart := false, laid := [("sumpter/mark.halves", laid_sumpter_mark_halves)], narrowed := true }
def MarkClosesUptoSaid : Prop := markClosesUptoRow.holds Tryd.pinned (OpenSpec.upto markClosesSpec)

/-- 'sumpterlaw01.MarkOpens', WHERE WHAT IT READS IS OF BULK AT MOST 1048576: true; the input reads as it did. -/
def markOpensUptoRow : OpenClaim := { program := "ytmafdoodgkhgeaadoor", sum := "f874550121bfac9d3b698fb7382c1f1713dc445751235e605a5d202f548c8d50", func := "sumpter/sumpterlaw01.MarkOpens", spec := "markOpens", named := ["sumpter/mark.halves"], apart := false, laid := [("sumpter/mark.halves", laid_sumpter_mark_halves)], narrowed := true }
def MarkOpensUptoSaid : Prop := markOpensUptoRow.holds Tryd.pinned (OpenSpec.upto markOpensSpec)

/-- 'sumpterlaw01.MarkShows', WHERE WHAT IT READS IS OF BULK AT MOST 1048576: true; the input reads as it did. -/
def markShowsUptoRow : OpenClaim := { program := "ytmafdoodgkhgeaadoor", sum := "f874550121bfac9d3b698fb7382c1f1713dc445751235e605a5d202f548c8d50", func := "sumpter/sumpterlaw01.MarkShows", spec := "markShows", named := ["sumpter/mark.halves"], apart := false, laid := [("sumpter/mark.halves", laid_sumpter_mark_halves)], narrowed := true }
def MarkShowsUptoSaid : Prop := markShowsUptoRow.holds Tryd.pinned (OpenSpec.upto markShowsSpec)

/-- 'sumpterlaw01.MarkParts', WHERE WHAT IT READS IS OF BULK AT MOST 1048576: true; the input reads as it did. -/
def markPartsUptoRow : OpenClaim := { program := "ytmafdoodgkhgeaadoor", sum := "f874550121bfac9d3b698fb7382c1f1713dc445751235e605a5d202f548c8d50", func := "sumpter/sumpterlaw01.MarkParts", spec := "markParts", named := ["sumpter/mark.halves"], apart := false, laid := [("sumpter/mark.halves", laid_sumpter_mark_halves)], narrowed := true }
def MarkPartsUptoSaid : Prop := markPartsUptoRow.holds Tryd.pinned (OpenSpec.upto markPartsSpec)

end Rows
end Go.Proofs.YtmafdoodgkhgeaaDoor
