/-
  NARROWER THAN 'FOR EVERY INPUT', by the rows' own cells (each row's printed sentence says how): FrameRights: laid · FrameEncodes: laid · FrameDecodes: laid · FrameInners: laid · FrameTurned: laid · FrameLong: laid · FrameOnce: laid.
  DERIVED. THE GIVEN ROWS OF THIS SEAT. 7 by the template 'for every input the law returns true; each argument reads behind the call as it read before'; 0 by the template 'total and deterministic' (their statements: YtlkcnpmgafckoaaDoorTotals.lean).
  GIVEN WITH THE SEED: the statements are not yours to turn. If you find one false, say at which input.
  Laid BY PROGRAM, IN A SANDBOX (cutbox-rows.mjs): the forced cells as the released guide's own fill.sh prints them over the translation 0a0252634b55a7c2… (all of the seat's roots in one cut). By AI agents, Wed Nov 11 2026. No macro, syntax, notation, axiom, sorry.
-/
import Derived.Test.YtlkcnpmgafckoaaDoorChecked
import GoSem.Claim
import GoSem.ClaimJoined
import GoSem.ClaimMapViews
import Derived.JoinedTies
import Derived.KernelRfl
namespace Go.Proofs.YtlkcnpmgafckoaaDoor
/- THE CELL 'sum', in the pinned program and in every row, IS THE sha256 OF THE DUMP (.gsa) THAT YtlkcnpmgafckoaaDoorProg.lean LOADS. Nothing in Lean hashes anything: it is a label: what it is worth is what the hold of that sum in a sandbox is worth. -/
noncomputable def Tryd.pinned : Pinned := { name := "ytlkcnpmgafckoaadoor", sum := "0a0252634b55a7c2fe3fd9aaa1ba5b660838f597bbc0b3a5e17a193b9f0a48d5", checked := Tryd.checked }
namespace Rows
def none {H : Type} : Left H := { results := [], args := [] }

/- WHAT THE LISTED PACKAGE-LEVEL VARIABLES READ AS WHEN THE CALL BEGINS. Each datum BY PROGRAM (the guide's laid-datum.mjs) off the statement by which the dump's own 'gosem.cut.vars' lays the variable. In a bare row this is a premise. The card (YtlkcnpmgafckoaaDoorCards.lean) ties it to the program's text. -/
def laid_sumpter_mark_halves {H : Type} : DataW H := .agg [.lit (.int .u32 0), .lit (.int .u32 498536548), .lit (.int .u32 997073096), .lit (.int .u32 651767980), .lit (.int .u32 1994146192), .lit (.int .u32 1802195444), .lit (.int .u32 1303535960), .lit (.int .u32 1342533948), .lit (.int .u32 3988292384), .lit (.int .u32 4027552580), .lit (.int .u32 3604390888), .lit (.int .u32 3412177804), .lit (.int .u32 2607071920), .lit (.int .u32 2262029012), .lit (.int .u32 2685067896), .lit (.int .u32 3183342108)]

/-- 'sumpterlaw05.FrameRights': WHATEVER THE INPUT: true; the input reads as it did. -/
def frameRightsSpec : ChangeSpec := { name := "frameRights", fn := fun _ => fun
  | [d] => { results := [.lit (.bool true)], args := [d] }
  | _ => none }
def frameRightsRow : OpenClaim := { program := "ytlkcnpmgafckoaadoor", sum := "0a0252634b55a7c2fe3fd9aaa1ba5b660838f597bbc0b3a5e17a193b9f0a48d5", func := "sumpter/sumpterlaw05.FrameRights", spec := "frameRights", unfollowed := true, recurses := true, named := ["sumpter/mark.halves"], apart := false, laid := [("sumpter/mark.halves", laid_sumpter_mark_halves)] }
def FrameRightsSaid : Prop := frameRightsRow.holds Tryd.pinned (OpenSpec.ofChange frameRightsSpec)

/-- ITS FALSE NEIGHBOUR: 'it returns false'. Refute it at one input. -/
def frameRightsWrong : ChangeSpec := { name := "frameRights", fn := fun _ => fun
  | [d] => { results := [.lit (.bool false)], args := [d] }
  | _ => none }
def FrameRightsWrongFalsely : Prop := frameRightsRow.holds Tryd.pinned (OpenSpec.ofChange frameRightsWrong)

/-- 'sumpterlaw05.FrameEncodes': WHATEVER THE INPUT: true; the input reads as it did. -/
def frameEncodesSpec : ChangeSpec := { name := "frameEncodes", fn := fun _ => fun
  | [d] => { results := [.lit (.bool true)], args := [d] }
  | _ => none }
def frameEncodesRow : OpenClaim := { program := "ytlkcnpmgafckoaadoor", sum := "0a0252634b55a7c2fe3fd9aaa1ba5b660838f597bbc0b3a5e17a193b9f0a48d5", func := "sumpter/sumpterlaw05.FrameEncodes", spec := "frameEncodes", unfollowed := true, recurses := true, named := ["sumpter/mark.halves"], apart := false, laid := [("sumpter/mark.halves", laid_sumpter_mark_halves)] }
def FrameEncodesSaid : Prop := frameEncodesRow.holds Tryd.pinned (OpenSpec.ofChange frameEncodesSpec)

/-- ITS FALSE NEIGHBOUR: 'it returns false'. Refute it at one input. -/
def frameEncodesWrong : ChangeSpec := { name := "frameEncodes", fn := fun _ => fun
  | [d] => { results := [.lit (.bool false)], args := [d] }
  | _ => none }
def FrameEncodesWrongFalsely : Prop := frameEncodesRow.holds Tryd.pinned (OpenSpec.ofChange frameEncodesWrong)

/-- 'sumpterlaw05.FrameDecodes': WHATEVER THE INPUT: true; the input reads as it did. -/
def frameDecodesSpec : ChangeSpec := { name := "frameDecodes", fn := fun _ => fun
  | [d] => { results := [.lit (.bool true)], args := [d] }
  | _ => none }
def frameDecodesRow : OpenClaim := { program := "ytlkcnpmgafckoaadoor", sum := "0a0252634b55a7c2fe3fd9aaa1ba5b660838f597bbc0b3a5e17a193b9f0a48d5", func := "sumpter/sumpterlaw05.FrameDecodes", spec := "frameDecodes", unfollowed := true, recurses := true, named := ["sumpter/mark.halves"], apart := false, laid := [("sumpter/mark.halves", laid_sumpter_mark_halves)] }
def FrameDecodesSaid : Prop := frameDecodesRow.holds Tryd.pinned (OpenSpec.ofChange frameDecodesSpec)

/-- ITS FALSE NEIGHBOUR: 'it returns false'. Refute it at one input. -/
def frameDecodesWrong : ChangeSpec := { name := "frameDecodes", fn := fun _ => fun
  | [d] => { results := [.lit (.bool false)], args := [d] }
  | _ => none }
def FrameDecodesWrongFalsely : Prop := frameDecodesRow.holds Tryd.pinned (OpenSpec.ofChange frameDecodesWrong)

/-- 'sumpterlaw05.FrameInners': WHATEVER THE INPUT: true; the input reads as it did. -/
def frameInnersSpec : ChangeSpec := { name := "frameInners", fn := fun _ => fun
  | [d] => { results := [.lit (.bool true)], args := [d] }
  | _ => none }
def frameInnersRow : OpenClaim := { program := "ytlkcnpmgafckoaadoor", sum := "0a0252634b55a7c2fe3fd9aaa1ba5b660838f597bbc0b3a5e17a193b9f0a48d5", func := "sumpter/sumpterlaw05.FrameInners", spec := "frameInners", unfollowed := true, recurses := true, named := ["sumpter/mark.halves"], apart := false, laid := [("sumpter/mark.halves", laid_sumpter_mark_halves)] }
def FrameInnersSaid : Prop := frameInnersRow.holds Tryd.pinned (OpenSpec.ofChange frameInnersSpec)

/-- ITS FALSE NEIGHBOUR: 'it returns false'. Refute it at one input. -/
def frameInnersWrong : ChangeSpec := { name := "frameInners", fn := fun _ => fun
  | [d] => { results := [.lit (.bool false)], args := [d] }
  | _ => none }
def FrameInnersWrongFalsely : Prop := frameInnersRow.holds Tryd.pinned (OpenSpec.ofChange frameInnersWrong)

/-- 'sumpterlaw05.FrameTurned': WHATEVER THE INPUT: true; the input reads as it did. -/
def frameTurnedSpec : ChangeSpec := { name := "frameTurned", fn := fun _ => fun
  | [d1, d2, d3] => { results := [.lit (.bool true)], args := [d1, d2, d3] }
  | _ => none }
def frameTurnedRow : OpenClaim := { program := "ytlkcnpmgafckoaadoor", sum := "0a0252634b55a7c2fe3fd9aaa1ba5b660838f597bbc0b3a5e17a193b9f0a48d5", func := "sumpter/sumpterlaw05.FrameTurned", spec := "frameTurned", unfollowed := true, recurses := true, named := ["sumpter/mark.halves"], apart := false, laid := [("sumpter/mark.halves", laid_sumpter_mark_halves)] }
def FrameTurnedSaid : Prop := frameTurnedRow.holds Tryd.pinned (OpenSpec.ofChange frameTurnedSpec)

/-- ITS FALSE NEIGHBOUR: 'it returns false'. Refute it at one input. -/
def frameTurnedWrong : ChangeSpec := { name := "frameTurned", fn := fun _ => fun
  | [d1, d2, d3] => { results := [.lit (.bool false)], args := [d1, d2, d3] }
  | _ => none }
def FrameTurnedWrongFalsely : Prop := frameTurnedRow.holds Tryd.pinned (OpenSpec.ofChange frameTurnedWrong)

/-- 'sumpterlaw05.FrameLong': WHATEVER THE INPUT: true; the input reads as it did. -/
def frameLongSpec : ChangeSpec := { name := "frameLong", fn := fun _ => fun
  | [d1, d2] => { results := [.lit (.bool true)], args := [d1, d2] }
  | _ => none }
def frameLongRow : OpenClaim := { program := "ytlkcnpmgafckoaadoor", sum := "0a0252634b55a7c2fe3fd9aaa1ba5b660838f597bbc0b3a5e17a193b9f0a48d5", func := "sumpter/sumpterlaw05.FrameLong", spec := "frameLong", unfollowed := true, recurses := true, named := ["sumpter/mark.halves"], apart := false, laid := [("sumpter/mark.halves", laid_sumpter_mark_halves)] }
def FrameLongSaid : Prop := frameLongRow.holds Tryd.pinned (OpenSpec.ofChange frameLongSpec)

/-- ITS FALSE NEIGHBOUR: 'it returns false'. Refute it at one input. -/
def frameLongWrong : ChangeSpec := { name := "frameLong", fn := fun _ => fun
  | [d1, d2] => { results := [.lit (.bool false)], args := [d1, d2] }
  | _ => none }
def FrameLongWrongFalsely : Prop := frameLongRow.holds Tryd.pinned (OpenSpec.ofChange frameLongWrong)

/-- 'sumpterlaw05.FrameOnce': WHATEVER THE INPUT: true; the input reads as it did. -/
def frameOnceSpec : ChangeSpec := { name := "frameOnce", fn := fun _ => fun
  | [d1, d2, d3] => { results := [.lit (.bool true)], args := [d1, d2, d3] }
  | _ => none }
def frameOnceRow : OpenClaim := { program := "ytlkcnpmgafckoaadoor", sum := "0a0252634b55a7c2fe3fd9aaa1ba5b660838f597bbc0b3a5e17a193b9f0a48d5", func := "sumpter/sumpterlaw05.FrameOnce", spec := "frameOnce", unfollowed := true, recurses := true, named := ["sumpter/mark.halves"], apart := false, laid := [("sumpter/mark.halves", laid_sumpter_mark_halves)] }
def FrameOnceSaid : Prop := frameOnceRow.holds Tryd.pinned (OpenSpec.ofChange frameOnceSpec)

/-- ITS FALSE NEIGHBOUR: 'it returns false'. Refute it at one input. -/
def frameOnceWrong : ChangeSpec := { name := "frameOnce", fn := fun _ => fun
  | [d1, d2, d3] => { results := [.lit (.bool false)], args := [d1, d2, d3] }
  | _ => none }
def FrameOnceWrongFalsely : Prop := frameOnceRow.holds Tryd.pinned (OpenSpec.ofChange frameOnceWrong)

/- THE SECOND FORM. 'bulk': how many values and letters a reading holds, each counted each time it is reached (what is shared counts as often as it is met; a slice's spare places count too). A statement '..UptoSaid' is the law's where the arguments, and the package variables that the reading takes, are together of bulk at most 1048576: NARROWER than '..Said'. Prove '..Said' where nothing that the law and all that it calls make is longer than what came in: it says more and counts as full. Else prove '..UptoSaid'. A law counts once. -/
mutual
def uptoBulk {H : Type} : DataW H → Nat
  | .lit (.string bytes) => bytes.length + 1
  | .lit _ => 1
  | .nil => 1
  | .ptr d => uptoBulk d + 1
  | .slice elems spare => uptoBulkAll elems + uptoBulkAll spare + 1
  | .agg parts => uptoBulkAll parts + 1
  | .iface _ d => uptoBulk d + 1
  | .map entries => uptoBulkEntries entries + 1
  | .held _ => 1
def uptoBulkAll {H : Type} : List (DataW H) → Nat
  | [] => 0
  | d :: r => uptoBulk d + uptoBulkAll r
def uptoBulkEntries {H : Type} : List (Lit × DataW H) → Nat
  | [] => 0
  | x :: r => uptoBulkEntry x + uptoBulkEntries r
def uptoBulkEntry {H : Type} : Lit × DataW H → Nat
  | (.string bytes, d) => bytes.length + uptoBulk d + 1
  | (_, d) => uptoBulk d + 1
 end
def uptoSmall : (H : Type) → List (DataW H) → Bool := fun _ ds => decide (uptoBulkAll ds ≤ 1048576)
def OpenSpec.upto (s : _root_.Go.ChangeSpec) : _root_.Go.OpenSpec := { _root_.Go.OpenSpec.ofChange s with cond := some uptoSmall }

/-- 'sumpterlaw05.FrameRights', WHERE WHAT IT READS IS OF BULK AT MOST 1048576: true; the input reads as it did. -/
def frameRightsUptoRow : OpenClaim := { program := "ytlkcnpmgafckoaadoor", sum := "0a0252634b55a7c2fe3fd9aaa1ba5b660838f597bbc0b3a5e17a193b9f0a48d5", func := "sumpter/sumpterlaw05.FrameRights", spec := "frameRights", unfollowed := true, recurses := true, named := ["sumpter/mark.halves"], apart := false, laid := [("sumpter/mark.halves", laid_sumpter_mark_halves)], narrowed := true }
def FrameRightsUptoSaid : Prop := frameRightsUptoRow.holds Tryd.pinned (OpenSpec.upto frameRightsSpec)

/-- 'sumpterlaw05.FrameEncodes', WHERE WHAT IT READS IS OF BULK AT MOST 1048576: true; the input reads as it did. -/
def frameEncodesUptoRow : OpenClaim := { program := "ytlkcnpmgafckoaadoor", sum := "0a0252634b55a7c2fe3fd9aaa1ba5b660838f597bbc0b3a5e17a193b9f0a48d5", func := "sumpter/sumpterlaw05.FrameEncodes", spec := "frameEncodes", unfollowed := true, recurses := true, named := ["sumpter/mark.halves"], apart := false, laid := [("sumpter/mark.halves", laid_sumpter_mark_halves)], narrowed := true }
def FrameEncodesUptoSaid : Prop := frameEncodesUptoRow.holds Tryd.pinned (OpenSpec.upto frameEncodesSpec)

/-- 'sumpterlaw05.FrameDecodes', WHERE WHAT IT READS IS OF BULK AT MOST 1048576: true; the input reads as it did. -/
def frameDecodesUptoRow : OpenClaim := { program := "ytlkcnpmgafckoaadoor", sum := "0a0252634b55a7c2fe3fd9aaa1ba5b660838f597bbc0b3a5e17a193b9f0a48d5", func := "sumpter/sumpterlaw05.FrameDecodes", spec := "frameDecodes", unfollowed := true, recurses := true, named := ["sumpter/mark.halves"], apart := false, laid := [("sumpter/mark.halves", laid_sumpter_mark_halves)], narrowed := true }
def FrameDecodesUptoSaid : Prop := frameDecodesUptoRow.holds Tryd.pinned (OpenSpec.upto frameDecodesSpec)

/-- 'sumpterlaw05.FrameInners', WHERE WHAT IT READS IS OF BULK AT MOST 1048576: true; the input reads as it did. -/
def frameInnersUptoRow : OpenClaim := { program := "ytlkcnpmgafckoaadoor", sum := "0a0252634b55a7c2fe3fd9aaa1ba5b660838f597bbc0b3a5e17a193b9f0a48d5", func := "sumpter/sumpterlaw05.FrameInners", spec := "frameInners", unfollowed := true, recurses := true, named := ["sumpter/mark.halves"], apart := false, laid := [("sumpter/mark.halves", laid_sumpter_mark_halves)], narrowed := true }
def FrameInnersUptoSaid : Prop := frameInnersUptoRow.holds Tryd.pinned (OpenSpec.upto frameInnersSpec)

/-- 'sumpterlaw05.FrameTurned', WHERE WHAT IT READS IS OF BULK AT MOST 1048576: true; the input reads as it did. -/
def frameTurnedUptoRow : OpenClaim := { program := "ytlkcnpmgafckoaadoor", sum := "0a0252634b55a7c2fe3fd9aaa1ba5b660838f597bbc0b3a5e17a193b9f0a48d5", func := "sumpter/sumpterlaw05.FrameTurned", spec := "frameTurned", unfollowed := true, recurses := true, named := ["sumpter/mark.halves"], apart := false, laid := [("sumpter/mark.halves", laid_sumpter_mark_halves)], narrowed := true }
def FrameTurnedUptoSaid : Prop := frameTurnedUptoRow.holds Tryd.pinned (OpenSpec.upto frameTurnedSpec)

/-- 'sumpterlaw05.FrameLong', WHERE WHAT IT READS IS OF BULK AT MOST 1048576: true; the input reads as it did. -/
def frameLongUptoRow : OpenClaim := { program := "ytlkcnpmgafckoaadoor", sum := "0a0252634b55a7c2fe3fd9aaa1ba5b660838f597bbc0b3a5e17a193b9f0a48d5", func := "sumpter/sumpterlaw05.FrameLong", spec := "frameLong", unfollowed := true, recurses := true, named := ["sumpter/mark.halves"], apart := false, laid := [("sumpter/mark.halves", laid_sumpter_mark_halves)], narrowed := true }
def FrameLongUptoSaid : Prop := frameLongUptoRow.holds Tryd.pinned (OpenSpec.upto frameLongSpec)

/-- 'sumpterlaw05.FrameOnce', WHERE WHAT IT READS IS OF BULK AT MOST 1048576: true; the input reads as it did. -/
def frameOnceUptoRow : OpenClaim := { program := "ytlkcnpmgafckoaadoor", sum := "0a0252634b55a7c2fe3fd9aaa1ba5b660838f597bbc0b3a5e17a193b9f0a48d5", func := "sumpter/sumpterlaw05.FrameOnce", spec := "frameOnce", unfollowed := true, recurses := true, named := ["sumpter/mark.halves"], apart := false, laid := [("sumpter/mark.halves", laid_sumpter_mark_halves)], narrowed := true }
def FrameOnceUptoSaid : Prop := frameOnceUptoRow.holds Tryd.pinned (OpenSpec.upto frameOnceSpec)

end Rows
end Go.Proofs.YtlkcnpmgafckoaaDoor
