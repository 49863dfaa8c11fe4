/-
  No cell of these rows narrows 'for every input' (looked for: loops, veiled, ifaces, maps, wideKeys, modest, calm, conditions, laid).
  DERIVED. THE GIVEN ROWS OF THIS SEAT. 5 by the template 'for every input the law returns true; each argument reads behind the call as it read before'; 0 by the template 'total and deterministic' (their statements: YtbnhemmklbbnmaaTotals.lean).
  GIVEN WITH THE SEED: the statements are not yours to turn. If you find one false, say at which input.
  Laid BY PROGRAM, IN A SANDBOX (cutbox-rows.mjs): the forced cells as the released guide's own fill.sh prints them over the translation 560e6d28b2ea69ad… (all of the seat's roots in one cut). By AI agents, Wed Nov 11 2026. No macro, syntax, notation, axiom, sorry.
-/
import Derived.Test.YtbnhemmklbbnmaaChecked
import GoSem.Claim
import GoSem.ClaimJoined
import GoSem.ClaimMapViews
import Derived.JoinedTies
import Derived.KernelRfl
namespace Go.Proofs.Ytbnhemmklbbnmaa
/- THE CELL 'sum', in the pinned program and in every row, IS THE sha256 OF THE DUMP (.gsa) THAT YtbnhemmklbbnmaaProg.lean LOADS. Nothing in Lean hashes anything: it is a label: what it is worth is what the hold of that sum in a sandbox is worth. -/
noncomputable def Try.pinned : Pinned := { name := "ytbnhemmklbbnmaa", sum := "560e6d28b2ea69ad075ebf638b53479c9d37ad936a127183388905b7db0a5f94", checked := Try.checked }
namespace Rows
def none {H : Type} : Left H := { results := [], args := [] }

/-- 'sumpterlaw13.BoardPlays': WHATEVER THE INPUT: true; the input reads as it did. -/
def boardPlaysSpec : ChangeSpec := { name := "boardPlays", fn := fun _ => fun
  | [d1, d2, d3] => { results := [.lit (.bool true)], args := [d1, d2, d3] }
  | _ => none }
def boardPlaysRow : OpenClaim := { program := "ytbnhemmklbbnmaa", sum := "560e6d28b2ea69ad075ebf638b53479c9d37ad936a127183388905b7db0a5f94", func := "sumpter/sumpterlaw13.BoardPlays", spec := "boardPlays", unfollowed := true, recurses := true, apart := false }
def BoardPlaysSaid : Prop := boardPlaysRow.holds Try.pinned (OpenSpec.ofChange boardPlaysSpec)

/-- ITS FALSE NEIGHBOUR: 'it returns false'. Refute it at one input. -/
def boardPlaysWrong : ChangeSpec := { name := "boardPlays", fn := fun _ => fun
  | [d1, d2, d3] => { results := [.lit (.bool false)], args := [d1, d2, d3] }
  | _ => none }
def BoardPlaysWrongFalsely : Prop := boardPlaysRow.holds Try.pinned (OpenSpec.ofChange boardPlaysWrong)

/-- 'sumpterlaw13.BoardAgain': WHATEVER THE INPUT: true; the input reads as it did. -/
def boardAgainSpec : ChangeSpec := { name := "boardAgain", fn := fun _ => fun
  | [d1, d2, d3, d4, d5] => { results := [.lit (.bool true)], args := [d1, d2, d3, d4, d5] }
  | _ => none }
def boardAgainRow : OpenClaim := { program := "ytbnhemmklbbnmaa", sum := "560e6d28b2ea69ad075ebf638b53479c9d37ad936a127183388905b7db0a5f94", func := "sumpter/sumpterlaw13.BoardAgain", spec := "boardAgain", unfollowed := true, recurses := true, apart := false }
def BoardAgainSaid : Prop := boardAgainRow.holds Try.pinned (OpenSpec.ofChange boardAgainSpec)

/-- ITS FALSE NEIGHBOUR: 'it returns false'. Refute it at one input. -/
def boardAgainWrong : ChangeSpec := { name := "boardAgain", fn := fun _ => fun
  | [d1, d2, d3, d4, d5] => { results := [.lit (.bool false)], args := [d1, d2, d3, d4, d5] }
  | _ => none }
def BoardAgainWrongFalsely : Prop := boardAgainRow.holds Try.pinned (OpenSpec.ofChange boardAgainWrong)

/-- 'sumpterlaw13.BoardOnce': WHATEVER THE INPUT: true; the input reads as it did. -/
def boardOnceSpec : ChangeSpec := { name := "boardOnce", fn := fun _ => fun
  | [d1, d2] => { results := [.lit (.bool true)], args := [d1, d2] }
  | _ => none }
def boardOnceRow : OpenClaim := { program := "ytbnhemmklbbnmaa", sum := "560e6d28b2ea69ad075ebf638b53479c9d37ad936a127183388905b7db0a5f94", func := "sumpter/sumpterlaw13.BoardOnce", spec := "boardOnce", unfollowed := true, recurses := true, apart := false }
def BoardOnceSaid : Prop := boardOnceRow.holds Try.pinned (OpenSpec.ofChange boardOnceSpec)

/-- ITS FALSE NEIGHBOUR: 'it returns false'. Refute it at one input. -/
def boardOnceWrong : ChangeSpec := { name := "boardOnce", fn := fun _ => fun
  | [d1, d2] => { results := [.lit (.bool false)], args := [d1, d2] }
  | _ => none }
def BoardOnceWrongFalsely : Prop := boardOnceRow.holds Try.pinned (OpenSpec.ofChange boardOnceWrong)

/-- 'sumpterlaw13.BoardNil': WHATEVER THE INPUT: true; the input reads as it did. -/
def boardNilSpec : ChangeSpec := { name := "boardNil", fn := fun _ => fun
  | [d1, d2, d3] => { results := [.lit (.bool true)], args := [d1, d2, d3] }
  | _ => none }
def boardNilRow : OpenClaim := { program := "ytbnhemmklbbnmaa", sum := "560e6d28b2ea69ad075ebf638b53479c9d37ad936a127183388905b7db0a5f94", func := "sumpter/sumpterlaw13.BoardNil", spec := "boardNil", unfollowed := true, recurses := true, apart := false }
def BoardNilSaid : Prop := boardNilRow.holds Try.pinned (OpenSpec.ofChange boardNilSpec)

/-- ITS FALSE NEIGHBOUR: 'it returns false'. Refute it at one input. -/
def boardNilWrong : ChangeSpec := { name := "boardNil", fn := fun _ => fun
  | [d1, d2, d3] => { results := [.lit (.bool false)], args := [d1, d2, d3] }
  | _ => none }
def BoardNilWrongFalsely : Prop := boardNilRow.holds Try.pinned (OpenSpec.ofChange boardNilWrong)

/-- 'sumpterlaw13.BoardTakes': WHATEVER THE INPUT: true; the input reads as it did. -/
def boardTakesSpec : ChangeSpec := { name := "boardTakes", fn := fun _ => fun
  | [d1, d2, d3, d4] => { results := [.lit (.bool true)], args := [d1, d2, d3, d4] }
  | _ => none }
def boardTakesRow : OpenClaim := { program := "ytbnhemmklbbnmaa", sum := "560e6d28b2ea69ad075ebf638b53479c9d37ad936a127183388905b7db0a5f94", func := "sumpter/sumpterlaw13.BoardTakes", spec := "boardTakes", unfollowed := true, recurses := true, apart := false }
def BoardTakesSaid : Prop := boardTakesRow.holds Try.pinned (OpenSpec.ofChange boardTakesSpec)

/-- ITS FALSE NEIGHBOUR: 'it returns false'. Refute it at one input. -/
def boardTakesWrong : ChangeSpec := { name := "boardTakes", fn := fun _ => fun
  | [d1, d2, d3, d4] => { results := [.lit (.bool false)], args := [d1, d2, d3, d4] }
  | _ => none }
def BoardTakesWrongFalsely : Prop := boardTakesRow.holds Try.pinned (OpenSpec.ofChange boardTakesWrong)

/- THE SECOND FORM. 'bulk': how many values and letters a reading holds, each counted each time it is reached (what is shared counts as often as it is met; a slice's spare places count too). A statement '..UptoSaid' is the law's where the arguments, and the package variables that the reading takes, are together of bulk at most 1048576: NARROWER than '..Said'. Prove '..Said' where nothing that the law and all that it calls make is longer than what came in: it says more and counts as full. Else prove '..UptoSaid'. A law counts once. -/
mutual
def uptoBulk {H : Type} : DataW H → Nat
  | .lit (.string bytes) => bytes.length + 1
  | .lit _ => 1
  | .nil => 1
  | .ptr d => uptoBulk d + 1
  | .slice elems spare => uptoBulkAll elems + uptoBulkAll spare + 1
  | .agg parts => uptoBulkAll parts + 1
  | .iface _ d => uptoBulk d + 1
  | .map entries => uptoBulkEntries entries + 1
  | .held _ => 1
def uptoBulkAll {H : Type} : List (DataW H) → Nat
  | [] => 0
  | d :: r => uptoBulk d + uptoBulkAll r
def uptoBulkEntries {H : Type} : List (Lit × DataW H) → Nat
  | [] => 0
  | x :: r => uptoBulkEntry x + uptoBulkEntries r
def uptoBulkEntry {H : Type} : Lit × DataW H → Nat
  | (.string bytes, d) => bytes.length + uptoBulk d + 1
  | (_, d) => uptoBulk d + 1
 end
def uptoSmall : (H : Type) → List (DataW H) → Bool := fun _ ds => decide (uptoBulkAll ds ≤ 1048576)
def OpenSpec.upto (s : _root_.Go.ChangeSpec) : _root_.Go.OpenSpec := { _root_.Go.OpenSpec.ofChange s with cond := some uptoSmall }

/-- 'sumpterlaw13.BoardPlays', WHERE WHAT IT READS IS OF BULK AT MOST 1048576: true; the input reads as it did. -/
def boardPlaysUptoRow : OpenClaim := { program := "ytbnhemmklbbnmaa", sum := "560e6d28b2ea69ad075ebf638b53479c9d37ad936a127183388905b7db0a5f94", func := "sumpter/sumpterlaw13.BoardPlays", spec := "boardPlays", unfollowed := true, recurses := true, apart := false, narrowed := true }
def BoardPlaysUptoSaid : Prop := boardPlaysUptoRow.holds Try.pinned (OpenSpec.upto boardPlaysSpec)

/-- 'sumpterlaw13.BoardAgain', WHERE WHAT IT READS IS OF BULK AT MOST 1048576: true; the input reads as it did. -/
def boardAgainUptoRow : OpenClaim := { program := "ytbnhemmklbbnmaa", sum := "560e6d28b2ea69ad075ebf638b53479c9d37ad936a127183388905b7db0a5f94", func := "sumpter/sumpterlaw13.BoardAgain", spec := "boardAgain", unfollowed := true, recurses := true, apart := false, narrowed := true }
def BoardAgainUptoSaid : Prop := boardAgainUptoRow.holds Try.pinned (OpenSpec.upto boardAgainSpec)

/-- 'sumpterlaw13.BoardOnce', WHERE WHAT IT READS IS OF BULK AT MOST 1048576: true; the input reads as it did. -/
def boardOnceUptoRow : OpenClaim := { program := "ytbnhemmklbbnmaa", sum := "560e6d28b2ea69ad075ebf638b53479c9d37ad936a127183388905b7db0a5f94", func := "sumpter/sumpterlaw13.BoardOnce", spec := "boardOnce", unfollowed := true, recurses := true, apart := false, narrowed := true }
def BoardOnceUptoSaid : Prop := boardOnceUptoRow.holds Try.pinned (OpenSpec.upto boardOnceSpec)

/-- 'sumpterlaw13.BoardNil', WHERE WHAT IT READS IS OF BULK AT MOST 1048576: true; the input reads as it did. -/
def boardNilUptoRow : OpenClaim := { program := "ytbnhemmklbbnmaa", sum := "560e6d28b2ea69ad075ebf638b53479c9d37ad936a127183388905b7db0a5f94", func := "sumpter/sumpterlaw13.BoardNil", spec := "boardNil", unfollowed := true, recurses := true, apart := false, narrowed := true }
def BoardNilUptoSaid : Prop := boardNilUptoRow.holds Try.pinned (OpenSpec.upto boardNilSpec)

/-- 'sumpterlaw13.BoardTakes', WHERE WHAT IT READS IS OF BULK AT MOST 1048576: true; the input reads as it did. -/
def boardTakesUptoRow : OpenClaim := { program := "ytbnhemmklbbnmaa", sum := "560e6d28b2ea69ad075ebf638b53479c9d37ad936a127183388905b7db0a5f94", func := "sumpter/sumpterlaw13.BoardTakes", spec := "boardTakes", unfollowed := true, recurses := true, apart := false, narrowed := true }
def BoardTakesUptoSaid : Prop := boardTakesUptoRow.holds Try.pinned (OpenSpec.upto boardTakesSpec)

end Rows
end Go.Proofs.Ytbnhemmklbbnmaa
