/-
  AN ARGUMENT THAT CAME IN, opened: a frame. What the cards of the laws on frames share: the table is read as the program's text lays it; a world for the witness.
  No statement is proved here.
-/
import Derived.Test.YtlkcnpmgafckoaaDoorCards
import Derived.Test.YtlkcnpmgafckoaaDoorTie
import Derived.Test.YtlkcnpmgafckoaaDoorFrameMath
import Derived.Test.YtlkcnpmgafckoaaDoorFrBaseB
import Derived.ProofKit
import Derived.OpenShut
import Derived.ShutString
import Derived.ChangeOld
import Derived.Deep.DeepHandedRow
import Derived.Lib.LaidTab
namespace Go.Proofs.YtlkcnpmgafckoaaDoor
open Go.ChangeShapes Go.WideShapes Go.ChangeAt Go.RowKit

theorem gTab : Tryd.prog.globalNamed "sumpter/mark.halves" = some 0 := by kernel_rfl
theorem gTabType : (Tryd.prog.globals[0]?).map (·.type) = some 135 := by kernel_rfl
theorem cellsTab : Tryd.prog.cellsOf 135 = 16 := by kernel_rfl
theorem cellsU32 : Tryd.prog.cellsOf 100 = 1 := by kernel_rfl
def halves : List Int := [0, 498536548, 997073096, 651767980, 1994146192, 1802195444, 1303535960, 1342533948, 3988292384, 4027552580, 3604390888, 3412177804, 2607071920, 2262029012, 2685067896, 3183342108]
theorem halves_all : ∀ i : Fin 16, halves.getD i.val 0 = (hv i.val : Int) := by decide

/-- The listed table, read: the contracts' own word for it. -/
theorem tabAt {W : World} (h : laidMetH Tryd.prog [("sumpter/mark.halves", Rows.laid_sumpter_mark_halves)] W) : TabAt W := by
  have ht : Lib.TabIs Tryd.prog W "sumpter/mark.halves" .u32 halves := Lib.tabIs_of_head (rest := []) gTab gTabType Tryd.underlying135 Tryd.underlying100 cellsU32 cellsTab h
  refine ⟨fun i hi => ?_⟩
  have h1 := ht.cell gTab i hi
  rw [halves_all ⟨i, hi⟩] at h1
  exact h1

/-- A world for the witness: the settled one, the table holding what its initialiser lays. -/
noncomputable def laidWorld (os : Os) : World :=
  { World.holding Tryd.prog os ⟨#[], #[], []⟩ with heap := (World.holding Tryd.prog os ⟨#[], #[], []⟩).heap.modify 0 fun
      | .cells _ t frozen => .cells #[.int .u32 0, .int .u32 498536548, .int .u32 997073096, .int .u32 651767980, .int .u32 1994146192, .int .u32 1802195444, .int .u32 1303535960, .int .u32 1342533948, .int .u32 3988292384, .int .u32 4027552580, .int .u32 3604390888, .int .u32 3412177804, .int .u32 2607071920, .int .u32 2262029012, .int .u32 2685067896, .int .u32 3183342108] t frozen
      | o => o }


theorem array9 {cs : Array Value} (h : cs.size = 9) : ∃ c0 c1 c2 c3 c4 c5 c6 c7 c8, cs = #[c0, c1, c2, c3, c4, c5, c6, c7, c8] := by
  obtain ⟨l⟩ := cs
  match l, h with
  | [c0, c1, c2, c3, c4, c5, c6, c7, c8], _ => exact ⟨c0, c1, c2, c3, c4, c5, c6, c7, c8, rfl⟩
end Go.Proofs.YtlkcnpmgafckoaaDoor
