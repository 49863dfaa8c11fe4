/-
  WHAT THE CARDS OF THE LAWS ON SUMS SHARE: the table is read as the program's text lays it; a world for the witness.
  No statement is proved here.
-/
import Derived.Test.YtmafdoodgkhgeaaDoorCards
import Derived.Test.YtmafdoodgkhgeaaDoorTie
import Derived.Test.YtmafdoodgkhgeaaDoorMarkSum
import Derived.ProofKit
import Derived.OpenShut
import Derived.ShutString
import Derived.ChangeOld
import Derived.Deep.DeepHandedRow
import Derived.Lib.LaidTab
namespace Go.Proofs.YtmafdoodgkhgeaaDoor
open Go.ChangeShapes Go.WideShapes Go.ChangeAt Go.RowKit

theorem ownK : ownKnob Tryd.prog.godebug = none := by kernel_rfl
theorem laidOut : laidOutB Tryd.prog = true := by kernel_rfl
theorem gTab : Tryd.prog.globalNamed "sumpter/mark.halves" = some 0 := by kernel_rfl
theorem gTabType : (Tryd.prog.globals[0]?).map (·.type) = some 44 := by kernel_rfl
theorem cellsTab : Tryd.prog.cellsOf 44 = 16 := by kernel_rfl
theorem cellsU32 : Tryd.prog.cellsOf 27 = 1 := by kernel_rfl

def halves : List Int := [0, 498536548, 997073096, 651767980, 1994146192, 1802195444, 1303535960, 1342533948, 3988292384, 4027552580, 3604390888, 3412177804, 2607071920, 2262029012, 2685067896, 3183342108]
theorem halves_all : ∀ i : Fin 16, halves.getD i.val 0 = (hv i.val : Int) := by decide

/-- The listed table, read: the contracts' own word for it. -/
theorem tabAt {W : World} (h : laidMetH Tryd.prog [("sumpter/mark.halves", Rows.laid_sumpter_mark_halves)] W) : TabAt W := by
  have ht : Lib.TabIs Tryd.prog W "sumpter/mark.halves" .u32 halves := Lib.tabIs_of_head (rest := []) gTab gTabType Tryd.underlying44 Tryd.underlying27 cellsU32 cellsTab h
  refine ⟨fun i hi => ?_⟩
  have h1 := ht.cell gTab i hi
  rw [halves_all ⟨i, hi⟩] at h1
  exact h1

/-- A world for the witness: the settled one, the table holding what its initialiser lays. -/
noncomputable def laidWorld (os : Os) : World :=
  { World.holding Tryd.prog os ⟨#[], #[], []⟩ with heap := (World.holding Tryd.prog os ⟨#[], #[], []⟩).heap.modify 0 fun
      | .cells _ t frozen => .cells #[.int .u32 0, .int .u32 498536548, .int .u32 997073096, .int .u32 651767980, .int .u32 1994146192, .int .u32 1802195444, .int .u32 1303535960, .int .u32 1342533948, .int .u32 3988292384, .int .u32 4027552580, .int .u32 3604390888, .int .u32 3412177804, .int .u32 2607071920, .int .u32 2262029012, .int .u32 2685067896, .int .u32 3183342108] t frozen
      | o => o }

/-- A slice of bytes that came in, opened. -/
theorem came_bytes {H : Type} {enc : TypeId × Value → H} {W : World} {base : Nat} {v : Value} {d : DataW H} {p : List MemPlace}
    (hv : Value.okWide Tryd.prog W .any base 22 v) (h : DataW.Trod enc Tryd.prog W 0 (fun _ => true) true 22 v d p) :
    ∃ A n c l, v = .slice A n c ∧ Sl W W.heap.size A n c l := by
  obtain ⟨A, n, c, rfl⟩ := okWide_slice Tryd.underlying22 hv
  obtain ⟨fuel, hf⟩ := h
  rcases open_ints Tryd.underlying22 Tryd.underlying5 (by kernel_rfl) hf with ⟨hcs, _⟩ | ⟨x, l, c', zs, hcs, _, hl, hm, hz, _, hcell, hwz⟩
  · simp [Value.cells] at hcs
    obtain ⟨rfl, rfl, rfl⟩ := hcs
    exact ⟨none, 0, 0, [], rfl, Sl.nil_ _ _ _ _ (Nat.zero_le _)⟩
  · simp [Value.cells] at hcs
    obtain ⟨rfl, rfl, rfl⟩ := hcs
    obtain ⟨bs, hs⟩ := sl_of_row (w := W) (zs := zs) (.inr ⟨x, rfl, hl, hm, by simpa using hz, hcell, hwz⟩)
    exact ⟨_, _, _, bs, rfl, hs⟩
end Go.Proofs.YtmafdoodgkhgeaaDoor
