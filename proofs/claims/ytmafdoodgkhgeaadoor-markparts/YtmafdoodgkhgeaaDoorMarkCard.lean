/-
  WHAT THE CARDS OF THE LAWS ON SUMS SHARE: the table is read as the program's text lays it; a world for the witness.
  No statement is proved here.
-/
import Derived.Test.YtmafdoodgkhgeaaDoorCards
import Derived.Test.YtmafdoodgkhgeaaDoorTie
import Derived.Test.YtmafdoodgkhgeaaDoorMarkSum
import Derived.ProofKit
import Derived.OpenShut
import Derived.ShutString
import Derived.ChangeOld
import Derived.Deep.DeepHandedRow
import Derived.Lib.LaidTab
namespace Go.Proofs.YtmafdoodgkhgeaaDoor
open Go.ChangeShapes Go.WideShapes Go.ChangeAt Go.RowKit

theorem ownK : ownKnob Tryd.prog.godebug = none := by kernel_rfl
theorem laidOut : laidOutB Tryd.prog = true := by kernel_rfl
theorem gTab : Tryd.prog.globalNamed "sumpter/mark.halves" = some 0 := by kernel_rfl
theorem gTabType : (Tryd.prog.globals[0]?).map (·.type) = some 44 := by kernel_rfl
theorem cellsTab : Tryd.prog.cellsOf 44 = 16 := by kernel_rfl
theorem cellsU32 : Tryd.prog.cellsOf 27 = 1 := by kernel_rfl

def halves : List Int := [0, 498536548, 997073096, 651767980, 1994146192, 1802195444, 1303535960, 1342533948, 3988292384, 4027552580, 3604390888, 3412177804, 2607071920, 2262029012, 2685067896, 3183342108]
theorem halves_all : ∀ i : Fin 16, halves.getD i.val 0 = (hv i.val : Int) := by decide

/-- The listed table, read: the contracts' own word for it. -/
theorem tabAt {W : World} (h : laidMetH Tryd.prog [("sumpter/mark.halves", Rows.laid_sumpter_mark_halves)] W) : TabAt W := by
  have ht : Lib.TabIs Tryd.prog W "sumpter/mark.halves" .u32 halves := Lib.tabIs_of_head (rest := []) gTab gTabType Tryd.underlying44 Tryd.underlying27 cellsU32 cellsTab h
  refine ⟨fun i hi => ?_⟩
  have h1 := ht.cell gTab i hi
  rw [halves_all ⟨i, hi⟩] at h1
  exact h1

/-- A world for the witness: the settled one, the table holding what its initialiser lays. -/
noncomputable def laidWorld (os : Os) : World :=
  { World.holding Tryd.prog os ⟨#[], #[], []⟩ with heap := (World.holding Tryd.prog os ⟨#[], #[], []⟩).heap.modify 0 fun
      | .cells _ t frozen => .cells #[.int .u32 0, .int .u32 498536548, .int .u32 997073096, .int .u32 651767980, .int .u32 1994146192, .int .u32 1802195444, .int .u32 1303535960, .int .u32 1342533948, .int .u32 3988292384, .int .u32 4027552580, .int .u32 3604390888, .int .u32 3412177804, .int .u32 2607071920, .int .u32 2262029012, .int .u32 2685067896, .int .u32 3183342108] t frozen
      | o => o }

/-- A slice of bytes that came in, opened. -/
theorem came_bytes {H : Type} {enc : TypeId × Value → H} {W : World} {base : Nat} {v : Value} {d : DataW H} {p : List MemPlace}
    (hv : Value.okWide Tryd.prog W .any base 22 v) (h : DataW.Trod enc Tryd.prog W 0 (fun _ => true) true 22 v d p) :
    ∃ A n c l, v = .slice A n c ∧ Sl W W.heap.size A n c l := by
  obtain ⟨A, n, c, rfl⟩ := okWide_slice Tryd.underlying22 hv
  obtain ⟨fuel, hf⟩ := h
  rcases open_ints Tryd.underlying22 Tryd.underlying5 (by kernel_rfl) hf with ⟨hcs, _⟩ | ⟨x, l, c', zs, hcs, _, hl, hm, hz, _, hcell, hwz⟩
  · simp [Value.cells] at hcs
    obtain ⟨rfl, rfl, rfl⟩ := hcs
    exact ⟨none, 0, 0, [], rfl, Sl.nil_ _ _ _ _ (Nat.zero_le _)⟩
  · simp [Value.cells] at hcs
    obtain ⟨rfl, rfl, rfl⟩ := hcs
    obtain ⟨bs, hs⟩ := sl_of_row (w := W) (zs := zs) (.inr ⟨x, rfl, hl, hm, by simpa using hz, hcell, hwz⟩)
    exact ⟨_, _, _, bs, rfl, hs⟩

theorem cellsArr : Tryd.prog.cellsOf 39 = 4 := by kernel_rfl
theorem cellsU8 : Tryd.prog.cellsOf 5 = 1 := by kernel_rfl
theorem list4 {α : Type} {l : List α} {a b c d : α} (hl : l.length = 4) (h0 : l[0]? = some a) (h1 : l[1]? = some b) (h2 : l[2]? = some c) (h3 : l[3]? = some d) : l = [a, b, c, d] := by
  match l, hl with
  | [x, y, z, u], _ =>
    simp at h0 h1 h2 h3
    rw [h0, h1, h2, h3]
theorem came_four {H : Type} {enc : TypeId × Value → H} {W : World} {base : Nat} {v : Value} {d : DataW H} {p : List MemPlace}
    (hv : Value.okWide Tryd.prog W .any base 39 v) (h : DataW.Trod enc Tryd.prog W 0 (fun _ => true) true 39 v d p) :
    ∃ b0 b1 b2 b3 : UInt8, v = .agg #[.int .u8 (b0.toNat : Int), .int .u8 (b1.toNat : Int), .int .u8 (b2.toNat : Int), .int .u8 (b3.toNat : Int)] := by
  obtain ⟨cs, rfl⟩ : ∃ cs, v = .agg cs := by
    simp only [Value.okWide, Tryd.underlying39] at hv
    obtain ⟨cs, h1, _⟩ := hv
    exact ⟨cs, h1⟩
  obtain ⟨fuel, hf⟩ := h
  obtain ⟨xs, m, rfl, hx, hl, hn, hi⟩ := DataW.trod_array Tryd.underlying39 hf
  simp only [Value.cells] at hl hi
  rw [cellsArr] at hl
  rw [cellsU8] at hi
  have one : ∀ i, i < 4 → ∃ b : UInt8, cs.toList[i]? = some (.int .u8 (b.toNat : Int)) := fun i hi4 => by
    have h1 := hi i hi4
    rw [List.getElem?_eq_getElem (show i < xs.length by omega)] at h1
    obtain ⟨a, e0, _, wa⟩ := DataW.trod_int Tryd.underlying5 h1
    have hb := bounds_u8 wa
    refine ⟨UInt8.ofNat a.toNat, ?_⟩
    have e1 : (cs.toList.drop (i * 1)).take 1 = [Value.int .u8 a] := e0
    rw [Nat.mul_one] at e1
    have e2 : cs.toList[i]? = some (Value.int .u8 a) := by
      have := congrArg (fun l : List Value => l[0]?) e1
      simpa [List.getElem?_take, List.getElem?_drop] using this
    rw [e2]
    congr 2
    simp
    omega
  obtain ⟨b0, h0⟩ := one 0 (by omega)
  obtain ⟨b1, h1⟩ := one 1 (by omega)
  obtain ⟨b2, h2⟩ := one 2 (by omega)
  obtain ⟨b3, h3⟩ := one 3 (by omega)
  refine ⟨b0, b1, b2, b3, ?_⟩
  congr 1
  apply Array.ext'
  exact list4 hl h0 h1 h2 h3
end Go.Proofs.YtmafdoodgkhgeaaDoor
