/-
  AN ARGUMENT THAT CAME IN, opened: a frame. What the cards of the laws on frames share: the table is read as the program's text lays it; a world for the witness.
  No statement is proved here.
-/
import Derived.Test.YtlkcnpmgafckoaaDoorCards
import Derived.Test.YtlkcnpmgafckoaaDoorTie
import Derived.Test.YtlkcnpmgafckoaaDoorFrameMath
import Derived.Test.YtlkcnpmgafckoaaDoorFrBaseB
import Derived.ProofKit
import Derived.OpenShut
import Derived.ShutString
import Derived.ChangeOld
import Derived.Deep.DeepHandedRow
import Derived.Lib.LaidTab
namespace Go.Proofs.YtlkcnpmgafckoaaDoor
open Go.ChangeShapes Go.WideShapes Go.ChangeAt Go.RowKit

theorem gTab : Tryd.prog.globalNamed "sumpter/mark.halves" = some 0 := by kernel_rfl
theorem gTabType : (Tryd.prog.globals[0]?).map (·.type) = some 135 := by kernel_rfl
theorem cellsTab : Tryd.prog.cellsOf 135 = 16 := by kernel_rfl
theorem cellsU32 : Tryd.prog.cellsOf 100 = 1 := by kernel_rfl
def halves : List Int := [0, 498536548, 997073096, 651767980, 1994146192, 1802195444, 1303535960, 1342533948, 3988292384, 4027552580, 3604390888, 3412177804, 2607071920, 2262029012, 2685067896, 3183342108]
theorem halves_all : ∀ i : Fin 16, halves.getD i.val 0 = (hv i.val : Int) := by decide

/-- The listed table, read: the contracts' own word for it. -/
theorem tabAt {W : World} (h : laidMetH Tryd.prog [("sumpter/mark.halves", Rows.laid_sumpter_mark_halves)] W) : TabAt W := by
  have ht : Lib.TabIs Tryd.prog W "sumpter/mark.halves" .u32 halves := Lib.tabIs_of_head (rest := []) gTab gTabType Tryd.underlying135 Tryd.underlying100 cellsU32 cellsTab h
  refine ⟨fun i hi => ?_⟩
  have h1 := ht.cell gTab i hi
  rw [halves_all ⟨i, hi⟩] at h1
  exact h1

/-- A world for the witness: the settled one, the table holding what its initialiser lays. -/
noncomputable def laidWorld (os : Os) : World :=
  { World.holding Tryd.prog os ⟨#[], #[], []⟩ with heap := (World.holding Tryd.prog os ⟨#[], #[], []⟩).heap.modify 0 fun
      | .cells _ t frozen => .cells #[.int .u32 0, .int .u32 498536548, .int .u32 997073096, .int .u32 651767980, .int .u32 1994146192, .int .u32 1802195444, .int .u32 1303535960, .int .u32 1342533948, .int .u32 3988292384, .int .u32 4027552580, .int .u32 3604390888, .int .u32 3412177804, .int .u32 2607071920, .int .u32 2262029012, .int .u32 2685067896, .int .u32 3183342108] t frozen
      | o => o }


theorem array9 {cs : Array Value} (h : cs.size = 9) : ∃ c0 c1 c2 c3 c4 c5 c6 c7 c8, cs = #[c0, c1, c2, c3, c4, c5, c6, c7, c8] := by
  obtain ⟨l⟩ := cs
  match l, h with
  | [c0, c1, c2, c3, c4, c5, c6, c7, c8], _ => exact ⟨c0, c1, c2, c3, c4, c5, c6, c7, c8, rfl⟩
theorem cellsFrame : Tryd.prog.cellsOf 26 = 9 := by kernel_rfl
theorem cellsU8 : Tryd.prog.cellsOf 5 = 1 := by kernel_rfl
theorem cellsRuns : Tryd.prog.cellsOf 23 = 1 := by kernel_rfl
theorem cellsItems : Tryd.prog.cellsOf 24 = 1 := by kernel_rfl
theorem int_nat {k : IntKind} {a : Int} (h : 0 ≤ a) : Value.int k a = .int k ((a.toNat : Nat) : Int) := by rw [Int.toNat_of_nonneg h]

theorem trod_struct9 {H : Type} {enc : TypeId × Value → H} {P : Program} {w : World} {base : Nat} {spare : Nat → Bool} {held : Bool} {t : TypeId} {f0 f1 f2 f3 f4 f5 f6 f7 f8 : Field} {fuel : Nat} {cs : List Value} {x : DataW H × List MemPlace} (ht : P.underlying t = some (.struct #[f0, f1, f2, f3, f4, f5, f6, f7, f8])) (h : DataW.trod enc P w base spare held fuel t cs = some x) :
    ∃ y0 y1 y2 y3 y4 y5 y6 y7 y8 n, DataW.trod enc P w base spare held n f0.type ((cs.drop f0.offset).take (P.cellsOf f0.type)) = some y0 ∧ DataW.trod enc P w base spare held n f1.type ((cs.drop f1.offset).take (P.cellsOf f1.type)) = some y1 ∧ DataW.trod enc P w base spare held n f2.type ((cs.drop f2.offset).take (P.cellsOf f2.type)) = some y2 ∧ DataW.trod enc P w base spare held n f3.type ((cs.drop f3.offset).take (P.cellsOf f3.type)) = some y3 ∧ DataW.trod enc P w base spare held n f4.type ((cs.drop f4.offset).take (P.cellsOf f4.type)) = some y4 ∧ DataW.trod enc P w base spare held n f5.type ((cs.drop f5.offset).take (P.cellsOf f5.type)) = some y5 ∧ DataW.trod enc P w base spare held n f6.type ((cs.drop f6.offset).take (P.cellsOf f6.type)) = some y6 ∧ DataW.trod enc P w base spare held n f7.type ((cs.drop f7.offset).take (P.cellsOf f7.type)) = some y7 ∧ DataW.trod enc P w base spare held n f8.type ((cs.drop f8.offset).take (P.cellsOf f8.type)) = some y8 := by
  obtain ⟨xs, n, _, rfl, hl, hlen, hf⟩ := DataW.trod_struct ht h
  match xs, hlen with
  | [y0, y1, y2, y3, y4, y5, y6, y7, y8], _ => exact ⟨y0, y1, y2, y3, y4, y5, y6, y7, y8, n, by simpa using hf 0 f0 rfl, by simpa using hf 1 f1 rfl, by simpa using hf 2 f2 rfl, by simpa using hf 3 f3 rfl, by simpa using hf 4 f4 rfl, by simpa using hf 5 f5 rfl, by simpa using hf 6 f6 rfl, by simpa using hf 7 f7 rfl, by simpa using hf 8 f8 rfl⟩
set_option maxRecDepth 100000 in
theorem came_frame {H : Type} {enc : TypeId × Value → H} {W : World} {base : Nat} {v : Value} {d : DataW H} {p : List MemPlace}
    (hv : Value.okWide Tryd.prog W .any base 26 v) (h : DataW.Trod enc Tryd.prog W 0 (fun _ => true) true 26 v d p) :
    ∃ f : Fv, v = f.v ∧ FrAt W f := by
  obtain ⟨cs, rfl, hsz⟩ := okWide_struct Tryd.underlying26 hv
  obtain ⟨c0, c1, c2, c3, c4, c5, c6, c7, c8, rfl⟩ := array9 (hsz.trans cellsFrame)
  obtain ⟨fuel, hf⟩ := h
  obtain ⟨y0, y1, y2, y3, y4, y5, y6, y7, y8, n, h0, h1, h2, h3, h4, h5, h6, h7, h8⟩ := trod_struct9 Tryd.underlying26 hf
  simp only [Value.cells, cellsU8, cellsInt, cellsU64, cellsRuns, cellsItems, List.drop_zero, List.drop_succ_cons, List.take_succ_cons, List.take_zero] at h0 h1 h2 h3 h4 h5 h6 h7 h8
  obtain ⟨a0, q0, -, w0⟩ := DataW.trod_int Tryd.underlying5 h0
  obtain ⟨a1, q1, -, w1⟩ := DataW.trod_int Tryd.underlying3 h1
  obtain ⟨a2, q2, -, w2⟩ := DataW.trod_int Tryd.underlying22 h2
  obtain ⟨a3, q3, -, w3⟩ := DataW.trod_int Tryd.underlying22 h3
  obtain ⟨a4, q4, -, w4⟩ := DataW.trod_int Tryd.underlying22 h4
  obtain ⟨a5, q5, -, w5⟩ := DataW.trod_int Tryd.underlying22 h5
  obtain ⟨a6, q6, -, w6⟩ := DataW.trod_int Tryd.underlying22 h6
  obtain ⟨A7, n7, k7, rfl, L, hr⟩ := read_runs h7
  obtain ⟨A8, n8, k8, rfl, ks, hi⟩ := read_items h8
  injection q0 with q0
  injection q1 with q1
  injection q2 with q2
  injection q3 with q3
  injection q4 with q4
  injection q5 with q5
  injection q6 with q6
  subst q0 q1 q2 q3 q4 q5 q6
  have b0 := bounds_u8 w0
  have b1 := bounds_i64 w1
  have b2 := bounds_u64 w2
  have b3 := bounds_u64 w3
  have b4 := bounds_u64 w4
  have b5 := bounds_u64 w5
  have b6 := bounds_u64 w6
  refine ⟨⟨a0.toNat, a1, a2.toNat, a3.toNat, a4.toNat, a5.toNat, a6.toNat, A7, n7, k7, L, A8, n8, k8, ks⟩, ?_, ⟨hr, hi, ?_, b1, ?_, ?_, ?_, ?_, ?_⟩⟩
  · unfold Fv.v
    rw [← int_nat b0.1, ← int_nat b2.1, ← int_nat b3.1, ← int_nat b4.1, ← int_nat b5.1, ← int_nat b6.1]
  · show a0.toNat < 256; omega
  · show a2.toNat < two64; unfold two64; omega
  · show a3.toNat < two64; unfold two64; omega
  · show a4.toNat < two64; unfold two64; omega
  · show a5.toNat < two64; unfold two64; omega
  · show a6.toNat < two64; unfold two64; omega
end Go.Proofs.YtlkcnpmgafckoaaDoor
