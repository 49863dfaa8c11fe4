/-
  ARGUMENTS THAT CAME IN, opened: slices of bytes, spans, IDs.
  No statement is proved here.
-/
import Derived.Test.YtefoeebchjnfaaaSpanOne
import Derived.ProofKit
import Derived.OpenShut
import Derived.ShutString
import Derived.ChangeOld
import Derived.Deep.Slices
import Derived.Lib.SmallJoins
namespace Go.Proofs.Ytefoeebchjnfaaa
open Go.ChangeShapes Go.WideShapes Go.ChangeAt Go.RowKit

theorem ownK : ownKnob Try.prog.godebug = none := by kernel_rfl
theorem laidOut : laidOutB Try.prog = true := by kernel_rfl
theorem cellsBytes : Try.prog.cellsOf 65 = 1 := by kernel_rfl
set_option maxRecDepth 100000 in
theorem read_bytes {H : Type} {enc : TypeId × Value → H} {W : World} {fuel : Nat} {v : Value} {x : DataW H × List MemPlace}
    (hf : DataW.trod enc Try.prog W 0 (fun _ => true) true fuel 65 [v] = some x) : ∃ A n c l, v = .slice A n c ∧ Sl W W.heap.size A n c l := by
  rcases open_ints Try.underlying65 Try.underlying5 (by kernel_rfl) hf with ⟨hcs, _⟩ | ⟨x, l, c', zs, hcs, _, hl, hm, hz, _, hcell, hwz⟩
  · injection hcs with hcs
    subst hcs
    exact ⟨none, 0, 0, [], rfl, Sl.nil_ _ _ _ _ (Nat.zero_le _)⟩
  · injection hcs with hcs
    subst hcs
    obtain ⟨bs, hs⟩ := sl_of_row (w := W) (zs := zs) (.inr ⟨x, rfl, hl, hm, by simpa using hz, hcell, hwz⟩)
    exact ⟨_, _, _, bs, rfl, hs⟩
set_option maxRecDepth 100000 in
theorem came_bytes {H : Type} {enc : TypeId × Value → H} {W : World} {base : Nat} {v : Value} {d : DataW H} {p : List MemPlace}
    (hv : Value.okWide Try.prog W .any base 65 v) (h : DataW.Trod enc Try.prog W 0 (fun _ => true) true 65 v d p) :
    ∃ A n c l, v = .slice A n c ∧ Sl W W.heap.size A n c l := by
  obtain ⟨A, n, c, rfl⟩ := okWide_slice Try.underlying65 hv
  obtain ⟨fuel, hf⟩ := h
  exact read_bytes (by simpa [Value.cells] using hf)
set_option maxRecDepth 100000 in
theorem came_span {H : Type} {enc : TypeId × Value → H} {W : World} {base : Nat} {v : Value} {d : DataW H} {p : List MemPlace}
    (hv : Value.okWide Try.prog W .any base 67 v) (h : DataW.Trod enc Try.prog W 0 (fun _ => true) true 67 v d p) :
    ∃ C A n c l, v = spv C A n c ∧ Sl W W.heap.size A n c l ∧ (-9223372036854775808 ≤ C ∧ C ≤ 9223372036854775807) := by
  obtain ⟨c0, c1, y0, y1, m, rfl, -, -, hy0, hy1⟩ := Joins.open_agg2 Try.underlying67 (by kernel_rfl) (by kernel_rfl) hv h
  obtain ⟨C, hC, -, hw⟩ := DataW.trod_int Try.underlying3 hy0
  obtain ⟨A, n, c, l, rfl, hs⟩ := read_bytes hy1
  injection hC with hC
  subst hC
  exact ⟨C, A, n, c, l, rfl, hs, bounds_i64 hw⟩
set_option maxRecDepth 100000 in
theorem came_id {H : Type} {enc : TypeId × Value → H} {W : World} {base : Nat} {v : Value} {d : DataW H} {p : List MemPlace}
    (hv : Value.okWide Try.prog W .any base 98 v) (h : DataW.Trod enc Try.prog W 0 (fun _ => true) true 98 v d p) :
    ∃ G N, v = idv G N := by
  obtain ⟨c0, c1, y0, y1, m, rfl, -, -, hy0, hy1⟩ := Joins.open_agg2 Try.underlying98 (by kernel_rfl) (by kernel_rfl) hv h
  obtain ⟨G, hG, -, _⟩ := DataW.trod_int Try.underlying3 hy0
  obtain ⟨N, hN, -, hw⟩ := DataW.trod_int Try.underlying23 hy1
  injection hG with hG
  injection hN with hN
  subst hG hN
  have hb := bounds_u64 hw
  refine ⟨G, N.toNat, ?_⟩
  unfold idv
  rw [Int.toNat_of_nonneg hb.1]
end Go.Proofs.Ytefoeebchjnfaaa
