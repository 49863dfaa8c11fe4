/-
  AN ARGUMENT THAT CAME IN, opened: a slice of items.
  No statement is proved here.
-/
import Derived.Test.YtlkcnpmgafckoaaDoorLawSRows
import Derived.Test.YtlkcnpmgafckoaaDoorCame
namespace Go.Proofs.YtlkcnpmgafckoaaDoor
open Go.ChangeShapes Go.WideShapes Go.ChangeAt Go.RowKit

theorem cellsItem : Tryd.prog.cellsOf 58 = 3 := by kernel_rfl
theorem cellsSpan : Tryd.prog.cellsOf 56 = 2 := by kernel_rfl
theorem cellsU64 : Tryd.prog.cellsOf 22 = 1 := by kernel_rfl
theorem cellsInt : Tryd.prog.cellsOf 3 = 1 := by kernel_rfl
theorem list3 {l : List Value} (h : l.length = 3) : ∃ a b c, l = [a, b, c] := by
  rcases l with _ | ⟨a, _ | ⟨b, _ | ⟨c, _ | ⟨d, t⟩⟩⟩⟩
  all_goals simp at h
  exact ⟨a, b, c, rfl⟩
set_option maxRecDepth 100000 in
theorem read_item {H : Type} {enc : TypeId × Value → H} {W : World} {fuel : Nat} {v0 v1 v2 : Value} {x : DataW H × List MemPlace}
    (hf : DataW.trod enc Tryd.prog W 0 (fun _ => true) true fuel 58 [v0, v1, v2] = some x) :
    ∃ k : Ik, v0 = .int .u64 (k.N : Int) ∧ v1 = .int .i64 k.C ∧ v2 = k.q.v ∧ Sl W W.heap.size k.q.A k.q.n k.q.c k.q.l ∧ k.N < two64 := by
  obtain ⟨y0, y1, n, -, -, h0, h1⟩ := trod_struct2 Tryd.underlying58 hf
  simp only [cellsU64, cellsSpan, List.drop_zero, List.drop_succ_cons, List.take_succ_cons, List.take_zero] at h0 h1
  obtain ⟨N, hN, -, hw⟩ := DataW.trod_int Tryd.underlying22 h0
  obtain ⟨z0, z1, n', -, -, k0, k1⟩ := trod_struct2 Tryd.underlying56 h1
  simp only [cellsInt, cellsBytes, List.drop_zero, List.drop_succ_cons, List.take_succ_cons, List.take_zero] at k0 k1
  obtain ⟨C, hC, -, -⟩ := DataW.trod_int Tryd.underlying3 k0
  obtain ⟨A, m, c, l, rfl, hs⟩ := read_bytes k1
  injection hN with hN
  injection hC with hC
  subst hN hC
  have hb := bounds_u64 hw
  refine ⟨⟨N.toNat, C, ⟨A, m, c, l⟩⟩, ?_, rfl, rfl, hs, ?_⟩
  · rw [Int.toNat_of_nonneg hb.1]
  · show N.toNat < two64
    unfold two64
    omega
set_option maxRecDepth 100000 in
theorem read_items {H : Type} {enc : TypeId × Value → H} {W : World} {fuel : Nat} {v : Value} {x : DataW H × List MemPlace}
    (hf : DataW.trod enc Tryd.prog W 0 (fun _ => true) true fuel 24 [v] = some x) :
    ∃ A n c, v = .slice A n c ∧ ∃ ks, Itms W W.heap.size A n c ks := by
  obtain ⟨A, n, c, rfl⟩ : ∃ A n c, v = .slice A n c := by
    rcases Deep.open_slice Tryd.underlying24 hf with ⟨hcs, _⟩ | ⟨a, len, cap, m, n', D, Pl, hcs, _⟩
    · injection hcs with hcs
      exact ⟨_, _, _, hcs⟩
    · injection hcs with hcs
      exact ⟨_, _, _, hcs⟩
  refine ⟨A, n, c, rfl, ?_⟩
  rcases Deep.open_slice Tryd.underlying24 hf with ⟨hcs, _⟩ | ⟨a, len, cap, m, n', D, Pl, hcs, _, hl, hm, hmm, _, hx⟩
  · simp at hcs
    obtain ⟨rfl, rfl, rfl⟩ := hcs
    exact ⟨[], rfl, Nat.le_refl _, Nat.zero_le _, fun h => absurd h (Nat.lt_irrefl _), fun k hk => absurd hk List.not_mem_nil⟩
  · simp at hcs
    obtain ⟨rfl, rfl, rfl⟩ := hcs
    have hlm : n ≤ m := by rw [hmm]; simp; exact hl
    rw [cellsItem] at hx
    have one : ∀ i, i < n → ∃ k : Ik, W.cell? (a.add (i * 3)) = some (.int .u64 (k.N : Int)) ∧ W.cell? (a.add (i * 3 + 1)) = some (.int .i64 k.C) ∧ W.cell? (a.add (i * 3 + 2)) = some k.q.v ∧ Sl W W.heap.size k.q.A k.q.n k.q.c k.q.l ∧ k.N < two64 := fun i hi => by
      obtain ⟨cs', h1, h2⟩ := hx i (by omega)
      obtain ⟨_, hlen, hcell⟩ := World.cells?_some h1
      obtain ⟨v0, v1, v2, rfl⟩ := list3 hlen
      obtain ⟨k, rfl, rfl, rfl, hs, hN⟩ := read_item h2
      have e0 := hcell 0 (by omega)
      have e1 := hcell 1 (by omega)
      have e2 := hcell 2 (by omega)
      rw [Deep.add_add] at e0 e1 e2
      exact ⟨k, by simpa using e0, by simpa using e1, by simpa using e2, hs, hN⟩
    have hin : Inhabited Ik := ⟨⟨0, 0, ⟨none, 0, 0, []⟩⟩⟩
    obtain ⟨Q, hQ⟩ := Deep.choose_lt (p := fun i (k : Ik) => W.cell? (a.add (i * 3)) = some (.int .u64 (k.N : Int)) ∧ W.cell? (a.add (i * 3 + 1)) = some (.int .i64 k.C) ∧ W.cell? (a.add (i * 3 + 2)) = some k.q.v ∧ Sl W W.heap.size k.q.A k.q.n k.q.c k.q.l ∧ k.N < two64) one
    refine ⟨(List.range n).map Q, by simp, hl, hm, fun hn => ?_, fun q hq => ?_⟩
    · have h0 := (hQ 0 hn).1
      obtain ⟨b, o, spot⟩ := a
      have hspot : spot = none := by simpa [Addr.add] using World.cell?_spot h0
      subst hspot
      have hb := World.block_lt_of_cell? W _ h0
      refine ⟨b, o, rfl, by simpa [Addr.add] using hb, fun j q hj => ?_⟩
      rw [List.getElem?_map] at hj
      obtain ⟨i, hi, rfl⟩ := Option.map_eq_some_iff.1 hj
      obtain ⟨hlt, hii⟩ := List.getElem?_eq_some_iff.1 hi
      simp at hlt hii
      subst hii
      obtain ⟨h1, h2, h3, -⟩ := hQ j hlt
      rw [Go.Proofs.YtlkcnpmgafckoaaDoor.add_plain] at h1 h2 h3
      exact ⟨h1, by rw [Nat.add_assoc]; exact h2, by rw [Nat.add_assoc]; exact h3⟩
    · obtain ⟨i, hi, rfl⟩ := List.mem_map.1 hq
      exact (hQ i (by simpa using hi)).2.2.2
set_option maxRecDepth 100000 in
theorem came_items {H : Type} {enc : TypeId × Value → H} {W : World} {base : Nat} {v : Value} {d : DataW H} {p : List MemPlace}
    (hv : Value.okWide Tryd.prog W .any base 24 v) (h : DataW.Trod enc Tryd.prog W 0 (fun _ => true) true 24 v d p) :
    ∃ A n c, v = .slice A n c ∧ ∃ ks, Itms W W.heap.size A n c ks := by
  obtain ⟨A, n, c, rfl⟩ := okWide_slice Tryd.underlying24 hv
  obtain ⟨fuel, hf⟩ := h
  obtain ⟨A', n', c', e, hr⟩ := read_items (v := .slice A n c) (by simpa [Value.cells] using hf)
  exact ⟨A', n', c', e, hr⟩
end Go.Proofs.YtlkcnpmgafckoaaDoor
