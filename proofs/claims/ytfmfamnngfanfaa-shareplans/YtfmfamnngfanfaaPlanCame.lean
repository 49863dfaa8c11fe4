/-
  ARGUMENTS THAT CAME IN: slices of numbers, and of such slices.
  No statement is proved here.
-/
import Derived.Test.YtfmfamnngfanfaaShareTop
import Derived.Test.YtfmfamnngfanfaaCameBase
namespace Go.Proofs.Ytfmfamnngfanfaa
open Go.ChangeShapes Go.WideShapes Go.ChangeAt Go.RowKit

set_option maxRecDepth 100000 in
theorem is_of_row {w : World} {a : Option Addr} {n c : Nat} {zs : List Int} (h : (∃ x, a = some x ∧ n ≤ c ∧ c ≤ maxLen ∧ zs.length = c ∧ (∀ i, i < zs.length → w.cell? (x.add i) = some (.int .i64 (zs.getD i 0))) ∧ ∀ z ∈ zs, (Lit.int .i64 z).wf = true)) : ∃ xs, Is w w.heap.size a n c xs := by
  obtain ⟨x, rfl, hl, hm, hz, hcell, hwz⟩ := h
  refine ⟨zs.take n, ⟨by simp [ivs]; omega, hl, hm, fun hp => ?_⟩, fun y hy => ?_⟩
  · obtain ⟨b, o, spot⟩ := x
    have h0 := hcell 0 (by omega)
    have hspot : spot = none := by simpa [Addr.add] using World.cell?_spot h0
    subst hspot
    have hb := World.block_lt_of_cell? w _ h0
    refine ⟨b, o, rfl, by simpa [Addr.add] using hb, fun j y hy => ?_⟩
    unfold ivs at hy
    rw [List.getElem?_map, List.getElem?_take] at hy
    by_cases hj : j < n
    · rw [if_pos hj, List.getElem?_eq_getElem (by omega)] at hy
      simp only [Option.map_some, Option.some.injEq] at hy
      have h1 := hcell j (by omega)
      rw [Go.Proofs.Ytfmfamnngfanfaa.add_plain] at h1
      rw [h1, ← hy, List.getD_eq_getElem?_getD, List.getElem?_eq_getElem (by omega)]
      rfl
    · rw [if_neg hj] at hy
      simp at hy
  · have h2 := bounds_i64 (hwz y (List.mem_of_mem_take hy))
    exact h2
set_option maxRecDepth 100000 in
theorem came_ints {H : Type} {enc : TypeId × Value → H} {W : World} {base : Nat} {v : Value} {d : DataW H} {p : List MemPlace}
    (hv : Value.okWide Try.prog W .any base 22 v) (h : DataW.Trod enc Try.prog W 0 (fun _ => true) true 22 v d p) :
    ∃ A n c, v = .slice A n c ∧ ∃ xs, Is W W.heap.size A n c xs := by
  obtain ⟨A, n, c, rfl⟩ := okWide_slice Try.underlying22 hv
  refine ⟨A, n, c, rfl, ?_⟩
  obtain ⟨fuel, hf⟩ := h
  rcases open_ints Try.underlying22 Try.underlying3 (by kernel_rfl) hf with ⟨hcs, _⟩ | ⟨x, l, c', zs, hcs, _, hl, hm, hz, _, hcell, hwz⟩
  · simp [Value.cells] at hcs
    obtain ⟨rfl, rfl, rfl⟩ := hcs
    exact ⟨[], Is.nil_ _ _ _ _ (Nat.zero_le _)⟩
  · simp [Value.cells] at hcs
    obtain ⟨rfl, rfl, rfl⟩ := hcs
    exact is_of_row ⟨x, rfl, hl, hm, by simpa using hz, hcell, hwz⟩
theorem cellsInts : Try.prog.cellsOf 22 = 1 := by kernel_rfl
set_option maxRecDepth 100000 in
theorem came_intss {H : Type} {enc : TypeId × Value → H} {W : World} {base : Nat} {v : Value} {d : DataW H} {p : List MemPlace}
    (hv : Value.okWide Try.prog W .any base 23 v) (h : DataW.Trod enc Try.prog W 0 (fun _ => true) true 23 v d p) :
    ∃ A n c, v = .slice A n c ∧ ∃ ps, Iss W W.heap.size A n c ps := by
  obtain ⟨A, n, c, rfl⟩ := okWide_slice Try.underlying23 hv
  refine ⟨A, n, c, rfl, ?_⟩
  obtain ⟨fuel, hf⟩ := h
  rcases Deep.open_slice1 Try.underlying23 cellsInts hf with ⟨hcs, _⟩ | ⟨a, len, cap, m, n', V, D, Pl, hcs, _, hl, hm, hmm, _, hx⟩
  · simp [Value.cells] at hcs
    obtain ⟨rfl, rfl, rfl⟩ := hcs
    exact ⟨[], Sn.nil_ _ _ _ _ _ (Nat.zero_le _), fun p hp => by cases hp⟩
  · simp [Value.cells] at hcs
    obtain ⟨rfl, rfl, rfl⟩ := hcs
    have hlm : n ≤ m := by rw [hmm]; simp; exact hl
    have one : ∀ i, i < n → ∃ q : Ic, V i = .slice q.A q.n q.c ∧ Is W W.heap.size q.A q.n q.c q.L := fun i hi => by
      have h1 := (hx i (by omega)).2
      rcases open_ints Try.underlying22 Try.underlying3 (by kernel_rfl) h1 with ⟨hcs, _⟩ | ⟨x, l, c', zs, hcs, _, hl', hm', hz, _, hcell, hwz⟩
      · simp at hcs
        exact ⟨⟨none, 0, 0, []⟩, hcs, Is.nil_ _ _ _ _ (Nat.zero_le _)⟩
      · simp at hcs
        obtain ⟨bs, hs⟩ := is_of_row (w := W) (zs := zs) ⟨x, rfl, hl', hm', by simpa using hz, hcell, hwz⟩
        exact ⟨⟨some x, l, c', bs⟩, hcs, hs⟩
    have hin : Inhabited Ic := ⟨⟨none, 0, 0, []⟩⟩
    obtain ⟨Q, hQ⟩ := Deep.choose_lt (p := fun i (q : Ic) => V i = .slice q.A q.n q.c ∧ Is W W.heap.size q.A q.n q.c q.L) one
    refine ⟨(List.range n).map Q, ⟨by simp [icvs], hl, hm, fun hn => ?_⟩, fun q hq => ?_⟩
    · have h0 := (hx 0 (by omega)).1
      obtain ⟨b, o, spot⟩ := a
      have hspot : spot = none := by simpa [Addr.add] using World.cell?_spot h0
      subst hspot
      have hb := World.block_lt_of_cell? W _ h0
      refine ⟨b, o, rfl, by simpa [Addr.add] using hb, fun j q hj => ?_⟩
      unfold icvs at hj
      rw [List.getElem?_map, List.getElem?_map] at hj
      obtain ⟨i0, hi0, rfl⟩ := Option.map_eq_some_iff.1 hj
      obtain ⟨i, hi, rfl⟩ := Option.map_eq_some_iff.1 hi0
      obtain ⟨hlt, hii⟩ := List.getElem?_eq_some_iff.1 hi
      simp at hlt hii
      subst hii
      have h1 := (hx j (by omega)).1
      rw [Go.Proofs.Ytfmfamnngfanfaa.add_plain, (hQ j hlt).1] at h1
      exact h1
    · obtain ⟨i, hi, rfl⟩ := List.mem_map.1 hq
      exact (hQ i (by simpa using hi)).2
end Go.Proofs.Ytfmfamnngfanfaa
