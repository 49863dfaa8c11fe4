/-
  ARGUMENTS THAT CAME IN: slices of small numbers.
  No statement is proved here.
-/
import Derived.Test.YtjmdjnldkecoeaaShareBig
import Derived.Test.YtjmdjnldkecoeaaCameBase
namespace Go.Proofs.Ytjmdjnldkecoeaa
open Go.ChangeShapes Go.WideShapes Go.ChangeAt Go.RowKit

set_option maxRecDepth 100000 in
theorem came_u16s {H : Type} {enc : TypeId × Value → H} {W : World} {base : Nat} {v : Value} {d : DataW H} {p : List MemPlace}
    (hv : Value.okWide Try.prog W .any base 37 v) (h : DataW.Trod enc Try.prog W 0 (fun _ => true) true 37 v d p) :
    ∃ A n c, v = .slice A n c ∧ ∃ xs, Us .u16 65536 W W.heap.size A n c xs := by
  obtain ⟨A, n, c, rfl⟩ := okWide_slice Try.underlying37 hv
  refine ⟨A, n, c, rfl, ?_⟩
  obtain ⟨fuel, hf⟩ := h
  rcases open_ints Try.underlying37 Try.underlying39 (by kernel_rfl) hf with ⟨hcs, _⟩ | ⟨x, l, c', zs, hcs, _, hl, hm, hz, _, hcell, hwz⟩
  · simp [Value.cells] at hcs
    obtain ⟨rfl, rfl, rfl⟩ := hcs
    exact ⟨[], Sn.nil_ _ _ _ _ _ (Nat.zero_le _), fun p hp => by cases hp⟩
  · simp [Value.cells] at hcs
    obtain ⟨rfl, rfl, rfl⟩ := hcs
    have hz' : zs.length = c := by simpa using hz
    refine ⟨(zs.take n).map Int.toNat, ⟨by simp; omega, hl, hm, fun hp => ?_⟩, fun y hy => ?_⟩
    · obtain ⟨b, o, spot⟩ := x
      have h0 := hcell 0 (by omega)
      have hspot : spot = none := by simpa [Addr.add] using World.cell?_spot h0
      subst hspot
      have hb := World.block_lt_of_cell? W _ h0
      refine ⟨b, o, rfl, by simpa [Addr.add] using hb, fun j y hy => ?_⟩
      rw [List.getElem?_map, List.getElem?_map, List.getElem?_take] at hy
      by_cases hj : j < n
      · rw [if_pos hj, List.getElem?_eq_getElem (by omega)] at hy
        simp only [Option.map_some, Option.some.injEq] at hy
        have h1 := hcell j (by omega)
        rw [Go.Proofs.Ytjmdjnldkecoeaa.add_plain] at h1
        have h2 := bounds_u16 (hwz _ (List.getElem_mem (l := zs) (n := j) (by omega)))
        rw [h1, ← hy, List.getD_eq_getElem?_getD, List.getElem?_eq_getElem (by omega)]
        congr 2
        simp
        omega
      · rw [if_neg hj] at hy
        simp at hy
    · obtain ⟨z, hz1, rfl⟩ := List.mem_map.1 hy
      have h2 := bounds_u16 (hwz z (List.mem_of_mem_take hz1))
      omega
set_option maxRecDepth 100000 in
theorem came_u32s {H : Type} {enc : TypeId × Value → H} {W : World} {base : Nat} {v : Value} {d : DataW H} {p : List MemPlace}
    (hv : Value.okWide Try.prog W .any base 46 v) (h : DataW.Trod enc Try.prog W 0 (fun _ => true) true 46 v d p) :
    ∃ A n c, v = .slice A n c ∧ ∃ xs, Us .u32 4294967296 W W.heap.size A n c xs := by
  obtain ⟨A, n, c, rfl⟩ := okWide_slice Try.underlying46 hv
  refine ⟨A, n, c, rfl, ?_⟩
  obtain ⟨fuel, hf⟩ := h
  rcases open_ints Try.underlying46 Try.underlying47 (by kernel_rfl) hf with ⟨hcs, _⟩ | ⟨x, l, c', zs, hcs, _, hl, hm, hz, _, hcell, hwz⟩
  · simp [Value.cells] at hcs
    obtain ⟨rfl, rfl, rfl⟩ := hcs
    exact ⟨[], Sn.nil_ _ _ _ _ _ (Nat.zero_le _), fun p hp => by cases hp⟩
  · simp [Value.cells] at hcs
    obtain ⟨rfl, rfl, rfl⟩ := hcs
    have hz' : zs.length = c := by simpa using hz
    refine ⟨(zs.take n).map Int.toNat, ⟨by simp; omega, hl, hm, fun hp => ?_⟩, fun y hy => ?_⟩
    · obtain ⟨b, o, spot⟩ := x
      have h0 := hcell 0 (by omega)
      have hspot : spot = none := by simpa [Addr.add] using World.cell?_spot h0
      subst hspot
      have hb := World.block_lt_of_cell? W _ h0
      refine ⟨b, o, rfl, by simpa [Addr.add] using hb, fun j y hy => ?_⟩
      rw [List.getElem?_map, List.getElem?_map, List.getElem?_take] at hy
      by_cases hj : j < n
      · rw [if_pos hj, List.getElem?_eq_getElem (by omega)] at hy
        simp only [Option.map_some, Option.some.injEq] at hy
        have h1 := hcell j (by omega)
        rw [Go.Proofs.Ytjmdjnldkecoeaa.add_plain] at h1
        have h2 := bounds_u32 (hwz _ (List.getElem_mem (l := zs) (n := j) (by omega)))
        rw [h1, ← hy, List.getD_eq_getElem?_getD, List.getElem?_eq_getElem (by omega)]
        congr 2
        simp
        omega
      · rw [if_neg hj] at hy
        simp at hy
    · obtain ⟨z, hz1, rfl⟩ := List.mem_map.1 hy
      have h2 := bounds_u32 (hwz z (List.mem_of_mem_take hz1))
      omega
theorem us16_of_row {w : World} {a : Option Addr} {len cap : Nat} {zs : List Int}
    (h : (a = none ∧ len = 0 ∧ cap = 0 ∧ zs = []) ∨ ∃ x, a = some x ∧ len ≤ cap ∧ cap ≤ maxLen ∧ zs.length = cap ∧ (∀ i, i < zs.length → w.cell? (x.add i) = some (.int .u16 (zs.getD i 0))) ∧ ∀ n ∈ zs, (Lit.int .u16 n).wf = true) :
    ∃ l, Us .u16 65536 w w.heap.size a len cap l := by
  rcases h with ⟨rfl, rfl, rfl, rfl⟩ | ⟨x, rfl, hl, hm, hz', hcell, hwz⟩
  · exact ⟨[], Sn.nil_ _ _ _ _ _ (Nat.zero_le _), fun p hp => by cases hp⟩
  · refine ⟨(zs.take len).map Int.toNat, ⟨by simp; omega, hl, hm, fun hp => ?_⟩, fun y hy => ?_⟩
    · obtain ⟨b, o, spot⟩ := x
      have h0 := hcell 0 (by omega)
      have hspot : spot = none := by simpa [Addr.add] using World.cell?_spot h0
      subst hspot
      have hb := World.block_lt_of_cell? w _ h0
      refine ⟨b, o, rfl, by simpa [Addr.add] using hb, fun j y hy => ?_⟩
      rw [List.getElem?_map, List.getElem?_map, List.getElem?_take] at hy
      by_cases hj : j < len
      · rw [if_pos hj, List.getElem?_eq_getElem (by omega)] at hy
        simp only [Option.map_some, Option.some.injEq] at hy
        have h1 := hcell j (by omega)
        rw [Go.Proofs.Ytjmdjnldkecoeaa.add_plain] at h1
        have h2 := bounds_u16 (hwz _ (List.getElem_mem (l := zs) (n := j) (by omega)))
        rw [h1, ← hy, List.getD_eq_getElem?_getD, List.getElem?_eq_getElem (by omega)]
        congr 2
        simp
        omega
      · rw [if_neg hj] at hy
        simp at hy
    · obtain ⟨z, hz1, rfl⟩ := List.mem_map.1 hy
      have h2 := bounds_u16 (hwz z (List.mem_of_mem_take hz1))
      omega
theorem cellsU16s : Try.prog.cellsOf 37 = 1 := by kernel_rfl
set_option maxRecDepth 100000 in
theorem came_u16ss {H : Type} {enc : TypeId × Value → H} {W : World} {base : Nat} {v : Value} {d : DataW H} {p : List MemPlace}
    (hv : Value.okWide Try.prog W .any base 38 v) (h : DataW.Trod enc Try.prog W 0 (fun _ => true) true 38 v d p) :
    ∃ A n c, v = .slice A n c ∧ ∃ ps, Uqs W W.heap.size A n c ps := by
  obtain ⟨A, n, c, rfl⟩ := okWide_slice Try.underlying38 hv
  refine ⟨A, n, c, rfl, ?_⟩
  obtain ⟨fuel, hf⟩ := h
  rcases Deep.open_slice1 Try.underlying38 cellsU16s hf with ⟨hcs, _⟩ | ⟨a, len, cap, m, n', V, D, Pl, hcs, _, hl, hm, hmm, _, hx⟩
  · simp [Value.cells] at hcs
    obtain ⟨rfl, rfl, rfl⟩ := hcs
    exact ⟨[], Sn.nil_ _ _ _ _ _ (Nat.zero_le _), fun p hp => by cases hp⟩
  · simp [Value.cells] at hcs
    obtain ⟨rfl, rfl, rfl⟩ := hcs
    have hlm : n ≤ m := by rw [hmm]; simp; exact hl
    have one : ∀ i, i < n → ∃ q : Uc, V i = .slice q.A q.n q.c ∧ Us .u16 65536 W W.heap.size q.A q.n q.c q.L := fun i hi => by
      have h1 := (hx i (by omega)).2
      rcases open_ints Try.underlying37 Try.underlying39 (by kernel_rfl) h1 with ⟨hcs, _⟩ | ⟨x, l, c', zs, hcs, _, hl', hm', hz, _, hcell, hwz⟩
      · simp at hcs
        exact ⟨⟨none, 0, 0, []⟩, hcs, Sn.nil_ _ _ _ _ _ (Nat.zero_le _), fun p hp => by cases hp⟩
      · simp at hcs
        obtain ⟨bs, hs⟩ := us16_of_row (w := W) (zs := zs) (.inr ⟨x, rfl, hl', hm', by simpa using hz, hcell, hwz⟩)
        exact ⟨⟨some x, l, c', bs⟩, hcs, hs⟩
    have hin : Inhabited Uc := ⟨⟨none, 0, 0, []⟩⟩
    obtain ⟨Q, hQ⟩ := Deep.choose_lt (p := fun i (q : Uc) => V i = .slice q.A q.n q.c ∧ Us .u16 65536 W W.heap.size q.A q.n q.c q.L) one
    refine ⟨(List.range n).map Q, ⟨by simp, hl, hm, fun hn => ?_⟩, fun q hq => ?_⟩
    · have h0 := (hx 0 (by omega)).1
      obtain ⟨b, o, spot⟩ := a
      have hspot : spot = none := by simpa [Addr.add] using World.cell?_spot h0
      subst hspot
      have hb := World.block_lt_of_cell? W _ h0
      refine ⟨b, o, rfl, by simpa [Addr.add] using hb, fun j q hj => ?_⟩
      rw [List.getElem?_map, List.getElem?_map] at hj
      obtain ⟨i0, hi0, rfl⟩ := Option.map_eq_some_iff.1 hj
      obtain ⟨i, hi, rfl⟩ := Option.map_eq_some_iff.1 hi0
      obtain ⟨hlt, hii⟩ := List.getElem?_eq_some_iff.1 hi
      simp at hlt hii
      subst hii
      have h1 := (hx j (by omega)).1
      rw [Go.Proofs.Ytjmdjnldkecoeaa.add_plain, (hQ j hlt).1] at h1
      exact h1
    · obtain ⟨i, hi, rfl⟩ := List.mem_map.1 hq
      exact (hQ i (by simpa using hi)).2
end Go.Proofs.Ytjmdjnldkecoeaa
