/-
  ARGUMENTS THAT CAME IN, opened: slices of bytes, of numbers, of byte slices.
  No statement is proved here.
-/
import Derived.Test.YtmafdoodgkhgeaaLawRows
import Derived.ProofKit
import Derived.OpenShut
import Derived.ShutString
import Derived.ChangeOld
import Derived.Deep.Slices
namespace Go.Proofs.Ytmafdoodgkhgeaa
open Go.ChangeShapes Go.WideShapes Go.ChangeAt Go.RowKit

theorem ownK : ownKnob Try.prog.godebug = none := by kernel_rfl
theorem laidOut : laidOutB Try.prog = true := by kernel_rfl
theorem cellsBytes : Try.prog.cellsOf 22 = 1 := by kernel_rfl
theorem came_bytes {H : Type} {enc : TypeId × Value → H} {W : World} {base : Nat} {v : Value} {d : DataW H} {p : List MemPlace}
    (hv : Value.okWide Try.prog W .any base 22 v) (h : DataW.Trod enc Try.prog W 0 (fun _ => true) true 22 v d p) :
    ∃ A n c l, v = .slice A n c ∧ Sl W W.heap.size A n c l := by
  obtain ⟨A, n, c, rfl⟩ := okWide_slice Try.underlying22 hv
  obtain ⟨fuel, hf⟩ := h
  rcases open_ints Try.underlying22 Try.underlying5 (by kernel_rfl) hf with ⟨hcs, _⟩ | ⟨x, l, c', zs, hcs, _, hl, hm, hz, _, hcell, hwz⟩
  · simp [Value.cells] at hcs
    obtain ⟨rfl, rfl, rfl⟩ := hcs
    exact ⟨none, 0, 0, [], rfl, Sl.nil_ _ _ _ _ (Nat.zero_le _)⟩
  · simp [Value.cells] at hcs
    obtain ⟨rfl, rfl, rfl⟩ := hcs
    obtain ⟨bs, hs⟩ := sl_of_row (w := W) (zs := zs) (.inr ⟨x, rfl, hl, hm, by simpa using hz, hcell, hwz⟩)
    exact ⟨_, _, _, bs, rfl, hs⟩
theorem came_nums {H : Type} {enc : TypeId × Value → H} {W : World} {base : Nat} {v : Value} {d : DataW H} {p : List MemPlace}
    (hv : Value.okWide Try.prog W .any base 58 v) (h : DataW.Trod enc Try.prog W 0 (fun _ => true) true 58 v d p) :
    ∃ A n c, v = .slice A n c ∧ ∃ xs, Ns W W.heap.size A n c xs := by
  obtain ⟨A, n, c, rfl⟩ := okWide_slice Try.underlying58 hv
  refine ⟨A, n, c, rfl, ?_⟩
  obtain ⟨fuel, hf⟩ := h
  rcases open_ints Try.underlying58 Try.underlying23 (by kernel_rfl) hf with ⟨hcs, _⟩ | ⟨x, l, c', zs, hcs, _, hl, hm, hz, _, hcell, hwz⟩
  · simp [Value.cells] at hcs
    obtain ⟨rfl, rfl, rfl⟩ := hcs
    exact ⟨[], rfl, Nat.le_refl _, Nat.zero_le _, fun h => absurd h (Nat.lt_irrefl _), fun p hp => by cases hp⟩
  · simp [Value.cells] at hcs
    obtain ⟨rfl, rfl, rfl⟩ := hcs
    have hz' : zs.length = c := by simpa using hz
    refine ⟨(zs.take n).map Int.toNat, by rw [List.length_map, List.length_take]; omega, hl, hm, fun hp => ?_, fun y hy => ?_⟩
    · obtain ⟨b, o, spot⟩ := x
      have h0 := hcell 0 (by omega)
      have hspot : spot = none := by simpa [Addr.add] using World.cell?_spot h0
      subst hspot
      have hb := World.block_lt_of_cell? W _ h0
      refine ⟨b, o, rfl, by simpa [Addr.add] using hb, fun j y hy => ?_⟩
      rw [List.getElem?_map, List.getElem?_take] at hy
      by_cases hj : j < n
      · rw [if_pos hj, List.getElem?_eq_getElem (by omega)] at hy
        simp only [Option.map_some, Option.some.injEq] at hy
        have h1 := hcell j (by omega)
        rw [Go.Proofs.Ytmafdoodgkhgeaa.add_plain] at h1
        have h2 := bounds_u64 (hwz _ (List.getElem_mem (l := zs) (n := j) (by omega)))
        rw [h1, ← hy, List.getD_eq_getElem?_getD, List.getElem?_eq_getElem (by omega)]
        congr 2
        simp
        omega
      · rw [if_neg hj] at hy
        simp at hy
    · obtain ⟨z, hz1, rfl⟩ := List.mem_map.1 hy
      have h2 := bounds_u64 (hwz z (List.mem_of_mem_take hz1))
      unfold two64
      omega
theorem came_rows {H : Type} {enc : TypeId × Value → H} {W : World} {base : Nat} {v : Value} {d : DataW H} {p : List MemPlace}
    (hv : Value.okWide Try.prog W .any base 59 v) (h : DataW.Trod enc Try.prog W 0 (fun _ => true) true 59 v d p) :
    ∃ A n c, v = .slice A n c ∧ ∃ ps, Rws W W.heap.size A n c ps := by
  obtain ⟨A, n, c, rfl⟩ := okWide_slice Try.underlying59 hv
  refine ⟨A, n, c, rfl, ?_⟩
  obtain ⟨fuel, hf⟩ := h
  rcases Deep.open_slice1 Try.underlying59 cellsBytes hf with ⟨hcs, _⟩ | ⟨a, len, cap, m, n', V, D, Pl, hcs, _, hl, hm, hmm, _, hx⟩
  · simp [Value.cells] at hcs
    obtain ⟨rfl, rfl, rfl⟩ := hcs
    exact ⟨[], rfl, Nat.le_refl _, Nat.zero_le _, fun h => absurd h (Nat.lt_irrefl _), fun p hp => by cases hp⟩
  · simp [Value.cells] at hcs
    obtain ⟨rfl, rfl, rfl⟩ := hcs
    have hlm : n ≤ m := by rw [hmm]; simp; exact hl
    have one : ∀ i, i < n → ∃ q : Pt, V i = q.v ∧ Sl W W.heap.size q.A q.n q.c q.l := fun i hi => by
      have h1 := (hx i (by omega)).2
      rcases open_ints Try.underlying22 Try.underlying5 (by kernel_rfl) h1 with ⟨hcs, _⟩ | ⟨x, l, c', zs, hcs, _, hl', hm', hz, _, hcell, hwz⟩
      · simp at hcs
        exact ⟨⟨none, 0, 0, []⟩, hcs, Sl.nil_ _ _ _ _ (Nat.zero_le _)⟩
      · simp at hcs
        obtain ⟨bs, hs⟩ := sl_of_row (w := W) (zs := zs) (.inr ⟨x, rfl, hl', hm', by simpa using hz, hcell, hwz⟩)
        exact ⟨⟨some x, l, c', bs⟩, hcs, hs⟩
    have hin : Inhabited Pt := ⟨⟨none, 0, 0, []⟩⟩
    obtain ⟨Q, hQ⟩ := Deep.choose_lt (p := fun i (q : Pt) => V i = q.v ∧ Sl W W.heap.size q.A q.n q.c q.l) one
    refine ⟨(List.range n).map Q, by simp, hl, hm, fun hn => ?_, fun q hq => ?_⟩
    · have h0 := (hx 0 (by omega)).1
      obtain ⟨b, o, spot⟩ := a
      have hspot : spot = none := by simpa [Addr.add] using World.cell?_spot h0
      subst hspot
      have hb := World.block_lt_of_cell? W _ h0
      refine ⟨b, o, rfl, by simpa [Addr.add] using hb, fun j q hj => ?_⟩
      rw [List.getElem?_map] at hj
      obtain ⟨i, hi, rfl⟩ := Option.map_eq_some_iff.1 hj
      obtain ⟨hlt, hii⟩ := List.getElem?_eq_some_iff.1 hi
      simp at hlt hii
      subst hii
      have h1 := (hx j (by omega)).1
      rw [Go.Proofs.Ytmafdoodgkhgeaa.add_plain, (hQ j hlt).1] at h1
      exact h1
    · obtain ⟨i, hi, rfl⟩ := List.mem_map.1 hq
      exact (hQ i (by simpa using hi)).2
end Go.Proofs.Ytmafdoodgkhgeaa
