/-
  A SLICE OF BYTE SLICES THAT CAME IN, opened.
  No statement is proved here.
-/
import Derived.Test.YtmafdoodgkhgeaaDoorMarkCard
import Derived.Test.YtmafdoodgkhgeaaDoorLawParts
import Derived.Deep.Slices
namespace Go.Proofs.YtmafdoodgkhgeaaDoor
open Go.ChangeShapes Go.WideShapes Go.ChangeAt Go.RowKit

theorem cellsBytes : Tryd.prog.cellsOf 22 = 1 := by kernel_rfl
theorem came_rows {H : Type} {enc : TypeId × Value → H} {W : World} {base : Nat} {v : Value} {d : DataW H} {p : List MemPlace}
    (hv : Value.okWide Tryd.prog W .any base 41 v) (h : DataW.Trod enc Tryd.prog W 0 (fun _ => true) true 41 v d p) :
    ∃ A n c, v = .slice A n c ∧ ∃ ps, Rws W W.heap.size A n c ps := by
  obtain ⟨A, n, c, rfl⟩ := okWide_slice Tryd.underlying41 hv
  refine ⟨A, n, c, rfl, ?_⟩
  obtain ⟨fuel, hf⟩ := h
  rcases Deep.open_slice1 Tryd.underlying41 cellsBytes hf with ⟨hcs, _⟩ | ⟨a, len, cap, m, n', V, D, Pl, hcs, _, hl, hm, hmm, _, hx⟩
  · simp [Value.cells] at hcs
    obtain ⟨rfl, rfl, rfl⟩ := hcs
    exact ⟨[], rfl, Nat.le_refl _, Nat.zero_le _, fun h => absurd h (Nat.lt_irrefl _), fun p hp => by cases hp⟩
  · simp [Value.cells] at hcs
    obtain ⟨rfl, rfl, rfl⟩ := hcs
    have hlm : n ≤ m := by rw [hmm]; simp; exact hl
    have one : ∀ i, i < n → ∃ q : Pt, V i = q.v ∧ Sl W W.heap.size q.A q.n q.c q.l := fun i hi => by
      have h1 := (hx i (by omega)).2
      rcases open_ints Tryd.underlying22 Tryd.underlying5 (by kernel_rfl) h1 with ⟨hcs, _⟩ | ⟨x, l, c', zs, hcs, _, hl', hm', hz, _, hcell, hwz⟩
      · simp at hcs
        exact ⟨⟨none, 0, 0, []⟩, hcs, Sl.nil_ _ _ _ _ (Nat.zero_le _)⟩
      · simp at hcs
        obtain ⟨bs, hs⟩ := sl_of_row (w := W) (zs := zs) (.inr ⟨x, rfl, hl', hm', by simpa using hz, hcell, hwz⟩)
        exact ⟨⟨some x, l, c', bs⟩, hcs, hs⟩
    have hin : Inhabited Pt := ⟨⟨none, 0, 0, []⟩⟩
    obtain ⟨Q, hQ⟩ := Deep.choose_lt (p := fun i (q : Pt) => V i = q.v ∧ Sl W W.heap.size q.A q.n q.c q.l) one
    refine ⟨(List.range n).map Q, by simp, hl, hm, fun hn => ?_, fun q hq => ?_⟩
    · have h0 := (hx 0 (by omega)).1
      obtain ⟨b, o, spot⟩ := a
      have hspot : spot = none := by simpa [Addr.add] using World.cell?_spot h0
      subst hspot
      have hb := World.block_lt_of_cell? W _ h0
      refine ⟨b, o, rfl, by simpa [Addr.add] using hb, fun j q hj => ?_⟩
      rw [List.getElem?_map] at hj
      obtain ⟨i, hi, rfl⟩ := Option.map_eq_some_iff.1 hj
      obtain ⟨hlt, hii⟩ := List.getElem?_eq_some_iff.1 hi
      simp at hlt hii
      subst hii
      have h1 := (hx j (by omega)).1
      rw [Go.Proofs.YtmafdoodgkhgeaaDoor.add_plain, (hQ j hlt).1] at h1
      exact h1
    · obtain ⟨i, hi, rfl⟩ := List.mem_map.1 hq
      exact (hQ i (by simpa using hi)).2
end Go.Proofs.YtmafdoodgkhgeaaDoor
