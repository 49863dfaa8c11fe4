/-
  AN ARGUMENT THAT CAME IN, opened: a slice of what is asked of the readers.
  No statement is proved here.
-/
import Derived.Test.YtmafdoodgkhgeaaLawReads
import Derived.Test.YtmafdoodgkhgeaaPackCame
import Derived.Deep.SlicePairs
namespace Go.Proofs.Ytmafdoodgkhgeaa
open Go.ChangeShapes Go.WideShapes Go.ChangeAt Go.RowKit

theorem came_acts {H : Type} {enc : TypeId × Value → H} {W : World} {base : Nat} {v : Value} {d : DataW H} {p : List MemPlace}
    (hv : Value.okWide Try.prog W .any base 41 v) (h : DataW.Trod enc Try.prog W 0 (fun _ => true) true 41 v d p) :
    ∃ A n c, v = .slice A n c ∧ ∃ ks, Acts W W.heap.size A n c ks := by
  obtain ⟨A, n, c, rfl⟩ := okWide_slice Try.underlying41 hv
  refine ⟨A, n, c, rfl, ?_⟩
  obtain ⟨fuel, hf⟩ := h
  rcases Deep.open_slice_pairs Try.underlying41 Try.underlying46 (by kernel_rfl) rfl rfl (by kernel_rfl) (by kernel_rfl) hf with ⟨hcs, _⟩ | ⟨a, len, cap, m, n', V0, V1, D0, D1, P0, P1, hcs, _, hl, hm, hmm, _, hx⟩
  · simp [Value.cells] at hcs
    obtain ⟨rfl, rfl, rfl⟩ := hcs
    exact ⟨[], rfl, Nat.le_refl _, Nat.zero_le _, fun h => absurd h (Nat.lt_irrefl _)⟩
  · simp [Value.cells] at hcs
    obtain ⟨rfl, rfl, rfl⟩ := hcs
    have hlm : n ≤ m := by rw [hmm]; simp; exact hl
    have one : ∀ i, i < n → ∃ k : Ak, V0 i = .int .u8 (k.d.toNat : Int) ∧ V1 i = .int .i64 k.N ∧ (-9223372036854775808 ≤ k.N ∧ k.N ≤ 9223372036854775807) := fun i hi => by
      have h1 := hx i (by omega)
      obtain ⟨x, hx1, -, hw1⟩ := DataW.trod_int Try.underlying5 h1.2.2.1
      obtain ⟨y, hy1, -, hw2⟩ := DataW.trod_int Try.underlying3 h1.2.2.2
      have b1 := bounds_u8 hw1
      have b2 := bounds_i64 hw2
      injection hx1 with hx1
      injection hy1 with hy1
      refine ⟨⟨UInt8.ofNat x.toNat, y⟩, ?_, hy1, b2⟩
      rw [hx1]
      congr 1
      have e : (UInt8.ofNat x.toNat).toNat = x.toNat := by
        rw [UInt8.toNat_ofNat']
        omega
      show x = ((UInt8.ofNat x.toNat).toNat : Int)
      rw [e]
      omega
    have hin : Inhabited Ak := ⟨⟨0, 0⟩⟩
    obtain ⟨Q, hQ⟩ := Deep.choose_lt (p := fun i (k : Ak) => V0 i = .int .u8 (k.d.toNat : Int) ∧ V1 i = .int .i64 k.N ∧ (-9223372036854775808 ≤ k.N ∧ k.N ≤ 9223372036854775807)) one
    refine ⟨(List.range n).map Q, by simp, hl, hm, fun hn => ?_⟩
    have h0 := (hx 0 (by omega)).1
    obtain ⟨b, o, spot⟩ := a
    have hspot : spot = none := by simpa [Addr.add] using World.cell?_spot h0
    subst hspot
    have hb := World.block_lt_of_cell? W _ h0
    refine ⟨b, o, rfl, by simpa [Addr.add] using hb, fun j q hj => ?_⟩
    rw [List.getElem?_map] at hj
    obtain ⟨i, hi, rfl⟩ := Option.map_eq_some_iff.1 hj
    obtain ⟨hlt, hii⟩ := List.getElem?_eq_some_iff.1 hi
    simp at hlt hii
    subst hii
    have h1 := hx j (by omega)
    rw [Go.Proofs.Ytmafdoodgkhgeaa.add_plain, Go.Proofs.Ytmafdoodgkhgeaa.add_plain, (hQ j hlt).1, (hQ j hlt).2.1] at h1
    exact ⟨h1.1, by rw [Nat.add_assoc]; exact h1.2.1, (hQ j hlt).2.2⟩
end Go.Proofs.Ytmafdoodgkhgeaa
