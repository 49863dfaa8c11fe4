/-
  TEXTS OF EARLIER ROUNDS, laid together: part 20.
  No statement is proved here.
-/
import Derived.Test.YtbnhemmklbbnmaaBdLot15
import Derived.Test.YtbnhemmklbbnmaaBdLot18

/-! ## CameNums -/
namespace Go.Proofs.Ytbnhemmklbbnmaa
open Go.ChangeShapes Go.WideShapes Go.ChangeAt Go.RowKit

/-- Numbers that came in. -/
structure Nw (w : World) (A : Option Addr) (n c : Nat) (l : List Nat) : Prop where
  sn : Sn w w.heap.size A n c 1 (nvs l)
  lt : ∀ x ∈ l, x < two64
set_option maxRecDepth 100000 in
theorem came_nums {H : Type} {enc : TypeId × Value → H} {W : World} {base : Nat} {v : Value} {d : DataW H} {p : List MemPlace}
    (hv : Value.okWide Try.prog W .any base 37 v) (h : DataW.Trod enc Try.prog W 0 (fun _ => true) true 37 v d p) :
    ∃ A n c, v = .slice A n c ∧ ∃ xs, Nw W A n c xs := by
  obtain ⟨A, n, c, rfl⟩ := okWide_slice Try.underlying37 hv
  refine ⟨A, n, c, rfl, ?_⟩
  obtain ⟨fuel, hf⟩ := h
  rcases open_ints Try.underlying37 Try.underlying34 (by kernel_rfl) hf with ⟨hcs, _⟩ | ⟨x, l, c', zs, hcs, _, hl, hm, hz, _, hcell, hwz⟩
  · simp [Value.cells] at hcs
    obtain ⟨rfl, rfl, rfl⟩ := hcs
    exact ⟨[], Sn.nil_ _ _ _ _ _ (Nat.zero_le _), fun p hp => by cases hp⟩
  · simp [Value.cells] at hcs
    obtain ⟨rfl, rfl, rfl⟩ := hcs
    have hz' : zs.length = c := by simpa using hz
    refine ⟨(zs.take n).map Int.toNat, ⟨by rw [nvs_len, List.length_map, List.length_take]; omega, hl, hm, fun hp => ?_⟩, fun y hy => ?_⟩
    · obtain ⟨b, o, spot⟩ := x
      have h0 := hcell 0 (by omega)
      have hspot : spot = none := by simpa [Addr.add] using World.cell?_spot h0
      subst hspot
      have hb := World.block_lt_of_cell? W _ h0
      refine ⟨b, o, rfl, by simpa [Addr.add] using hb, fun j y hy => ?_⟩
      unfold nvs at hy
      rw [List.map_map, List.getElem?_map, List.getElem?_take] at hy
      by_cases hj : j < n
      · rw [if_pos hj, List.getElem?_eq_getElem (by omega)] at hy
        simp only [Option.map_some, Option.some.injEq, Function.comp] at hy
        have h1 := hcell j (by omega)
        rw [Go.Proofs.Ytbnhemmklbbnmaa.add_plain] at h1
        have h2 := bounds_u64 (hwz _ (List.getElem_mem (l := zs) (n := j) (by omega)))
        rw [h1, ← hy, List.getD_eq_getElem?_getD, List.getElem?_eq_getElem (by omega)]
        unfold nv
        congr 2
        simp
        omega
      · rw [if_neg hj] at hy
        simp at hy
    · obtain ⟨z, hz1, rfl⟩ := List.mem_map.1 hy
      have h2 := bounds_u64 (hwz z (List.mem_of_mem_take hz1))
      unfold two64
      omega
theorem Nw.on {w w' : World} {A : Option Addr} {n c : Nat} {l : List Nat} (h : Nw w A n c l) (hb : RowKit.Below w.heap.size w w') : Nw w' A n c l := ⟨h.sn.on hb (Nat.le_refl _), h.lt⟩
theorem nvs_take (l : List Nat) (m : Nat) : (nvs l).take m = nvs (l.take m) := by unfold nvs; rw [List.map_take]
theorem Nw.take {w : World} {A : Option Addr} {n c : Nat} {l : List Nat} (h : Nw w A n c l) {m : Nat} (hm : m ≤ n) : Nw w A m c (l.take m) :=
  ⟨by have := h.sn.take hm (show m ≤ c from Nat.le_trans hm h.sn.le) (Nat.le_refl _); rw [Nat.mul_one, nvs_take] at this; exact this, fun x hx => h.lt x (List.mem_of_mem_take hx)⟩
end Go.Proofs.Ytbnhemmklbbnmaa
