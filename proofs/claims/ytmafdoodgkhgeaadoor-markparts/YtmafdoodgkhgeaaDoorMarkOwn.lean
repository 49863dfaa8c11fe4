/-
  LAWS on a row of one's own that is written byte by byte.
  No statement is proved here.
-/
import Derived.Test.YtmafdoodgkhgeaaDoorMarkClose
import Derived.Test.YtmafdoodgkhgeaaDoorMarkTurn
namespace Go.Proofs.YtmafdoodgkhgeaaDoor
open Go.RowKit

theorem only_set (w : World) (g i : Nat) (u : Value) : w.grownBy (w.setCell ⟨g, i, none⟩ u) (some g) :=
  ⟨rfl, rfl, rfl, by simp [World.setCell], fun k _ hne => Below.heap_setCell w ⟨g, i, none⟩ u k (fun e => hne (by rw [e]))⟩
theorem only_refl (w : World) (row : Option Nat) : w.grownBy w row := ⟨rfl, rfl, rfl, Nat.le_refl _, fun _ _ _ => rfl⟩
theorem only_trans {a b c : World} {row : Option Nat} (h : a.grownBy b row) (k : b.grownBy c row) : a.grownBy c row :=
  ⟨k.os.trans h.os, k.tape.trans h.tape, k.output.trans h.output, Nat.le_trans h.size k.size, fun i hi hne => (k.block i (Nat.lt_of_lt_of_le hi h.size) hne).trans (h.block i hi hne)⟩
theorem own_set {w : World} {base g n c : Nat} {l : List UInt8} (h : w.ownsRow base 5 1 (.slice (some ⟨g, 0, none⟩) n c) n (cbs l)) (j : Nat) (b : UInt8) :
    (w.setCell ⟨g, j, none⟩ (cb b)).ownsRow base 5 1 (.slice (some ⟨g, 0, none⟩) n c) n (cbs (l.set j b)) := by
  have h1 := h.stored j (cb b)
  have e : (cbs l).set j (cb b) = cbs (l.set j b) := by simp [cbs, List.map_set]
  rw [e] at h1
  exact h1.1
theorem own_at {w : World} {base n c : Nat} {A : Option Addr} {l : List UInt8} (h : w.ownsRow base 5 1 (.slice A n c) n (cbs l)) {j : Nat} (hj : j < n) :
    ∃ g x, A = some ⟨g, 0, none⟩ ∧ base ≤ g ∧ g < w.heap.size ∧ l[j]? = some x ∧ w.cell? ⟨g, j, none⟩ = some (.int .u8 (UInt8.toNat x : Int)) ∧ w.frozen? ⟨g, j, none⟩ = false := by
  have hl := (Sl.of_own h).len
  rcases h.2 with ⟨hv, hn⟩ | ⟨g, cap, cur, hv, hb, hh, _⟩
  · omega
  · injection hv with e1 e2 e3
    subst e1 e3
    have hc := h.cells (g := g) rfl j (cb l[j]) (by rw [cbs_at, List.getElem?_eq_getElem (by omega)]; rfl)
    rw [add_plain, Nat.zero_add] at hc
    exact ⟨g, l[j], rfl, hb, (Array.getElem?_eq_some_iff.1 hh).1, List.getElem?_eq_getElem (by omega), hc, h.frozenAt j⟩
theorem xor_byte (x t : UInt8) : Value.int .u8 (bits .xor .u8 (x.toNat : Int) (t.toNat : Int)) = cb (x ^^^ t) := by
  rw [u8_xor_nat x.toNat t.toNat (by have := x.toNat_lt; omega) (by have := t.toNat_lt; omega)]
  unfold cb
  rw [UInt8.toNat_xor]

/-- The first j of four bytes, from k on, are turned. -/
structure Turned (q l : List UInt8) (k j : Nat) (ts : List UInt8) : Prop where
  len : l.length = q.length
  front : l.take k = q.take k
  back : l.drop (k + 4) = q.drop (k + 4)
  mid : ∀ i, i < 4 → l[k + i]? = if i < j then (q[k + i]?).map (· ^^^ ts.getD i 0) else q[k + i]?
theorem Turned.start (q : List UInt8) (k : Nat) (ts : List UInt8) : Turned q q k 0 ts := ⟨rfl, rfl, rfl, fun i _ => by simp⟩
theorem Turned.step {q l : List UInt8} {k j : Nat} {ts : List UInt8} (h : Turned q l k j ts) (hj : j < 4) {x : UInt8} (hx : l[k + j]? = some x) : Turned q (l.set (k + j) (x ^^^ ts.getD j 0)) k (j + 1) ts := by
  refine ⟨by rw [List.length_set]; exact h.len, by rw [List.take_set_of_le (by omega)]; exact h.front, by rw [List.drop_set_of_lt (by omega)]; exact h.back, fun i hi => ?_⟩
  obtain ⟨hl, _⟩ := List.getElem?_eq_some_iff.1 hx
  by_cases hij : i = j
  · subst hij
    have hm := h.mid i hi
    rw [if_neg (Nat.lt_irrefl _), hx] at hm
    rw [List.getElem?_set_self hl, if_pos (by omega), ← hm]
    rfl
  · rw [List.getElem?_set_ne (by omega), h.mid i hi]
    by_cases hlt : i < j
    · rw [if_pos hlt, if_pos (by omega)]
    · rw [if_neg hlt, if_neg (by omega)]
theorem Turned.differ {q l : List UInt8} {k : Nat} {b0 b1 b2 b3 : UInt8} (h : Turned q l k 4 [b0, b1, b2, b3]) (hk : k + 4 ≤ q.length) (hz : ¬ (b0 = 0 ∧ b1 = 0 ∧ b2 = 0 ∧ b3 = 0)) : q ≠ l := by
  intro e
  subst e
  have z : ∀ i, i < 4 → [b0, b1, b2, b3].getD i 0 = (0 : UInt8) := fun i hi => by
    have hm := h.mid i hi
    rw [if_pos hi, List.getElem?_eq_getElem (by omega)] at hm
    simp only [Option.map_some, Option.some.injEq] at hm
    generalize q[k + i] = y at hm
    generalize [b0, b1, b2, b3].getD i 0 = t at hm
    have h5 : y ^^^ y = y ^^^ (y ^^^ t) := by rw [← hm]
    rw [← UInt8.xor_assoc, UInt8.xor_self, UInt8.zero_xor] at h5
    exact h5.symm
  exact hz ⟨z 0 (by omega), z 1 (by omega), z 2 (by omega), z 3 (by omega)⟩
end Go.Proofs.YtmafdoodgkhgeaaDoor
