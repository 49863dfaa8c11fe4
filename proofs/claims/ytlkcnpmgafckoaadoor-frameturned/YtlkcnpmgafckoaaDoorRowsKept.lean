/-
  TWO ROWS THAT GROW BESIDE BYTES: what an append to one of them leaves. For SpanRows.
  No statement is proved here.
-/
import Derived.Test.YtlkcnpmgafckoaaDoorSpanMath
import Derived.Laws.BitsLemmas
namespace Go.Proofs.YtlkcnpmgafckoaaDoor
open Go.RowKit

theorem and7 (n : Int) : bits .and .i64 n 7 = n % 8 := by
  have h7 : (BitVec.ofInt 64 7).toNat = 2 ^ 3 - 1 := by decide
  have key : (BitVec.ofInt 64 n &&& BitVec.ofInt 64 7).toNat = (n % ((2 ^ 64 : Nat) : Int)).toNat % 2 ^ 3 := by
    rw [BitVec.toNat_and, BitVec.toNat_ofInt, h7, Nat.and_two_pow_sub_one_eq_mod]
  show IntKind.i64.wrap ((BitVec.ofInt 64 n &&& BitVec.ofInt 64 7).toNat : Nat) = n % 8
  rw [key, IntKind.wrap_i64]
  omega

/-- An item as it came; as it is kept. -/
structure Ik where
  N : Nat
  C : Int
  q : Pt
def Ik.v (k : Ik) : List Value := [.int .u64 (k.N : Int), .int .i64 k.C, k.q.v]
def Ik.it (k : Ik) : It := ⟨k.N, k.C, k.q.l⟩
structure Itms (w : World) (B : Nat) (A : Option Addr) (n c : Nat) (ks : List Ik) : Prop where
  len : ks.length = n
  le : n ≤ c
  max : c ≤ maxLen
  cell : 0 < n → ∃ b o, A = some ⟨b, o, none⟩ ∧ b < B ∧ ∀ (j : Nat) (k : Ik), ks[j]? = some k → w.cell? ⟨b, o + j * 3, none⟩ = some (.int .u64 (k.N : Int)) ∧ w.cell? ⟨b, o + j * 3 + 1, none⟩ = some (.int .i64 k.C) ∧ w.cell? ⟨b, o + j * 3 + 2, none⟩ = some k.q.v
  sl : ∀ k ∈ ks, Sl w B k.q.A k.q.n k.q.c k.q.l ∧ k.N < two64
theorem Itms.at_ {w : World} {B : Nat} {A : Option Addr} {n c j : Nat} {ks : List Ik} (h : Itms w B A n c ks) (hj : j < n) : ∃ b o k, A = some ⟨b, o, none⟩ ∧ b < B ∧ ks[j]? = some k ∧ w.cell? ⟨b, o + j * 3, none⟩ = some (.int .u64 (k.N : Int)) ∧ w.cell? ⟨b, o + j * 3 + 1, none⟩ = some (.int .i64 k.C) ∧
    w.cell? ⟨b, o + j * 3 + 2, none⟩ = some (.slice k.q.A k.q.n k.q.c) ∧ Sl w B k.q.A k.q.n k.q.c k.q.l ∧ k.N < two64 := by
  obtain ⟨b, o, e, hb, hc⟩ := h.cell (by omega)
  have hl : j < ks.length := by have := h.len; omega
  have hk := List.getElem?_eq_getElem hl
  obtain ⟨h1, h2, h3⟩ := hc j _ hk
  obtain ⟨h4, h5⟩ := h.sl _ (List.getElem_mem hl)
  exact ⟨b, o, ks[j], e, hb, hk, h1, h2, h3, h4, h5⟩

/-- What becomes of an item. -/
def cutI (k : Ik) : It := ⟨k.N, k.C % 8, k.q.l.take 40⟩
theorem cutI_ok {k : Ik} (h : k.N < two64) : (cutI k).ok := by
  refine ⟨h, ?_⟩
  unfold rightB cutI
  simp
  omega
theorem itemB_len {N : Nat} {C : Int} {b : List UInt8} (hN : N < two64) (hb : b.length ≤ 40) : (itemB N C b).length ≤ 61 := by
  unfold itemB
  rw [List.length_append]
  have := num_len10 N hN
  have := spanB_len C b (by omega)
  omega

/-- Where each item ends. -/
def endsV (xs : List It) : List Value := (List.range xs.length).map fun i => .int .i64 ((itsB (xs.take (i + 1))).length : Int)
theorem endsV_len (xs : List It) : (endsV xs).length = xs.length := by simp [endsV]
theorem endsV_at {xs : List It} {i : Nat} (h : i < xs.length) : (endsV xs)[i]? = some (.int .i64 ((itsB (xs.take (i + 1))).length : Int)) := by
  unfold endsV
  rw [List.getElem?_map, List.getElem?_range h]
  rfl
theorem endsV_snoc (xs : List It) (x : It) : endsV (xs ++ [x]) = endsV xs ++ [.int .i64 ((itsB (xs ++ [x])).length : Int)] := by
  unfold endsV
  rw [List.length_append, List.length_singleton, List.range_succ, List.map_append, List.map_singleton]
  congr 1
  · refine List.map_congr_left fun i hi => ?_
    rw [List.mem_range] at hi
    rw [List.take_append_of_le_length (by omega)]
  · rw [List.take_of_length_le (by simp)]
theorem endsV_one (xs : List It) : ∀ u ∈ endsV xs, u.oneCell' = true := by
  intro u hu
  obtain ⟨i, _, rfl⟩ := List.mem_map.1 hu
  rfl

structure Kept (w : World) (B : Nat) (Ve Vs : Value) (ps : List Pt) : Prop where
  own : ∀ p ∈ ps, w.ownsRow B 5 1 p.v p.n (cbs p.l)
  off : ∀ p ∈ ps, p.v.ownBlock = none ∨ (p.v.ownBlock ≠ Ve.ownBlock ∧ p.v.ownBlock ≠ Vs.ownBlock)
theorem Kept.on {w w' : World} {B : Nat} {Ve Vs : Value} {ps : List Pt} (h : Kept w B Ve Vs ps) (hb : Below w.heap.size w w') : Kept w' B Ve Vs ps := ⟨fun p hp => own_on (h.own p hp) hb, h.off⟩
theorem Kept.grow_s {w w' : World} {B g n c : Nat} {Ve Vs : Value} {ps : List Pt} (h : Kept w B Ve Vs ps) (hg : w.grownBy w' Vs.ownBlock) (hw : Vs.ownBlock = some g ∨ g = w.heap.size) : Kept w' B Ve (.slice (some ⟨g, 0, none⟩) n c) ps := by
  refine ⟨fun p hp => (h.own p hp).kept hg ((h.off p hp).imp id fun k => k.2), fun p hp => ?_⟩
  rcases h.off p hp with h1 | ⟨h1, h2⟩
  · exact .inl h1
  · refine .inr ⟨h1, fun e => ?_⟩
    rcases hw with h3 | h3
    · exact h2 (e.trans h3.symm)
    · have := ((h.own p hp).lt g e).2
      omega
theorem Kept.grow_e {w w' : World} {B g n c : Nat} {Ve Vs : Value} {ps : List Pt} (h : Kept w B Ve Vs ps) (hg : w.grownBy w' Ve.ownBlock) (hw : Ve.ownBlock = some g ∨ g = w.heap.size) : Kept w' B (.slice (some ⟨g, 0, none⟩) n c) Vs ps := by
  refine ⟨fun p hp => (h.own p hp).kept hg ((h.off p hp).imp id fun k => k.1), fun p hp => ?_⟩
  rcases h.off p hp with h1 | ⟨h1, h2⟩
  · exact .inl h1
  · refine .inr ⟨fun e => ?_, h2⟩
    rcases hw with h3 | h3
    · exact h1 (e.trans h3.symm)
    · have := ((h.own p hp).lt g e).2
      omega
/-- A new row lies apart. -/
theorem Kept.cons {w : World} {B M : Nat} {Ve Vs : Value} {ps : List Pt} {p : Pt} (h : Kept w B Ve Vs ps) (hp : w.ownsRow M 5 1 p.v p.n (cbs p.l)) (hB : B ≤ M) (he : ∀ k, Ve.ownBlock = some k → k < M) (hs : ∀ k, Vs.ownBlock = some k → k < M) : Kept w B Ve Vs (p :: ps) := by
  refine ⟨fun q hq => ?_, fun q hq => ?_⟩
  · rcases List.mem_cons.1 hq with rfl | hq
    · exact own_lower hp hB
    · exact h.own q hq
  · rcases List.mem_cons.1 hq with rfl | hq
    · cases hb : q.v.ownBlock with
      | none => exact .inl rfl
      | some k =>
        have := (hp.lt k hb).1
        exact .inr ⟨fun e => by have := he k e.symm; omega, fun e => by have := hs k e.symm; omega⟩
    · exact h.off q hq
theorem Kept.tail {w : World} {B : Nat} {Ve Vs : Value} {ps qs : List Pt} (h : Kept w B Ve Vs ps) (hs : ∀ q ∈ qs, q ∈ ps) : Kept w B Ve Vs qs := ⟨fun p hp => h.own p (hs p hp), fun p hp => h.off p (hs p hp)⟩
/-- The other row, when one grows. -/
def Apart (a b : Option Nat) : Prop := a = none ∨ b = none ∨ a ≠ b
theorem Apart.symm {a b : Option Nat} (h : Apart a b) : Apart b a := by
  rcases h with h | h | h
  · exact .inr (.inl h)
  · exact .inl h
  · exact .inr (.inr fun e => h e.symm)
theorem Apart.or {a b : Option Nat} (h : Apart a b) : a = none ∨ a ≠ b := by
  cases a with
  | none => exact .inl rfl
  | some k =>
    refine .inr ?_
    rcases h with h | h | h
    · cases h
    · rw [h]; simp
    · exact h
theorem off_grow {w w' : World} {B g n c : Nat} {e : TypeId} {size m : Nat} {Ve Vs : Value} {xs : List Value} (hE : w.ownsRow B e size Ve m xs) (ho : Apart Ve.ownBlock Vs.ownBlock) (hg : w.grownBy w' Vs.ownBlock) (hw : Vs.ownBlock = some g ∨ g = w.heap.size) :
    w'.ownsRow B e size Ve m xs ∧ Apart Ve.ownBlock (Value.slice (some ⟨g, 0, none⟩) n c).ownBlock := by
  refine ⟨hE.kept hg ho.or, ?_⟩
  rcases ho.or with h | h
  · exact .inl h
  · refine .inr (.inr fun e => ?_)
    rcases hw with h3 | h3
    · exact h (e.trans h3.symm)
    · have := (hE.lt g e).2
      omega
end Go.Proofs.YtlkcnpmgafckoaaDoor
