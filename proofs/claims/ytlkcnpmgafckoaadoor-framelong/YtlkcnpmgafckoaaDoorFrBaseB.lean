/-
  WORDS AND CONTRACTS of layers 3 and 4, of the reference too: texts of earlier rounds, laid together.
  No statement is proved here.
-/
import Derived.Test.YtlkcnpmgafckoaaDoorFrBaseA
import Derived.Laws.BitsLemmas
import Derived.Deep.LoopGhost
import Derived.Test.YtlkcnpmgafckoaaDoorRows
import Derived.ProofKit
import Derived.OpenShut
import Derived.ShutString
import Derived.ChangeOld
import Derived.Deep.Slices
import Derived.Lib.SmallJoins
import Derived.Deep.QuietTactic
import Derived.BigQuiet
import Derived.WalkSpells
import Derived.Laws.StructEq
import Derived.RegionTactic
import Derived.BigRegion
import Derived.StillTailTactics

/-! ## LawGets -/
namespace Go.Proofs.YtlkcnpmgafckoaaDoor
open Go.RowKit

theorem own_grown {w w' : World} {base k : Nat} {v : Value} {n : Nat} {xs : List Value} (h : w.ownsRow base 5 1 v n xs) (hg : w.grownBy w' (some k)) (hk : k < base) : w'.ownsRow base 5 1 v n xs := by
  obtain ⟨h1, h2⟩ := h
  refine ⟨h1, ?_⟩
  rcases h2 with h2 | ⟨g, cap, cur, hv, hg', hh, r⟩
  · exact Or.inl h2
  · exact Or.inr ⟨g, cap, cur, hv, hg', by rw [hg.block g (Array.getElem?_eq_some_iff.1 hh).1 (fun e => by injection e with e; omega)]; exact hh, r⟩
theorem below_grown {w0 w w' : World} {B k : Nat} (h : Below B w0 w) (hg : w.grownBy w' (some k)) (hk : B ≤ k) (hB : B ≤ w.heap.size) : Below B w0 w' :=
  ⟨hg.os.trans h.os, hg.tape.trans h.tape, hg.output.trans h.output, Nat.le_trans h.size hg.size, fun i hi => (hg.block i (by omega) (fun e => by injection e with e; omega)).trans (h.block i hi)⟩
theorem Sl.past {w w' : World} {B : Nat} {row : Option Nat} {A : Option Addr} {n c : Nat} {l : List UInt8} (h : Sl w B A n c l) (hg : w.grownBy w' row) (hB : B ≤ w.heap.size) (hr : ∀ k, row = some k → B ≤ k) : Sl w' B A n c l :=
  h.keep fun b o hb => World.cell?_of_block (a := ⟨b, o, none⟩) (hg.block b (by show b < _; omega) (fun e => by have := hr b e.symm; omega))
theorem ever_in {w : World} {g : Nat} {A : Option Addr} {n c er : Nat} {l : List UInt8} (h : InAt w g A n c er l) : Ever (fun w2 => InAt w2 g A n c er l) w := fun _ hb => h.below hb h.lt
theorem says_same {P : Program} {f : FuncId} {args : Array Value} {w : World} {v : Value} (h : Calls P f args w fun e w' => e = .returned v ∧ w = w') : Calls P f args w (Says w v) := h.mono fun _ _ ⟨he, hw⟩ => ⟨he, hw ▸ Below.refl _ _⟩

end Go.Proofs.YtlkcnpmgafckoaaDoor

/-! ## LawPuts -/
namespace Go.Proofs.YtlkcnpmgafckoaaDoor
open Go.RowKit

theorem clsB_nat {C : Int} {n : Nat} (h : rightB C n = true) : (clsB C).toNat = C.toNat ∧ (C.toNat : Int) = C ∧ C.toNat < 8 ∧ n ≤ 4096 := by
  unfold rightB at h
  simp at h
  refine ⟨?_, by omega, by omega, by omega⟩
  unfold clsB
  rw [UInt8.toNat_ofNat']
  omega
theorem stSpan_put {C : Int} {b t : List UInt8} (h : rightB C b.length = true) : stSpan (spanB C b ++ t) 0 = (C.toNat, b, t, 0) := by
  obtain ⟨h1, h2, h3, h4⟩ := clsB_nat h
  have hb : stByte (spanB C b ++ t) 0 = ((clsB C).toNat, byts b ++ t, 0) := by simp [stByte, spanB]
  rw [h1] at hb
  refine stSpan_ok hb ?_
  rw [show cls8 C.toNat 0 = 0 from by unfold cls8; rw [if_neg (by omega)]]
  exact stBytes_byts b t 4096 (by unfold two64; omega) (by omega)
theorem stItem_put {N : Nat} {C : Int} {b t : List UInt8} (hN : N < two64) (h : rightB C b.length = true) : stItem (itemB N C b ++ t) 0 = (N, C.toNat, b, t, 0) := by
  unfold itemB
  rw [List.append_assoc]
  exact stItem_ok (stNum_num N _ hN) (stSpan_put h)

theorem own_on {w w' : World} {base : Nat} {e : TypeId} {v : Value} {n : Nat} {xs : List Value} (h : w.ownsRow base e 1 v n xs) (hb : Below w.heap.size w w') : w'.ownsRow base e 1 v n xs := by
  refine ⟨h.1, ?_⟩
  rcases h.2 with hn | ⟨g, cap, cur, hv, hbg, hh, rest⟩
  · exact .inl hn
  · exact .inr ⟨g, cap, cur, hv, hbg, (hb.block g (Array.getElem?_eq_some_iff.1 hh).1).trans hh, rest⟩

end Go.Proofs.YtlkcnpmgafckoaaDoor

/-! ## SpanMath -/
namespace Go.Proofs.YtlkcnpmgafckoaaDoor

theorem num_high (n : Nat) : ∀ (i : Nat) (x : UInt8), (num n)[i]? = some x → i + 1 < (num n).length → 128 ≤ x.toNat := by
  induction n using Nat.strongRecOn with
  | ind n ih =>
    intro i x hx hi
    by_cases h : n < 128
    · rw [num_lo h] at hi
      simp at hi
    · rw [num_hi (by omega)] at hx hi
      rcases i with _ | i
      · rw [List.getElem?_cons_zero] at hx
        injection hx with hx
        subst hx
        rw [UInt8.toNat_ofNat']
        omega
      · simp at hx hi
        exact ih (n / 128) (by omega) i x hx hi
theorem rd_short {n m : Nat} (hn : n < two64) (hm : m < (num n).length) : rd ((num n).take m) = (0, 0, 2) := by
  have h10 := num_len10 n hn
  have hl : ((num n).take m).length = m := by rw [List.length_take]; omega
  refine rd_none (j := m) (by omega) hl.symm ?_
  intro i x hi hx
  rw [List.getElem?_take, if_pos (by omega)] at hx
  exact num_high n i x hx (by omega)
theorem stBytes_err {l : List UInt8} {er : Nat} {most : Int} (h : er ≠ 0) : stBytes l er most = ([], l, er) := by simp [stBytes, h]
theorem stByte_err {l : List UInt8} {er : Nat} (h : er ≠ 0) : stByte l er = (0, l, er) := by simp [stByte, h]
theorem stSpan_err {l : List UInt8} {er : Nat} (h : er ≠ 0) : stSpan l er = (0, [], l, er) :=
  stSpan_no (stByte_err h) (by rw [show cls8 0 er = er from by unfold cls8; rw [if_neg (by omega)]]; exact stBytes_err h) h
theorem take_app {l t : List UInt8} {m : Nat} (h : m ≤ l.length) : (l ++ t).take m = l.take m := by rw [List.take_append_of_le_length h]
theorem stBytes_short {b : List UInt8} {m : Nat} (hb : b.length ≤ 4096) (hm : m < (byts b).length) : stBytes ((byts b).take m) 0 4096 = ([], (byts b).take m, 2) := by
  unfold byts at *
  rw [List.length_append] at hm
  by_cases h : m < (num b.length).length
  · rw [take_app (by omega)]
    simp [stBytes, rd_short (show b.length < two64 by unfold two64; omega) h]
  · rw [List.take_append, List.take_of_length_le (by omega)]
    have hr := rd_num b.length (b.take (m - (num b.length).length)) (by unfold two64; omega)
    have hj : judgeN b.length 4096 (b.take (m - (num b.length).length)).length = 2 := by
      unfold judgeN
      rw [if_neg (by omega), if_pos (by rw [List.length_take]; omega)]
    have hlen : ((num b.length ++ b.take (m - (num b.length).length)).length - (num b.length).length) = (b.take (m - (num b.length).length)).length := by simp
    unfold stBytes
    rw [hr]
    simp only [if_true, hlen, hj]
    simp
theorem stSpan_short {C : Int} {b : List UInt8} {m : Nat} (h : rightB C b.length = true) (hm : m < (spanB C b).length) : ∃ l, stSpan ((spanB C b).take m) 0 = (0, [], l, 2) := by
  obtain ⟨h1, h2, h3, h4⟩ := clsB_nat h
  unfold spanB at *
  rcases m with _ | m
  · refine ⟨[], ?_⟩
    have hb : stByte ((clsB C :: byts b).take 0) 0 = (0, [], 2) := by simp [stByte]
    exact stSpan_no hb (by rw [show cls8 0 2 = 2 from rfl]; exact stBytes_err (by omega)) (by omega)
  · rw [List.length_cons] at hm
    have hb : stByte ((clsB C :: byts b).take (m + 1)) 0 = ((clsB C).toNat, (byts b).take m, 0) := by simp [stByte]
    rw [h1] at hb
    exact ⟨_, stSpan_no hb (by rw [show cls8 C.toNat 0 = 0 from by unfold cls8; rw [if_neg (by omega)]]; exact stBytes_short h4 (by omega)) (by omega)⟩
theorem stItem_short {N : Nat} {C : Int} {b : List UInt8} {m : Nat} (hN : N < two64) (h : rightB C b.length = true) (hm : m < (itemB N C b).length) : ∃ l, stItem ((itemB N C b).take m) 0 = (0, 0, [], l, 2) := by
  unfold itemB at *
  rw [List.length_append] at hm
  by_cases hc : m < (num N).length
  · rw [take_app (by omega)]
    have hs : stNum ((num N).take m) 0 = (0, (num N).take m, 2) := by simp [stNum, rd_short hN hc]
    exact ⟨_, stItem_no hs (stSpan_err (by omega)) (by omega)⟩
  · rw [List.take_append, List.take_of_length_le (by omega)]
    obtain ⟨l, hl⟩ := stSpan_short (m := m - (num N).length) h (by omega)
    exact ⟨l, stItem_no (stNum_num N _ hN) hl (by omega)⟩

/-- An item; what is read of many, one behind the other. -/
structure It where
  N : Nat
  C : Int
  b : List UInt8
def It.ok (x : It) : Prop := x.N < two64 ∧ rightB x.C x.b.length = true
def itB (x : It) : List UInt8 := itemB x.N x.C x.b
def itsB (xs : List It) : List UInt8 := xs.flatMap itB
theorem itsB_snoc {xs : List It} {j : Nat} {x : It} (h : xs[j]? = some x) : itsB (xs.take (j + 1)) = itsB (xs.take j) ++ itB x := by
  unfold itsB
  rw [List.take_add_one, h, List.flatMap_append]
  simp
theorem itsB_split (xs : List It) (j : Nat) : itsB xs = itsB (xs.take j) ++ itsB (xs.drop j) := by
  unfold itsB
  rw [← List.flatMap_append, List.take_append_drop]
theorem itsB_drop {xs : List It} {j : Nat} {x : It} (h : xs[j]? = some x) : itsB (xs.drop j) = itB x ++ itsB (xs.drop (j + 1)) := by
  obtain ⟨hl, rfl⟩ := List.getElem?_eq_some_iff.1 h
  unfold itsB
  rw [List.drop_eq_getElem_cons hl, List.flatMap_cons]
/-- What is left of all bytes but those behind k, once the first j items are read. -/
def leftB (xs : List It) (k j : Nat) : List UInt8 := ((itsB xs).take k).drop (itsB (xs.take j)).length
theorem leftB_eq (xs : List It) (k j : Nat) : leftB xs k j = (itsB (xs.drop j)).take (k - (itsB (xs.take j)).length) := by
  unfold leftB
  rw [List.drop_take]
  conv => lhs; rw [itsB_split xs j]
  rw [List.drop_left]
theorem leftB_ok {xs : List It} {k j : Nat} {x : It} (h : xs[j]? = some x) (hx : x.ok) (hk : (itsB (xs.take (j + 1))).length ≤ k) : stItem (leftB xs k j) 0 = (x.N, x.C.toNat, x.b, leftB xs k (j + 1), 0) := by
  rw [leftB_eq, leftB_eq, itsB_drop h]
  have hs := itsB_snoc h
  have hl : (itsB (xs.take (j + 1))).length = (itsB (xs.take j)).length + (itB x).length := by rw [hs, List.length_append]
  rw [List.take_append, List.take_of_length_le (by omega), show k - (itsB (xs.take j)).length - (itB x).length = k - (itsB (xs.take (j + 1))).length from by omega]
  exact stItem_put hx.1 hx.2
theorem leftB_short {xs : List It} {k j : Nat} {x : It} (h : xs[j]? = some x) (hx : x.ok) (hk : k < (itsB (xs.take (j + 1))).length) (hj : (itsB (xs.take j)).length ≤ k) : ∃ l, stItem (leftB xs k j) 0 = (0, 0, [], l, 2) := by
  rw [leftB_eq, itsB_drop h]
  have hs := itsB_snoc h
  have hl : (itsB (xs.take (j + 1))).length = (itsB (xs.take j)).length + (itB x).length := by rw [hs, List.length_append]
  rw [take_app (by omega)]
  exact stItem_short hx.1 hx.2 (by unfold itB at hl; omega)
theorem leftB_start (xs : List It) (k : Nat) : leftB xs k 0 = (itsB xs).take k := by simp [leftB, itsB]
theorem leftB_end {xs : List It} {k : Nat} {j : Nat} (hj : xs.length ≤ j) (hk : k ≤ (itsB xs).length) : leftB xs k j = [] := by
  unfold leftB
  rw [List.take_of_length_le hj]
  exact List.drop_eq_nil_of_le (by rw [List.length_take]; omega)
end Go.Proofs.YtlkcnpmgafckoaaDoor

/-! ## RowsKept -/
namespace Go.Proofs.YtlkcnpmgafckoaaDoor
open Go.RowKit

theorem and7 (n : Int) : bits .and .i64 n 7 = n % 8 := by
  have h7 : (BitVec.ofInt 64 7).toNat = 2 ^ 3 - 1 := by decide
  have key : (BitVec.ofInt 64 n &&& BitVec.ofInt 64 7).toNat = (n % ((2 ^ 64 : Nat) : Int)).toNat % 2 ^ 3 := by
    rw [BitVec.toNat_and, BitVec.toNat_ofInt, h7, Nat.and_two_pow_sub_one_eq_mod]
  show IntKind.i64.wrap ((BitVec.ofInt 64 n &&& BitVec.ofInt 64 7).toNat : Nat) = n % 8
  rw [key, IntKind.wrap_i64]
  omega

/-- An item as it came; as it is kept. -/
structure Ik where
  N : Nat
  C : Int
  q : Pt
def Ik.v (k : Ik) : List Value := [.int .u64 (k.N : Int), .int .i64 k.C, k.q.v]
def Ik.it (k : Ik) : It := ⟨k.N, k.C, k.q.l⟩
structure Itms (w : World) (B : Nat) (A : Option Addr) (n c : Nat) (ks : List Ik) : Prop where
  len : ks.length = n
  le : n ≤ c
  max : c ≤ maxLen
  cell : 0 < n → ∃ b o, A = some ⟨b, o, none⟩ ∧ b < B ∧ ∀ (j : Nat) (k : Ik), ks[j]? = some k → w.cell? ⟨b, o + j * 3, none⟩ = some (.int .u64 (k.N : Int)) ∧ w.cell? ⟨b, o + j * 3 + 1, none⟩ = some (.int .i64 k.C) ∧ w.cell? ⟨b, o + j * 3 + 2, none⟩ = some k.q.v
  sl : ∀ k ∈ ks, Sl w B k.q.A k.q.n k.q.c k.q.l ∧ k.N < two64
theorem Itms.at_ {w : World} {B : Nat} {A : Option Addr} {n c j : Nat} {ks : List Ik} (h : Itms w B A n c ks) (hj : j < n) : ∃ b o k, A = some ⟨b, o, none⟩ ∧ b < B ∧ ks[j]? = some k ∧ w.cell? ⟨b, o + j * 3, none⟩ = some (.int .u64 (k.N : Int)) ∧ w.cell? ⟨b, o + j * 3 + 1, none⟩ = some (.int .i64 k.C) ∧
    w.cell? ⟨b, o + j * 3 + 2, none⟩ = some (.slice k.q.A k.q.n k.q.c) ∧ Sl w B k.q.A k.q.n k.q.c k.q.l ∧ k.N < two64 := by
  obtain ⟨b, o, e, hb, hc⟩ := h.cell (by omega)
  have hl : j < ks.length := by have := h.len; omega
  have hk := List.getElem?_eq_getElem hl
  obtain ⟨h1, h2, h3⟩ := hc j _ hk
  obtain ⟨h4, h5⟩ := h.sl _ (List.getElem_mem hl)
  exact ⟨b, o, ks[j], e, hb, hk, h1, h2, h3, h4, h5⟩

/-- What becomes of an item. -/
def cutI (k : Ik) : It := ⟨k.N, k.C % 8, k.q.l.take 40⟩
theorem cutI_ok {k : Ik} (h : k.N < two64) : (cutI k).ok := by
  refine ⟨h, ?_⟩
  unfold rightB cutI
  simp
  omega
theorem itemB_len {N : Nat} {C : Int} {b : List UInt8} (hN : N < two64) (hb : b.length ≤ 40) : (itemB N C b).length ≤ 61 := by
  unfold itemB
  rw [List.length_append]
  have := num_len10 N hN
  have := spanB_len C b (by omega)
  omega

/-- Where each item ends. -/
def endsV (xs : List It) : List Value := (List.range xs.length).map fun i => .int .i64 ((itsB (xs.take (i + 1))).length : Int)
theorem endsV_len (xs : List It) : (endsV xs).length = xs.length := by simp [endsV]
theorem endsV_at {xs : List It} {i : Nat} (h : i < xs.length) : (endsV xs)[i]? = some (.int .i64 ((itsB (xs.take (i + 1))).length : Int)) := by
  unfold endsV
  rw [List.getElem?_map, List.getElem?_range h]
  rfl
theorem endsV_snoc (xs : List It) (x : It) : endsV (xs ++ [x]) = endsV xs ++ [.int .i64 ((itsB (xs ++ [x])).length : Int)] := by
  unfold endsV
  rw [List.length_append, List.length_singleton, List.range_succ, List.map_append, List.map_singleton]
  congr 1
  · refine List.map_congr_left fun i hi => ?_
    rw [List.mem_range] at hi
    rw [List.take_append_of_le_length (by omega)]
  · rw [List.take_of_length_le (by simp)]
theorem endsV_one (xs : List It) : ∀ u ∈ endsV xs, u.oneCell' = true := by
  intro u hu
  obtain ⟨i, _, rfl⟩ := List.mem_map.1 hu
  rfl

structure Kept (w : World) (B : Nat) (Ve Vs : Value) (ps : List Pt) : Prop where
  own : ∀ p ∈ ps, w.ownsRow B 5 1 p.v p.n (cbs p.l)
  off : ∀ p ∈ ps, p.v.ownBlock = none ∨ (p.v.ownBlock ≠ Ve.ownBlock ∧ p.v.ownBlock ≠ Vs.ownBlock)
theorem Kept.on {w w' : World} {B : Nat} {Ve Vs : Value} {ps : List Pt} (h : Kept w B Ve Vs ps) (hb : Below w.heap.size w w') : Kept w' B Ve Vs ps := ⟨fun p hp => own_on (h.own p hp) hb, h.off⟩
theorem Kept.grow_s {w w' : World} {B g n c : Nat} {Ve Vs : Value} {ps : List Pt} (h : Kept w B Ve Vs ps) (hg : w.grownBy w' Vs.ownBlock) (hw : Vs.ownBlock = some g ∨ g = w.heap.size) : Kept w' B Ve (.slice (some ⟨g, 0, none⟩) n c) ps := by
  refine ⟨fun p hp => (h.own p hp).kept hg ((h.off p hp).imp id fun k => k.2), fun p hp => ?_⟩
  rcases h.off p hp with h1 | ⟨h1, h2⟩
  · exact .inl h1
  · refine .inr ⟨h1, fun e => ?_⟩
    rcases hw with h3 | h3
    · exact h2 (e.trans h3.symm)
    · have := ((h.own p hp).lt g e).2
      omega
theorem Kept.grow_e {w w' : World} {B g n c : Nat} {Ve Vs : Value} {ps : List Pt} (h : Kept w B Ve Vs ps) (hg : w.grownBy w' Ve.ownBlock) (hw : Ve.ownBlock = some g ∨ g = w.heap.size) : Kept w' B (.slice (some ⟨g, 0, none⟩) n c) Vs ps := by
  refine ⟨fun p hp => (h.own p hp).kept hg ((h.off p hp).imp id fun k => k.1), fun p hp => ?_⟩
  rcases h.off p hp with h1 | ⟨h1, h2⟩
  · exact .inl h1
  · refine .inr ⟨fun e => ?_, h2⟩
    rcases hw with h3 | h3
    · exact h1 (e.trans h3.symm)
    · have := ((h.own p hp).lt g e).2
      omega
/-- A new row lies apart. -/
theorem Kept.cons {w : World} {B M : Nat} {Ve Vs : Value} {ps : List Pt} {p : Pt} (h : Kept w B Ve Vs ps) (hp : w.ownsRow M 5 1 p.v p.n (cbs p.l)) (hB : B ≤ M) (he : ∀ k, Ve.ownBlock = some k → k < M) (hs : ∀ k, Vs.ownBlock = some k → k < M) : Kept w B Ve Vs (p :: ps) := by
  refine ⟨fun q hq => ?_, fun q hq => ?_⟩
  · rcases List.mem_cons.1 hq with rfl | hq
    · exact own_lower hp hB
    · exact h.own q hq
  · rcases List.mem_cons.1 hq with rfl | hq
    · cases hb : q.v.ownBlock with
      | none => exact .inl rfl
      | some k =>
        have := (hp.lt k hb).1
        exact .inr ⟨fun e => by have := he k e.symm; omega, fun e => by have := hs k e.symm; omega⟩
    · exact h.off q hq
theorem Kept.tail {w : World} {B : Nat} {Ve Vs : Value} {ps qs : List Pt} (h : Kept w B Ve Vs ps) (hs : ∀ q ∈ qs, q ∈ ps) : Kept w B Ve Vs qs := ⟨fun p hp => h.own p (hs p hp), fun p hp => h.off p (hs p hp)⟩
/-- The other row, when one grows. -/
def Apart (a b : Option Nat) : Prop := a = none ∨ b = none ∨ a ≠ b
theorem Apart.symm {a b : Option Nat} (h : Apart a b) : Apart b a := by
  rcases h with h | h | h
  · exact .inr (.inl h)
  · exact .inl h
  · exact .inr (.inr fun e => h e.symm)
theorem Apart.or {a b : Option Nat} (h : Apart a b) : a = none ∨ a ≠ b := by
  cases a with
  | none => exact .inl rfl
  | some k =>
    refine .inr ?_
    rcases h with h | h | h
    · cases h
    · rw [h]; simp
    · exact h
theorem off_grow {w w' : World} {B g n c : Nat} {e : TypeId} {size m : Nat} {Ve Vs : Value} {xs : List Value} (hE : w.ownsRow B e size Ve m xs) (ho : Apart Ve.ownBlock Vs.ownBlock) (hg : w.grownBy w' Vs.ownBlock) (hw : Vs.ownBlock = some g ∨ g = w.heap.size) :
    w'.ownsRow B e size Ve m xs ∧ Apart Ve.ownBlock (Value.slice (some ⟨g, 0, none⟩) n c).ownBlock := by
  refine ⟨hE.kept hg ho.or, ?_⟩
  rcases ho.or with h | h
  · exact .inl h
  · refine .inr (.inr fun e => ?_)
    rcases hw with h3 | h3
    · exact h (e.trans h3.symm)
    · have := (hE.lt g e).2
      omega
end Go.Proofs.YtlkcnpmgafckoaaDoor

/-! ## LawSRows -/
namespace Go.Proofs.YtlkcnpmgafckoaaDoor
open Go.RowKit

theorem item_info : (Tryd.prog.info? 58).map (fun i => (i.zero, i.size, i.bytes)) = some (some (.agg #[.int .u64 0, .int .i64 0, .slice none 0 0]), 3, 40) := by kernel_rfl
theorem int_info : (Tryd.prog.info? 3).map (fun i => (i.zero, i.size, i.bytes)) = some (some (.int .i64 0), 1, 8) := by kernel_rfl

def putI (rs : List Ik) : List Value := rs.flatMap Ik.v
def RowsRel (wz : World) (ks : List Ik) (n gk : Nat) (p ends some_ i : Value) (wr : World) : Prop :=
  ∃ (j : Nat) (Ap : Option Addr) (np cp : Nat) (rs : List Ik), gk + j = n ∧ j ≤ 10 ∧ i = .int .i64 (j : Int) ∧ p = .slice Ap np cp ∧ rs.length = j ∧ rs.map Ik.it = (ks.take j).map cutI ∧
    wr.ownsRow wz.heap.size 5 1 (.slice Ap np cp) np (cbs (itsB (rs.map Ik.it))) ∧ wr.ownsRow wz.heap.size 3 1 ends j (endsV (rs.map Ik.it)) ∧ wr.ownsRow wz.heap.size 58 3 some_ j (putI rs) ∧
    Kept wr wz.heap.size ends some_ (rs.map Ik.q) ∧ Apart ends.ownBlock some_.ownBlock ∧ Below wz.heap.size wz wr

theorem item_one (N : Int) (C : Int) (A : Option Addr) (n c : Nat) : ∀ u ∈ [Value.int .u64 N, .int .i64 C, .slice A n c], u.oneCell' = true := by
  intro u hu
  simp only [List.mem_cons, List.not_mem_nil, or_false] at hu
  rcases hu with rfl | rfl | rfl <;> rfl
theorem itsB_len (ks : List Ik) (j : Nat) (h : ∀ k ∈ ks, k.N < two64) : (itsB ((ks.take j).map cutI)).length ≤ 61 * j := by
  induction j with
  | zero => simp [itsB]
  | succ j ih =>
    by_cases hj : j < ks.length
    · have hk : ks[j]? = some ks[j] := List.getElem?_eq_getElem hj
      have h1 : ((ks.map cutI))[j]? = some (cutI ks[j]) := by rw [List.getElem?_map, hk]; rfl
      rw [List.map_take] at ih ⊢
      rw [itsB_snoc h1, List.length_append]
      have := itemB_len (C := ks[j].C % 8) (b := ks[j].q.l.take 40) (h _ (List.getElem_mem hj)) (by rw [List.length_take]; omega)
      have e : itB (cutI ks[j]) = itemB ks[j].N (ks[j].C % 8) (ks[j].q.l.take 40) := rfl
      rw [e]
      omega
    · rw [List.take_of_length_le (by omega)]
      rw [List.take_of_length_le (by omega)] at ih
      omega
theorem own_onN {w w' : World} {base : Nat} {e : TypeId} {size : Nat} {v : Value} {n : Nat} {xs : List Value} (h : w.ownsRow base e size v n xs) (hb : Below w.heap.size w w') : w'.ownsRow base e size v n xs :=
  h.kept (only_below hb none) (by cases v.ownBlock <;> simp)

theorem own_form {w : World} {base : Nat} {e : TypeId} {size : Nat} {v : Value} {n : Nat} {xs : List Value} (h : w.ownsRow base e size v n xs) : ∃ A c, v = .slice A n c := by
  rcases h.2 with ⟨rfl, rfl⟩ | ⟨g, cap, cur, rfl, _⟩
  · exact ⟨none, 0, rfl⟩
  · exact ⟨_, cap, rfl⟩
theorem below_row {w0 w w' : World} {B : Nat} {row : Option Nat} (h : Below B w0 w) (hg : w.grownBy w' row) (hk : ∀ k, row = some k → B ≤ k) (hB : B ≤ w.heap.size) : Below B w0 w' :=
  ⟨hg.os.trans h.os, hg.tape.trans h.tape, hg.output.trans h.output, Nat.le_trans h.size hg.size, fun i hi => (hg.block i (by omega) (fun e => by have := hk i e.symm; omega)).trans (h.block i hi)⟩

/-- What stays of the rows once all items are written. -/
def RowsEv (w : World) (As Ae : Option Addr) (rs : List Ik) (w' : World) : Prop :=
  (∀ i r, rs[i]? = some r → (∃ gs, As = some ⟨gs, 0, none⟩ ∧ w'.cell? ⟨gs, i * 3, none⟩ = some (.int .u64 (r.N : Int)) ∧ w'.cell? ⟨gs, i * 3 + 1, none⟩ = some (.int .i64 r.C) ∧ w'.cell? ⟨gs, i * 3 + 2, none⟩ = some (.slice r.q.A r.q.n r.q.c)) ∧
    (∃ ge, Ae = some ⟨ge, 0, none⟩ ∧ w'.cell? ⟨ge, i, none⟩ = some (.int .i64 ((itsB ((rs.map Ik.it).take (i + 1))).length : Int))) ∧ Sl w' w'.heap.size r.q.A r.q.n r.q.c r.q.l) ∧ Below w.heap.size w w'
theorem putI_at {rs : List Ik} {i : Nat} {r : Ik} (h : rs[i]? = some r) (t : Nat) (ht : t < 3) : (putI rs)[i * 3 + t]? = r.v[t]? := by
  induction rs generalizing i with
  | nil => simp at h
  | cons a rs ih =>
    have hl : a.v.length = 3 := rfl
    unfold putI
    rw [List.flatMap_cons]
    rcases i with _ | i
    · simp at h
      subst h
      rw [List.getElem?_append_left (by omega)]
      simp
    · rw [List.getElem?_append_right (by omega), show (i + 1) * 3 + t - a.v.length = i * 3 + t from by omega]
      exact ih (by simpa using h)
theorem rows_ever {w wz wr : World} {A0 : Option Addr} {n0 c0 j cs ce : Nat} {ks rs : List Ik} {As Ae : Option Addr} (_ : Itms w w.heap.size A0 n0 c0 ks) (hbz : Below w.heap.size w wz) (hrl : rs.length = j) (_ : rs.map Ik.it = (ks.take j).map cutI)
    (hE : wr.ownsRow wz.heap.size 3 1 (.slice Ae j ce) j (endsV (rs.map Ik.it))) (hS : wr.ownsRow wz.heap.size 58 3 (.slice As j cs) j (putI rs)) (hK : Kept wr wz.heap.size (.slice Ae j ce) (.slice As j cs) (rs.map Ik.q)) (hbel : Below wz.heap.size wz wr) :
    Ever (RowsEv w As Ae rs) wr := by
  intro w' hw
  refine ⟨fun i r hr => ?_, (hbz.trans (hbel.mono hbz.size)).trans (hw.mono (Nat.le_trans hbz.size hbel.size))⟩
  have hij : i < j := by have := (List.getElem?_eq_some_iff.1 hr).1; omega
  refine ⟨?_, ?_, ?_⟩
  · obtain ⟨gs, cap, hv, _, _⟩ := hS.form (by omega)
    injection hv with hv _ _
    subst hv
    have hc := hS.cells (g := gs) rfl
    have h0 := hc (i * 3 + 0) _ (by rw [putI_at hr 0 (by omega)]; rfl)
    have h1 := hc (i * 3 + 1) _ (by rw [putI_at hr 1 (by omega)]; rfl)
    have h2 := hc (i * 3 + 2) _ (by rw [putI_at hr 2 (by omega)]; rfl)
    rw [add_plain, Nat.zero_add] at h0 h1 h2
    exact ⟨gs, rfl, ever_cell h0 _ hw, ever_cell h1 _ hw, ever_cell h2 _ hw⟩
  · obtain ⟨ge, cap, hv, _, _⟩ := hE.form (by omega)
    injection hv with hv _ _
    subst hv
    have h0 := hE.cells (g := ge) rfl i _ (endsV_at (by rw [List.length_map]; omega))
    rw [add_plain, Nat.zero_add] at h0
    exact ⟨ge, rfl, ever_cell h0 _ hw⟩
  · exact ever_sl (Sl.of_own (hK.own r.q (List.mem_map.2 ⟨r, List.mem_of_getElem? hr, rfl⟩))) _ hw
theorem rows_ok {w : World} {A0 : Option Addr} {n0 c0 j i : Nat} {ks rs : List Ik} {r : Ik} (h0 : Itms w w.heap.size A0 n0 c0 ks) (hrk : rs.map Ik.it = (ks.take j).map cutI) (hr : rs[i]? = some r) : r.it.ok := by
  have h1 : (rs.map Ik.it)[i]? = some r.it := by rw [List.getElem?_map, hr]; rfl
  rw [hrk, List.getElem?_map] at h1
  obtain ⟨k, hk, he⟩ := Option.map_eq_some_iff.1 h1
  rw [← he]
  exact cutI_ok (h0.sl k (List.mem_of_mem_take (List.mem_of_getElem? hk))).2
def BackRel (wq : World) (gi : Nat) (xs : List It) (m j gk : Nat) (i : Value) (wr : World) : Prop :=
  ∃ (i2 : Nat) (A : Option Addr) (n c : Nat), gk + i2 = j ∧ i = .int .i64 (i2 : Int) ∧ InAt wr gi A n c 0 (leftB xs m i2) ∧ (itsB (xs.take i2)).length ≤ m ∧ Below wq.heap.size wq wr

end Go.Proofs.YtlkcnpmgafckoaaDoor

/-! ## CameBase -/
namespace Go.Proofs.YtlkcnpmgafckoaaDoor
open Go.ChangeShapes Go.WideShapes Go.ChangeAt Go.RowKit

theorem ownK : ownKnob Tryd.prog.godebug = none := by kernel_rfl
theorem laidOut : laidOutB Tryd.prog = true := by kernel_rfl
end Go.Proofs.YtlkcnpmgafckoaaDoor

/-! ## Came -/
namespace Go.Proofs.YtlkcnpmgafckoaaDoor
open Go.ChangeShapes Go.WideShapes Go.ChangeAt Go.RowKit

theorem cellsBytes : Tryd.prog.cellsOf 37 = 1 := by kernel_rfl
set_option maxRecDepth 100000 in
theorem read_bytes {H : Type} {enc : TypeId × Value → H} {W : World} {fuel : Nat} {v : Value} {x : DataW H × List MemPlace}
    (hf : DataW.trod enc Tryd.prog W 0 (fun _ => true) true fuel 37 [v] = some x) : ∃ A n c l, v = .slice A n c ∧ Sl W W.heap.size A n c l := by
  rcases open_ints Tryd.underlying37 Tryd.underlying5 (by kernel_rfl) hf with ⟨hcs, _⟩ | ⟨x, l, c', zs, hcs, _, hl, hm, hz, _, hcell, hwz⟩
  · injection hcs with hcs
    subst hcs
    exact ⟨none, 0, 0, [], rfl, Sl.nil_ _ _ _ _ (Nat.zero_le _)⟩
  · injection hcs with hcs
    subst hcs
    obtain ⟨bs, hs⟩ := sl_of_row (w := W) (zs := zs) (.inr ⟨x, rfl, hl, hm, by simpa using hz, hcell, hwz⟩)
    exact ⟨_, _, _, bs, rfl, hs⟩
set_option maxRecDepth 100000 in
theorem came_bytes {H : Type} {enc : TypeId × Value → H} {W : World} {base : Nat} {v : Value} {d : DataW H} {p : List MemPlace}
    (hv : Value.okWide Tryd.prog W .any base 37 v) (h : DataW.Trod enc Tryd.prog W 0 (fun _ => true) true 37 v d p) :
    ∃ A n c l, v = .slice A n c ∧ Sl W W.heap.size A n c l := by
  obtain ⟨A, n, c, rfl⟩ := okWide_slice Tryd.underlying37 hv
  obtain ⟨fuel, hf⟩ := h
  exact read_bytes (by simpa [Value.cells] using hf)
set_option maxRecDepth 100000 in
theorem came_span {H : Type} {enc : TypeId × Value → H} {W : World} {base : Nat} {v : Value} {d : DataW H} {p : List MemPlace}
    (hv : Value.okWide Tryd.prog W .any base 56 v) (h : DataW.Trod enc Tryd.prog W 0 (fun _ => true) true 56 v d p) :
    ∃ C A n c l, v = spv C A n c ∧ Sl W W.heap.size A n c l ∧ (-9223372036854775808 ≤ C ∧ C ≤ 9223372036854775807) := by
  obtain ⟨c0, c1, y0, y1, m, rfl, -, -, hy0, hy1⟩ := Joins.open_agg2 Tryd.underlying56 (by kernel_rfl) (by kernel_rfl) hv h
  obtain ⟨C, hC, -, hw⟩ := DataW.trod_int Tryd.underlying3 hy0
  obtain ⟨A, n, c, l, rfl, hs⟩ := read_bytes hy1
  injection hC with hC
  subst hC
  exact ⟨C, A, n, c, l, rfl, hs, bounds_i64 hw⟩
end Go.Proofs.YtlkcnpmgafckoaaDoor

/-! ## CameItems -/
namespace Go.Proofs.YtlkcnpmgafckoaaDoor
open Go.ChangeShapes Go.WideShapes Go.ChangeAt Go.RowKit

theorem cellsItem : Tryd.prog.cellsOf 58 = 3 := by kernel_rfl
theorem cellsSpan : Tryd.prog.cellsOf 56 = 2 := by kernel_rfl
theorem cellsU64 : Tryd.prog.cellsOf 22 = 1 := by kernel_rfl
theorem cellsInt : Tryd.prog.cellsOf 3 = 1 := by kernel_rfl
theorem list3 {l : List Value} (h : l.length = 3) : ∃ a b c, l = [a, b, c] := by
  rcases l with _ | ⟨a, _ | ⟨b, _ | ⟨c, _ | ⟨d, t⟩⟩⟩⟩
  all_goals simp at h
  exact ⟨a, b, c, rfl⟩
set_option maxRecDepth 100000 in
theorem read_item {H : Type} {enc : TypeId × Value → H} {W : World} {fuel : Nat} {v0 v1 v2 : Value} {x : DataW H × List MemPlace}
    (hf : DataW.trod enc Tryd.prog W 0 (fun _ => true) true fuel 58 [v0, v1, v2] = some x) :
    ∃ k : Ik, v0 = .int .u64 (k.N : Int) ∧ v1 = .int .i64 k.C ∧ v2 = k.q.v ∧ Sl W W.heap.size k.q.A k.q.n k.q.c k.q.l ∧ k.N < two64 := by
  obtain ⟨y0, y1, n, -, -, h0, h1⟩ := trod_struct2 Tryd.underlying58 hf
  simp only [cellsU64, cellsSpan, List.drop_zero, List.drop_succ_cons, List.take_succ_cons, List.take_zero] at h0 h1
  obtain ⟨N, hN, -, hw⟩ := DataW.trod_int Tryd.underlying22 h0
  obtain ⟨z0, z1, n', -, -, k0, k1⟩ := trod_struct2 Tryd.underlying56 h1
  simp only [cellsInt, cellsBytes, List.drop_zero, List.drop_succ_cons, List.take_succ_cons, List.take_zero] at k0 k1
  obtain ⟨C, hC, -, -⟩ := DataW.trod_int Tryd.underlying3 k0
  obtain ⟨A, m, c, l, rfl, hs⟩ := read_bytes k1
  injection hN with hN
  injection hC with hC
  subst hN hC
  have hb := bounds_u64 hw
  refine ⟨⟨N.toNat, C, ⟨A, m, c, l⟩⟩, ?_, rfl, rfl, hs, ?_⟩
  · rw [Int.toNat_of_nonneg hb.1]
  · show N.toNat < two64
    unfold two64
    omega
set_option maxRecDepth 100000 in
theorem read_items {H : Type} {enc : TypeId × Value → H} {W : World} {fuel : Nat} {v : Value} {x : DataW H × List MemPlace}
    (hf : DataW.trod enc Tryd.prog W 0 (fun _ => true) true fuel 24 [v] = some x) :
    ∃ A n c, v = .slice A n c ∧ ∃ ks, Itms W W.heap.size A n c ks := by
  obtain ⟨A, n, c, rfl⟩ : ∃ A n c, v = .slice A n c := by
    rcases Deep.open_slice Tryd.underlying24 hf with ⟨hcs, _⟩ | ⟨a, len, cap, m, n', D, Pl, hcs, _⟩
    · injection hcs with hcs
      exact ⟨_, _, _, hcs⟩
    · injection hcs with hcs
      exact ⟨_, _, _, hcs⟩
  refine ⟨A, n, c, rfl, ?_⟩
  rcases Deep.open_slice Tryd.underlying24 hf with ⟨hcs, _⟩ | ⟨a, len, cap, m, n', D, Pl, hcs, _, hl, hm, hmm, _, hx⟩
  · simp at hcs
    obtain ⟨rfl, rfl, rfl⟩ := hcs
    exact ⟨[], rfl, Nat.le_refl _, Nat.zero_le _, fun h => absurd h (Nat.lt_irrefl _), fun k hk => absurd hk List.not_mem_nil⟩
  · simp at hcs
    obtain ⟨rfl, rfl, rfl⟩ := hcs
    have hlm : n ≤ m := by rw [hmm]; simp; exact hl
    rw [cellsItem] at hx
    have one : ∀ i, i < n → ∃ k : Ik, W.cell? (a.add (i * 3)) = some (.int .u64 (k.N : Int)) ∧ W.cell? (a.add (i * 3 + 1)) = some (.int .i64 k.C) ∧ W.cell? (a.add (i * 3 + 2)) = some k.q.v ∧ Sl W W.heap.size k.q.A k.q.n k.q.c k.q.l ∧ k.N < two64 := fun i hi => by
      obtain ⟨cs', h1, h2⟩ := hx i (by omega)
      obtain ⟨_, hlen, hcell⟩ := World.cells?_some h1
      obtain ⟨v0, v1, v2, rfl⟩ := list3 hlen
      obtain ⟨k, rfl, rfl, rfl, hs, hN⟩ := read_item h2
      have e0 := hcell 0 (by omega)
      have e1 := hcell 1 (by omega)
      have e2 := hcell 2 (by omega)
      rw [Deep.add_add] at e0 e1 e2
      exact ⟨k, by simpa using e0, by simpa using e1, by simpa using e2, hs, hN⟩
    have hin : Inhabited Ik := ⟨⟨0, 0, ⟨none, 0, 0, []⟩⟩⟩
    obtain ⟨Q, hQ⟩ := Deep.choose_lt (p := fun i (k : Ik) => W.cell? (a.add (i * 3)) = some (.int .u64 (k.N : Int)) ∧ W.cell? (a.add (i * 3 + 1)) = some (.int .i64 k.C) ∧ W.cell? (a.add (i * 3 + 2)) = some k.q.v ∧ Sl W W.heap.size k.q.A k.q.n k.q.c k.q.l ∧ k.N < two64) one
    refine ⟨(List.range n).map Q, by simp, hl, hm, fun hn => ?_, fun q hq => ?_⟩
    · have h0 := (hQ 0 hn).1
      obtain ⟨b, o, spot⟩ := a
      have hspot : spot = none := by simpa [Addr.add] using World.cell?_spot h0
      subst hspot
      have hb := World.block_lt_of_cell? W _ h0
      refine ⟨b, o, rfl, by simpa [Addr.add] using hb, fun j q hj => ?_⟩
      rw [List.getElem?_map] at hj
      obtain ⟨i, hi, rfl⟩ := Option.map_eq_some_iff.1 hj
      obtain ⟨hlt, hii⟩ := List.getElem?_eq_some_iff.1 hi
      simp at hlt hii
      subst hii
      obtain ⟨h1, h2, h3, -⟩ := hQ j hlt
      rw [Go.Proofs.YtlkcnpmgafckoaaDoor.add_plain] at h1 h2 h3
      exact ⟨h1, by rw [Nat.add_assoc]; exact h2, by rw [Nat.add_assoc]; exact h3⟩
    · obtain ⟨i, hi, rfl⟩ := List.mem_map.1 hq
      exact (hQ i (by simpa using hi)).2.2.2
set_option maxRecDepth 100000 in
theorem came_items {H : Type} {enc : TypeId × Value → H} {W : World} {base : Nat} {v : Value} {d : DataW H} {p : List MemPlace}
    (hv : Value.okWide Tryd.prog W .any base 24 v) (h : DataW.Trod enc Tryd.prog W 0 (fun _ => true) true 24 v d p) :
    ∃ A n c, v = .slice A n c ∧ ∃ ks, Itms W W.heap.size A n c ks := by
  obtain ⟨A, n, c, rfl⟩ := okWide_slice Tryd.underlying24 hv
  obtain ⟨fuel, hf⟩ := h
  obtain ⟨A', n', c', e, hr⟩ := read_items (v := .slice A n c) (by simpa [Value.cells] using hf)
  exact ⟨A', n', c', e, hr⟩
end Go.Proofs.YtlkcnpmgafckoaaDoor

/-! ## RunsMath -/
namespace Go.Proofs.YtlkcnpmgafckoaaDoor

abbrev Rn := Nat × Nat
def memR (L : List Rn) (x : Nat) : Prop := ∃ r ∈ L, r.1 ≤ x ∧ x ≤ r.2
structure Canon (L : List Rn) : Prop where
  far : L.Pairwise fun a b => a.2 + 1 < b.1
  ok : ∀ r ∈ L, r.1 ≤ r.2

theorem memR_nil (x : Nat) : ¬ memR [] x := fun ⟨_, h, _⟩ => by cases h
theorem memR_cons {a : Rn} {L : List Rn} {x : Nat} : memR (a :: L) x ↔ (a.1 ≤ x ∧ x ≤ a.2) ∨ memR L x := by
  constructor
  · rintro ⟨r, hr, h⟩
    rcases List.mem_cons.1 hr with rfl | hr
    · exact .inl h
    · exact .inr ⟨r, hr, h⟩
  · rintro (h | ⟨r, hr, h⟩)
    · exact ⟨a, List.mem_cons_self, h⟩
    · exact ⟨r, List.mem_cons_of_mem _ hr, h⟩
theorem memR_app {L M : List Rn} {x : Nat} : memR (L ++ M) x ↔ memR L x ∨ memR M x := by
  induction L with
  | nil => simp [memR_nil]
  | cons a L ih => rw [List.cons_append, memR_cons, memR_cons, ih, or_assoc]
theorem memR_one {a : Rn} {x : Nat} : memR [a] x ↔ a.1 ≤ x ∧ x ≤ a.2 := by rw [memR_cons]; simp [memR_nil]

theorem Canon.nil : Canon [] := ⟨List.Pairwise.nil, fun r hr => by cases hr⟩
theorem Canon.one {a : Rn} (h : a.1 ≤ a.2) : Canon [a] := ⟨List.pairwise_singleton _ _, fun r hr => by rw [List.mem_singleton] at hr; subst hr; exact h⟩
theorem Canon.tail {a : Rn} {L : List Rn} (h : Canon (a :: L)) : Canon L := ⟨(List.pairwise_cons.1 h.far).2, fun r hr => h.ok r (List.mem_cons_of_mem _ hr)⟩
theorem Canon.above {a : Rn} {L : List Rn} (h : Canon (a :: L)) {x : Nat} (hx : memR L x) : a.2 + 1 < x := by
  obtain ⟨r, hr, h1, _⟩ := hx
  have := (List.pairwise_cons.1 h.far).1 r hr
  omega
theorem Canon.least {a : Rn} {L : List Rn} (h : Canon (a :: L)) {x : Nat} (hx : memR (a :: L) x) : a.1 ≤ x := by
  rcases memR_cons.1 hx with h1 | h1
  · exact h1.1
  · have := h.above h1
    have := h.ok a List.mem_cons_self
    omega
theorem Canon.head {a : Rn} {L : List Rn} (h : Canon (a :: L)) : memR (a :: L) a.1 := memR_cons.2 (.inl ⟨Nat.le_refl _, h.ok a List.mem_cons_self⟩)
theorem Canon.tail_iff {a : Rn} {L : List Rn} (h : Canon (a :: L)) {x : Nat} : memR L x ↔ memR (a :: L) x ∧ a.2 < x := by
  constructor
  · intro hx
    exact ⟨memR_cons.2 (.inr hx), by have := h.above hx; omega⟩
  · rintro ⟨hx, h2⟩
    rcases memR_cons.1 hx with h1 | h1
    · omega
    · exact h1

/-- LISTS OF RUNS ARE TOLD APART BY WHAT IS IN THEM. -/
theorem canon_ext : ∀ (L M : List Rn), Canon L → Canon M → (∀ x, memR L x ↔ memR M x) → L = M
  | [], [], _, _, _ => rfl
  | [], b :: M, _, hM, h => absurd ((h b.1).2 hM.head) (memR_nil _)
  | a :: L, [], hL, _, h => absurd ((h a.1).1 hL.head) (memR_nil _)
  | a :: L, b :: M, hL, hM, h => by
    have h1 : a.1 = b.1 := Nat.le_antisymm (hL.least ((h b.1).2 hM.head)) (hM.least ((h a.1).1 hL.head))
    have ha := hL.ok a List.mem_cons_self
    have hb := hM.ok b List.mem_cons_self
    have h2 : a.2 = b.2 := by
      rcases Nat.lt_trichotomy a.2 b.2 with hlt | heq | hgt
      · have hm : memR (a :: L) (a.2 + 1) := (h _).2 (memR_cons.2 (.inl ⟨by omega, by omega⟩))
        rcases memR_cons.1 hm with hq | hq
        · omega
        · have := hL.above hq; omega
      · exact heq
      · have hm : memR (b :: M) (b.2 + 1) := (h _).1 (memR_cons.2 (.inl ⟨by omega, by omega⟩))
        rcases memR_cons.1 hm with hq | hq
        · omega
        · have := hM.above hq; omega
    have hab : a = b := Prod.ext h1 h2
    subst hab
    rw [canon_ext L M hL.tail hM.tail (fun x => by rw [hL.tail_iff, hM.tail_iff, h])]

/-! ### join -/
def apartB (a b : Rn) : Bool := decide (a.2 + 1 < b.1)
def joinL (L : List Rn) (r : Rn) : List Rn :=
  match L.getLast? with
  | none => [r]
  | some l => if l.2 + 1 < r.1 then L ++ [r] else L.dropLast ++ [(l.1, max l.2 r.2)]
theorem joinL_nil (r : Rn) : joinL [] r = [r] := rfl
theorem joinL_far {L : List Rn} {l r : Rn} (h : l.2 + 1 < r.1) : joinL (L ++ [l]) r = L ++ [l] ++ [r] := by simp [joinL, h]
theorem joinL_near {L : List Rn} {l r : Rn} (h : ¬ l.2 + 1 < r.1) : joinL (L ++ [l]) r = L ++ [(l.1, max l.2 r.2)] := by simp [joinL, h]
theorem canon_snoc {L : List Rn} {r : Rn} (h : Canon L) (hr : r.1 ≤ r.2) (hf : ∀ l ∈ L, l.2 + 1 < r.1) : Canon (L ++ [r]) :=
  ⟨List.pairwise_append.2 ⟨h.far, List.pairwise_singleton _ _, fun a ha b hb => by rw [List.mem_singleton] at hb; subst hb; exact hf a ha⟩, fun q hq => by
    rcases List.mem_append.1 hq with hq | hq
    · exact h.ok q hq
    · rw [List.mem_singleton] at hq; subst hq; exact hr⟩
theorem canon_init {L : List Rn} {r : Rn} (h : Canon (L ++ [r])) : Canon L ∧ (∀ l ∈ L, l.2 + 1 < r.1) ∧ r.1 ≤ r.2 := by
  obtain ⟨h1, _, h3⟩ := List.pairwise_append.1 h.far
  exact ⟨⟨h1, fun q hq => h.ok q (List.mem_append_left _ hq)⟩, fun l hl => h3 l hl r (List.mem_singleton.2 rfl), h.ok r (List.mem_append_right _ (List.mem_singleton.2 rfl))⟩
theorem joinL_spec {L : List Rn} {r : Rn} (h : Canon L) (hr : r.1 ≤ r.2) (ho : ∀ l ∈ L, l.1 ≤ r.1) :
    Canon (joinL L r) ∧ (∀ x, memR (joinL L r) x ↔ memR L x ∨ (r.1 ≤ x ∧ x ≤ r.2)) ∧ (∀ l ∈ joinL L r, l.1 ≤ r.1) := by
  rcases List.eq_nil_or_concat L with rfl | ⟨M, l, rfl⟩
  · rw [joinL_nil]
    exact ⟨Canon.one hr, fun x => by rw [memR_one]; simp [memR_nil], fun l hl => by rw [List.mem_singleton] at hl; subst hl; exact Nat.le_refl _⟩
  · rw [List.concat_eq_append] at h ho ⊢
    obtain ⟨hM, hf, hl⟩ := canon_init h
    have hlo := ho l (List.mem_append_right _ (List.mem_singleton.2 rfl))
    by_cases hc : l.2 + 1 < r.1
    · rw [joinL_far hc]
      refine ⟨canon_snoc h hr fun q hq => ?_, fun x => by rw [memR_app, memR_one], fun q hq => ?_⟩
      · rcases List.mem_append.1 hq with hq | hq
        · have := hf q hq; omega
        · rw [List.mem_singleton] at hq; subst hq; exact hc
      · rcases List.mem_append.1 hq with hq | hq
        · exact ho q hq
        · rw [List.mem_singleton] at hq; subst hq; exact Nat.le_refl _
    · rw [joinL_near hc]
      refine ⟨canon_snoc hM (by show l.1 ≤ max l.2 r.2; omega) hf, fun x => ?_, fun q hq => ?_⟩
      · rw [memR_app, memR_app, memR_one, memR_one]
        constructor
        · rintro (h1 | ⟨h1, h2⟩)
          · exact .inl (.inl h1)
          · simp only at h1 h2
            by_cases h3 : x ≤ l.2
            · exact .inl (.inr ⟨h1, h3⟩)
            · exact .inr ⟨by omega, by omega⟩
        · rintro ((h1 | h1) | h1)
          · exact .inl h1
          · exact .inr ⟨h1.1, by show x ≤ max l.2 r.2; omega⟩
          · exact .inr ⟨by show l.1 ≤ x; omega, by show x ≤ max l.2 r.2; omega⟩
      · rcases List.mem_append.1 hq with hq | hq
        · exact ho q (List.mem_append_left _ hq)
        · rw [List.mem_singleton] at hq; subst hq; exact hlo
theorem joinL_len (L : List Rn) (r : Rn) : (joinL L r).length ≤ L.length + 1 ∧ 0 < (joinL L r).length := by
  rcases List.eq_nil_or_concat L with rfl | ⟨M, l, rfl⟩
  · simp [joinL_nil]
  · rw [List.concat_eq_append]
    by_cases hc : l.2 + 1 < r.1
    · rw [joinL_far hc]; simp
    · rw [joinL_near hc]; simp
theorem joinL_lt {L : List Rn} {r : Rn} (h : ∀ q ∈ L, q.1 < two64 ∧ q.2 < two64) (hr : r.1 < two64 ∧ r.2 < two64) : ∀ q ∈ joinL L r, q.1 < two64 ∧ q.2 < two64 := by
  rcases List.eq_nil_or_concat L with rfl | ⟨M, l, rfl⟩
  · rw [joinL_nil]; intro q hq; rw [List.mem_singleton] at hq; subst hq; exact hr
  · rw [List.concat_eq_append] at h ⊢
    have hl := h l (List.mem_append_right _ (List.mem_singleton.2 rfl))
    by_cases hc : l.2 + 1 < r.1
    · rw [joinL_far hc]
      intro q hq
      rcases List.mem_append.1 hq with hq | hq
      · exact h q hq
      · rw [List.mem_singleton] at hq; subst hq; exact hr
    · rw [joinL_near hc]
      intro q hq
      rcases List.mem_append.1 hq with hq | hq
      · exact h q (List.mem_append_left _ hq)
      · rw [List.mem_singleton] at hq; subst hq
        exact ⟨hl.1, by show max l.2 r.2 < two64; omega⟩

/-! ### union -/
def unionGo (acc : List Rn) : List Rn → List Rn → List Rn
  | [], [] => acc
  | [], y :: b => unionGo (joinL acc y) b []
  | x :: a, [] => unionGo (joinL acc x) a []
  | x :: a, y :: b => if y.1 < x.1 then unionGo (joinL acc y) b (x :: a) else unionGo (joinL acc x) a (y :: b)
termination_by a b => a.length + b.length
def unionL (a b : List Rn) : List Rn := unionGo [] a b
theorem Canon.first_le {a : Rn} {L : List Rn} (h : Canon (a :: L)) : ∀ r ∈ L, a.1 ≤ r.1 := fun r hr => by
  have := (List.pairwise_cons.1 h.far).1 r hr
  have := h.ok a List.mem_cons_self
  omega
theorem unionGo_spec : ∀ (a b acc : List Rn), Canon acc → Canon a → Canon b → (∀ l ∈ acc, ∀ r ∈ a, l.1 ≤ r.1) → (∀ l ∈ acc, ∀ r ∈ b, l.1 ≤ r.1) →
    Canon (unionGo acc a b) ∧ (∀ x, memR (unionGo acc a b) x ↔ memR acc x ∨ memR a x ∨ memR b x) ∧ (unionGo acc a b).length ≤ acc.length + (a.length + b.length)
  | [], [], acc, hc, _, _, _, _ => by
    unfold unionGo
    exact ⟨hc, fun x => by simp [memR_nil], by simp⟩
  | [], y :: b, acc, hc, _, hb, _, hob => by
    obtain ⟨h1, h2, h3⟩ := joinL_spec hc (hb.ok y List.mem_cons_self) (fun l hl => hob l hl y List.mem_cons_self)
    obtain ⟨k1, k2, k3⟩ := unionGo_spec b [] (joinL acc y) h1 hb.tail Canon.nil (fun l hl r hr => Nat.le_trans (h3 l hl) (hb.first_le r hr)) (fun l _ r hr => by cases hr)
    rw [unionGo]
    refine ⟨k1, fun x => ?_, ?_⟩
    · rw [k2, h2, memR_cons]
      simp only [memR_nil, or_false, false_or]
      rw [or_assoc]
    · have := (joinL_len acc y).1
      simp only [List.length_cons, List.length_nil] at *
      omega
  | x :: a, [], acc, hc, ha, _, hoa, _ => by
    obtain ⟨h1, h2, h3⟩ := joinL_spec hc (ha.ok x List.mem_cons_self) (fun l hl => hoa l hl x List.mem_cons_self)
    obtain ⟨k1, k2, k3⟩ := unionGo_spec a [] (joinL acc x) h1 ha.tail Canon.nil (fun l hl r hr => Nat.le_trans (h3 l hl) (ha.first_le r hr)) (fun l _ r hr => by cases hr)
    rw [unionGo]
    refine ⟨k1, fun z => ?_, ?_⟩
    · rw [k2, h2, memR_cons]
      simp only [memR_nil, or_false]
      rw [or_assoc]
    · have := (joinL_len acc x).1
      simp only [List.length_cons, List.length_nil] at *
      omega
  | x :: a, y :: b, acc, hc, ha, hb, hoa, hob => by
    by_cases hyx : y.1 < x.1
    · obtain ⟨h1, h2, h3⟩ := joinL_spec hc (hb.ok y List.mem_cons_self) (fun l hl => hob l hl y List.mem_cons_self)
      obtain ⟨k1, k2, k3⟩ := unionGo_spec b (x :: a) (joinL acc y) h1 hb.tail ha (fun l hl r hr => Nat.le_trans (h3 l hl) (hb.first_le r hr)) (fun l hl r hr => by
        have := h3 l hl
        rcases List.mem_cons.1 hr with rfl | hr
        · omega
        · have := ha.first_le r hr; omega)
      rw [unionGo, if_pos hyx]
      refine ⟨k1, fun z => ?_, ?_⟩
      · rw [k2, h2, memR_cons (a := y)]
        constructor
        · rintro ((h | h) | h | h)
          · exact .inl h
          · exact .inr (.inr (.inl h))
          · exact .inr (.inr (.inr h))
          · exact .inr (.inl h)
        · rintro (h | h | h | h)
          · exact .inl (.inl h)
          · exact .inr (.inr h)
          · exact .inl (.inr h)
          · exact .inr (.inl h)
      · have := (joinL_len acc y).1
        simp only [List.length_cons] at *
        omega
    · obtain ⟨h1, h2, h3⟩ := joinL_spec hc (ha.ok x List.mem_cons_self) (fun l hl => hoa l hl x List.mem_cons_self)
      obtain ⟨k1, k2, k3⟩ := unionGo_spec a (y :: b) (joinL acc x) h1 ha.tail hb (fun l hl r hr => Nat.le_trans (h3 l hl) (ha.first_le r hr)) (fun l hl r hr => by
        have := h3 l hl
        rcases List.mem_cons.1 hr with rfl | hr
        · omega
        · have := hb.first_le r hr; omega)
      rw [unionGo, if_neg hyx]
      refine ⟨k1, fun z => ?_, ?_⟩
      · rw [k2, h2, memR_cons (a := x)]
        constructor
        · rintro ((h | h) | h | h)
          · exact .inl h
          · exact .inr (.inl (.inl h))
          · exact .inr (.inl (.inr h))
          · exact .inr (.inr h)
        · rintro (h | (h | h) | h)
          · exact .inl (.inl h)
          · exact .inl (.inr h)
          · exact .inr (.inl h)
          · exact .inr (.inr h)
      · have := (joinL_len acc x).1
        simp only [List.length_cons] at *
        omega
termination_by a b => a.length + b.length
theorem unionGo_lt : ∀ (a b acc : List Rn), (∀ q ∈ acc, q.1 < two64 ∧ q.2 < two64) → (∀ q ∈ a, q.1 < two64 ∧ q.2 < two64) → (∀ q ∈ b, q.1 < two64 ∧ q.2 < two64) → ∀ q ∈ unionGo acc a b, q.1 < two64 ∧ q.2 < two64
  | [], [], acc, h, _, _ => by unfold unionGo; exact h
  | [], y :: b, acc, h, _, hb => by
    rw [unionGo]
    exact unionGo_lt b [] _ (joinL_lt h (hb y List.mem_cons_self)) (fun q hq => hb q (List.mem_cons_of_mem _ hq)) (fun q hq => by cases hq)
  | x :: a, [], acc, h, ha, _ => by
    rw [unionGo]
    exact unionGo_lt a [] _ (joinL_lt h (ha x List.mem_cons_self)) (fun q hq => ha q (List.mem_cons_of_mem _ hq)) (fun q hq => by cases hq)
  | x :: a, y :: b, acc, h, ha, hb => by
    rw [unionGo]
    split
    · exact unionGo_lt b (x :: a) _ (joinL_lt h (hb y List.mem_cons_self)) (fun q hq => hb q (List.mem_cons_of_mem _ hq)) ha
    · exact unionGo_lt a (y :: b) _ (joinL_lt h (ha x List.mem_cons_self)) (fun q hq => ha q (List.mem_cons_of_mem _ hq)) hb
termination_by a b => a.length + b.length

/-- A set's list: it rises, its runs lie apart, and each number has 64 bits. -/
structure Okl (L : List Rn) : Prop where
  can : Canon L
  lt : ∀ q ∈ L, q.1 < two64 ∧ q.2 < two64
theorem Okl.nil : Okl [] := ⟨Canon.nil, fun q hq => by cases hq⟩
theorem union_ok {a b : List Rn} (ha : Okl a) (hb : Okl b) : Okl (unionL a b) :=
  ⟨(unionGo_spec a b [] Canon.nil ha.can hb.can (fun l hl => by cases hl) (fun l hl => by cases hl)).1, unionGo_lt a b [] (fun q hq => by cases hq) ha.lt hb.lt⟩
theorem union_mem {a b : List Rn} (ha : Okl a) (hb : Okl b) (x : Nat) : memR (unionL a b) x ↔ memR a x ∨ memR b x := by
  have h := (unionGo_spec a b [] Canon.nil ha.can hb.can (fun l hl => by cases hl) (fun l hl => by cases hl)).2.1 x
  unfold unionL
  simpa [memR_nil] using h
theorem union_len {a b : List Rn} (ha : Okl a) (hb : Okl b) : (unionL a b).length ≤ a.length + b.length := by
  have h := (unionGo_spec a b [] Canon.nil ha.can hb.can (fun l hl => by cases hl) (fun l hl => by cases hl)).2.2
  unfold unionL
  simpa using h
theorem Okl.ext {L M : List Rn} (hL : Okl L) (hM : Okl M) (h : ∀ x, memR L x ↔ memR M x) : L = M := canon_ext L M hL.can hM.can h
end Go.Proofs.YtlkcnpmgafckoaaDoor

/-! ## RunsMore -/
namespace Go.Proofs.YtlkcnpmgafckoaaDoor

/-! ### reach -/
def reachL (L : List Rn) (n : Nat) : List Rn := L.dropWhile fun r => decide (r.2 < n)
theorem reachL_nil (n : Nat) : reachL [] n = [] := rfl
theorem reachL_lo {a : Rn} {L : List Rn} {n : Nat} (h : a.2 < n) : reachL (a :: L) n = reachL L n := by simp [reachL, h]
theorem reachL_hi {a : Rn} {L : List Rn} {n : Nat} (h : ¬ a.2 < n) : reachL (a :: L) n = a :: L := by simp [reachL, h]
theorem reachL_ok {L : List Rn} (h : Okl L) (n : Nat) : Okl (reachL L n) ∧ (∀ r ∈ reachL L n, n ≤ r.2) ∧ (∀ x, n ≤ x → (memR (reachL L n) x ↔ memR L x)) ∧ (reachL L n).length ≤ L.length := by
  induction L with
  | nil => exact ⟨h, fun r hr => absurd hr List.not_mem_nil, fun x _ => Iff.rfl, Nat.le_refl _⟩
  | cons a L ih =>
    have ht : Okl L := ⟨h.can.tail, fun q hq => h.lt q (List.mem_cons_of_mem _ hq)⟩
    obtain ⟨h1, h2, h3, h4⟩ := ih ht
    by_cases hc : a.2 < n
    · rw [reachL_lo hc]
      refine ⟨h1, h2, fun x hx => ?_, by simp only [List.length_cons]; omega⟩
      rw [h3 x hx, memR_cons]
      constructor
      · exact .inr
      · rintro (hq | hq)
        · omega
        · exact hq
    · rw [reachL_hi hc]
      refine ⟨h, fun r hr => ?_, fun x _ => Iff.rfl, Nat.le_refl _⟩
      rcases List.mem_cons.1 hr with rfl | hr
      · omega
      · have := (List.pairwise_cons.1 h.can.far).1 r hr
        have := h.can.ok r (List.mem_cons_of_mem _ hr)
        omega
/-- How many runs end below n. -/
def lowC (L : List Rn) (n : Nat) : Nat := (L.takeWhile fun r => decide (r.2 < n)).length
theorem reachL_drop (L : List Rn) (n : Nat) : reachL L n = L.drop (lowC L n) := by
  induction L with
  | nil => rfl
  | cons a L ih =>
    by_cases hc : a.2 < n
    · rw [reachL_lo hc, ih]
      simp [lowC, hc]
    · rw [reachL_hi hc]
      simp [lowC, hc]
theorem lowC_le (L : List Rn) (n : Nat) : lowC L n ≤ L.length := by
  unfold lowC
  induction L with
  | nil => simp
  | cons a L ih =>
    by_cases hc : a.2 < n
    · simp [hc]; exact ih
    · simp [hc]
theorem lowC_iff {L : List Rn} (h : Canon L) {n j : Nat} {r : Rn} (hr : L[j]? = some r) : j < lowC L n ↔ r.2 < n := by
  induction L generalizing j with
  | nil => simp at hr
  | cons a L ih =>
    by_cases hc : a.2 < n
    · have e : lowC (a :: L) n = lowC L n + 1 := by simp [lowC, hc]
      rw [e]
      rcases j with _ | j
      · simp at hr; subst hr; simp [hc]
      · rw [← ih h.tail (by simpa using hr)]; omega
    · have e : lowC (a :: L) n = 0 := by simp [lowC, hc]
      rw [e]
      rcases j with _ | j
      · simp at hr; subst hr; simp; omega
      · have hm : r ∈ L := List.mem_of_getElem? (by simpa using hr)
        have := (List.pairwise_cons.1 h.far).1 r hm
        have := h.ok r (List.mem_cons_of_mem _ hm)
        omega

/-! ### has, gap -/
def hasL (L : List Rn) (n : Nat) : Bool := match reachL L n with | [] => false | r :: _ => decide (r.1 ≤ n)
theorem hasL_iff {L : List Rn} (h : Okl L) (n : Nat) : hasL L n = true ↔ memR L n := by
  obtain ⟨h1, h2, h3, _⟩ := reachL_ok h n
  rw [← h3 n (Nat.le_refl _)]
  unfold hasL
  cases hr : reachL L n with
  | nil => simp [memR_nil]
  | cons r R =>
    rw [hr] at h1 h2
    simp only [decide_eq_true_eq]
    constructor
    · intro hq
      exact memR_cons.2 (.inl ⟨hq, h2 r List.mem_cons_self⟩)
    · intro hq
      exact h1.can.least hq
def gapL (L : List Rn) (n : Nat) : Nat × Bool :=
  match reachL L n with
  | [] => (n, true)
  | r :: _ => if n < r.1 then (n, true) else if r.2 = two64 - 1 then (0, false) else (r.2 + 1, true)

/-! ### taking away -/
def piecesL (r : Rn) : List Rn → List Rn
  | [] => [r]
  | h :: hs => if r.2 < h.1 then [r] else (if r.1 < h.1 then [(r.1, h.1 - 1)] else []) ++ (if r.2 ≤ h.2 then [] else piecesL (h.2 + 1, r.2) hs)
theorem pieces_spec : ∀ (hs : List Rn) (r : Rn), Canon hs → r.1 ≤ r.2 → (∀ h ∈ hs, r.1 ≤ h.2) →
    Canon (piecesL r hs) ∧ (∀ x, memR (piecesL r hs) x ↔ (r.1 ≤ x ∧ x ≤ r.2) ∧ ¬ memR hs x) ∧ (∀ q ∈ piecesL r hs, r.1 ≤ q.1 ∧ q.2 ≤ r.2)
  | [], r, _, hr, _ => by
    refine ⟨Canon.one hr, fun x => ?_, fun q hq => ?_⟩
    · rw [piecesL, memR_one]; simp [memR_nil]
    · rw [piecesL, List.mem_singleton] at hq; subst hq; exact ⟨Nat.le_refl _, Nat.le_refl _⟩
  | h :: hs, r, hc, hr, ho => by
    have hh := hc.ok h List.mem_cons_self
    have hrh := ho h List.mem_cons_self
    rw [piecesL]
    by_cases h1 : r.2 < h.1
    · rw [if_pos h1]
      refine ⟨Canon.one hr, fun x => ?_, fun q hq => ?_⟩
      · rw [memR_one]
        constructor
        · intro hx
          refine ⟨hx, fun hm => ?_⟩
          have := hc.least hm
          omega
        · exact fun hx => hx.1
      · rw [List.mem_singleton] at hq; subst hq; exact ⟨Nat.le_refl _, Nat.le_refl _⟩
    · rw [if_neg h1]
      have hA : Canon (if r.1 < h.1 then [(r.1, h.1 - 1)] else []) ∧ (∀ x, memR (if r.1 < h.1 then [(r.1, h.1 - 1)] else []) x ↔ r.1 ≤ x ∧ x < h.1) ∧ (∀ q ∈ (if r.1 < h.1 then [(r.1, h.1 - 1)] else ([] : List Rn)), r.1 ≤ q.1 ∧ q.2 < h.1) := by
        by_cases h2 : r.1 < h.1
        · rw [if_pos h2]
          refine ⟨Canon.one (by show r.1 ≤ h.1 - 1; omega), fun x => ?_, fun q hq => ?_⟩
          · rw [memR_one]; simp only; omega
          · rw [List.mem_singleton] at hq; subst hq; simp only; omega
        · rw [if_neg h2]
          exact ⟨Canon.nil, fun x => by simp [memR_nil]; omega, fun q hq => by cases hq⟩
      obtain ⟨a1, a2, a3⟩ := hA
      by_cases h3 : r.2 ≤ h.2
      · rw [if_pos h3, List.append_nil]
        refine ⟨a1, fun x => ?_, fun q hq => ?_⟩
        · rw [a2, memR_cons]
          constructor
          · rintro ⟨h4, h5⟩
            refine ⟨⟨h4, by omega⟩, ?_⟩
            rintro (hq | hq)
            · omega
            · have := hc.above hq; omega
          · rintro ⟨⟨h4, h5⟩, h6⟩
            refine ⟨h4, ?_⟩
            rcases Nat.lt_or_ge x h.1 with hq | hq
            · exact hq
            · exact absurd (.inl ⟨hq, by omega⟩) h6
        · have := a3 q hq; omega
      · rw [if_neg h3]
        obtain ⟨b1, b2, b3⟩ := pieces_spec hs (h.2 + 1, r.2) hc.tail (by show h.2 + 1 ≤ r.2; omega) (fun g hg => by
          have := (List.pairwise_cons.1 hc.far).1 g hg
          have := hc.ok g (List.mem_cons_of_mem _ hg)
          show h.2 + 1 ≤ g.2
          omega)
        refine ⟨⟨List.pairwise_append.2 ⟨a1.far, b1.far, fun p hp q hq => ?_⟩, fun q hq => ?_⟩, fun x => ?_, fun q hq => ?_⟩
        · have := a3 p hp
          have := (b3 q hq).1
          simp only at this
          omega
        · rcases List.mem_append.1 hq with hq | hq
          · exact a1.ok q hq
          · exact b1.ok q hq
        · rw [memR_app, a2, b2, memR_cons]
          simp only
          constructor
          · rintro (⟨h4, h5⟩ | ⟨⟨h4, h5⟩, h6⟩)
            · refine ⟨⟨h4, by omega⟩, ?_⟩
              rintro (hq | hq)
              · omega
              · have := hc.above hq; omega
            · refine ⟨⟨by omega, h5⟩, ?_⟩
              rintro (hq | hq)
              · omega
              · exact h6 hq
          · rintro ⟨⟨h4, h5⟩, h6⟩
            rcases Nat.lt_or_ge x h.1 with hq | hq
            · exact .inl ⟨h4, hq⟩
            · refine .inr ⟨⟨?_, h5⟩, fun hm => h6 (.inr hm)⟩
              rcases Nat.lt_or_ge h.2 x with hp | hp
              · exact hp
              · exact absurd (.inl ⟨hq, hp⟩) h6
        · rcases List.mem_append.1 hq with hq | hq
          · have := a3 q hq; omega
          · have := b3 q hq; simp only at this; omega
theorem pieces_len (hs : List Rn) : ∀ r : Rn, (piecesL r hs).length ≤ hs.length + 1 := by
  induction hs with
  | nil => intro r; simp [piecesL]
  | cons h hs ih =>
    intro r
    rw [piecesL]
    split
    · simp
    · have := ih (h.2 + 1, r.2)
      split <;> split <;> simp <;> omega
def lessGo (acc : List Rn) : List Rn → List Rn → List Rn
  | [], _ => acc
  | r :: s, hs => lessGo (acc ++ piecesL r (reachL hs r.1)) s (reachL hs r.1)
def lessL (s t : List Rn) : List Rn := lessGo [] s t
theorem lessGo_spec : ∀ (s hs acc : List Rn), Canon acc → Okl s → Okl hs → (∀ a ∈ acc, ∀ r ∈ s, a.2 + 1 < r.1) → (∀ a ∈ acc, a.1 < two64 ∧ a.2 < two64) →
    Canon (lessGo acc s hs) ∧ (∀ x, memR (lessGo acc s hs) x ↔ memR acc x ∨ (memR s x ∧ ¬ memR hs x)) ∧ (∀ q ∈ lessGo acc s hs, q.1 < two64 ∧ q.2 < two64)
  | [], hs, acc, hc, _, _, _, hl => by
    rw [lessGo]
    exact ⟨hc, fun x => by simp [memR_nil], hl⟩
  | r :: s, hs, acc, hc, hS, hH, ho, hl => by
    obtain ⟨h1, h2, h3, h4⟩ := reachL_ok hH r.1
    have hr := hS.can.ok r List.mem_cons_self
    obtain ⟨p1, p2, p3⟩ := pieces_spec (reachL hs r.1) r h1.can hr (fun h hh => h2 h hh)
    have hS' : Okl s := ⟨hS.can.tail, fun q hq => hS.lt q (List.mem_cons_of_mem _ hq)⟩
    have hrl := hS.lt r List.mem_cons_self
    have hcA : Canon (acc ++ piecesL r (reachL hs r.1)) := ⟨List.pairwise_append.2 ⟨hc.far, p1.far, fun a ha q hq => by
        have := ho a ha r List.mem_cons_self
        have := (p3 q hq).1
        omega⟩, fun q hq => by
      rcases List.mem_append.1 hq with hq | hq
      · exact hc.ok q hq
      · exact p1.ok q hq⟩
    obtain ⟨k1, k2, k3⟩ := lessGo_spec s (reachL hs r.1) (acc ++ piecesL r (reachL hs r.1)) hcA hS' h1 (fun a ha q hq => by
        rcases List.mem_append.1 ha with ha | ha
        · exact ho a ha q (List.mem_cons_of_mem _ hq)
        · have := (p3 a ha).2
          have := (List.pairwise_cons.1 hS.can.far).1 q hq
          omega) (fun a ha => by
        rcases List.mem_append.1 ha with ha | ha
        · exact hl a ha
        · have := p3 a ha
          have := p1.ok a ha
          exact ⟨by omega, by omega⟩)
    rw [lessGo]
    refine ⟨k1, fun x => ?_, k3⟩
    rw [k2, memR_app, p2, memR_cons]
    constructor
    · rintro ((h | ⟨h, hn⟩) | ⟨h, hn⟩)
      · exact .inl h
      · exact .inr ⟨.inl h, fun hm => hn ((h3 x h.1).2 hm)⟩
      · have hx : r.1 ≤ x := by have := hS.can.above h; omega
        exact .inr ⟨.inr h, fun hm => hn ((h3 x hx).2 hm)⟩
    · rintro (h | ⟨h | h, hn⟩)
      · exact .inl (.inl h)
      · exact .inl (.inr ⟨h, fun hm => hn ((h3 x h.1).1 hm)⟩)
      · have hx : r.1 ≤ x := by have := hS.can.above h; omega
        exact .inr ⟨h, fun hm => hn ((h3 x hx).1 hm)⟩
theorem less_ok {s t : List Rn} (hs : Okl s) (ht : Okl t) : Okl (lessL s t) := by
  obtain ⟨h1, _, h3⟩ := lessGo_spec s t [] Canon.nil hs ht (fun a ha => by cases ha) (fun a ha => by cases ha)
  exact ⟨h1, h3⟩
theorem less_mem {s t : List Rn} (hs : Okl s) (ht : Okl t) (x : Nat) : memR (lessL s t) x ↔ memR s x ∧ ¬ memR t x := by
  have h := (lessGo_spec s t [] Canon.nil hs ht (fun a ha => by cases ha) (fun a ha => by cases ha)).2.1 x
  unfold lessL
  simpa [memR_nil] using h

/-! ### spans; sets of raw runs -/
def spanL (s : List Rn) (f t : Nat) : List Rn := if t < f then s else unionL s [(f, t)]
theorem one_ok {f t : Nat} (h : f ≤ t) (hf : f < two64) (ht : t < two64) : Okl [(f, t)] := ⟨Canon.one h, fun q hq => by rw [List.mem_singleton] at hq; subst hq; exact ⟨hf, ht⟩⟩
theorem span_ok {s : List Rn} {f t : Nat} (hs : Okl s) (hf : f < two64) (ht : t < two64) : Okl (spanL s f t) := by
  unfold spanL
  split
  · exact hs
  · exact union_ok hs (one_ok (by omega) hf ht)
theorem span_mem {s : List Rn} {f t : Nat} (hs : Okl s) (hf : f < two64) (ht : t < two64) (x : Nat) : memR (spanL s f t) x ↔ memR s x ∨ (f ≤ x ∧ x ≤ t) := by
  unfold spanL
  split
  · constructor
    · exact .inl
    · rintro (h | h)
      · exact h
      · omega
  · rw [union_mem hs (one_ok (by omega) hf ht), memR_one]
theorem span_len {s : List Rn} {f t : Nat} (hs : Okl s) (hf : f < two64) (ht : t < two64) : (spanL s f t).length ≤ s.length + 1 := by
  unfold spanL
  split
  · omega
  · have := union_len hs (one_ok (f := f) (t := t) (by omega) hf ht)
    simpa using this
def setL (l : List Rn) : List Rn := l.foldl (fun s r => spanL s r.1 r.2) []
theorem setL_snoc (l : List Rn) (r : Rn) : setL (l ++ [r]) = spanL (setL l) r.1 r.2 := by simp [setL]
theorem set_go (l : List Rn) : ∀ s : List Rn, Okl s → (∀ q ∈ l, q.1 < two64 ∧ q.2 < two64) →
    Okl (l.foldl (fun s r => spanL s r.1 r.2) s) ∧ (∀ x, memR (l.foldl (fun s r => spanL s r.1 r.2) s) x ↔ memR s x ∨ memR l x) ∧ (l.foldl (fun s r => spanL s r.1 r.2) s).length ≤ s.length + l.length := by
  induction l with
  | nil => intro s hs _; exact ⟨hs, fun x => by simp [memR_nil], by simp⟩
  | cons r l ih =>
    intro s hs h
    obtain ⟨hf, ht⟩ := h r List.mem_cons_self
    obtain ⟨h1, h2, h3⟩ := ih (spanL s r.1 r.2) (span_ok hs hf ht) (fun q hq => h q (List.mem_cons_of_mem _ hq))
    rw [List.foldl_cons]
    refine ⟨h1, fun x => ?_, ?_⟩
    · rw [h2, span_mem hs hf ht, memR_cons, or_assoc]
    · have := span_len hs hf ht
      simp only [List.length_cons]
      omega
theorem set_spec (l : List Rn) (h : ∀ q ∈ l, q.1 < two64 ∧ q.2 < two64) : Okl (setL l) ∧ (∀ x, memR (setL l) x ↔ memR l x) ∧ (setL l).length ≤ l.length := by
  obtain ⟨h1, h2, h3⟩ := set_go l [] Okl.nil h
  unfold setL
  exact ⟨h1, fun x => by have := h2 x; simpa [memR_nil] using this, by simpa using h3⟩
end Go.Proofs.YtlkcnpmgafckoaaDoor

/-! ## RunsOne -/
namespace Go.Proofs.YtlkcnpmgafckoaaDoor
open Go.RowKit

def rv (r : Rn) : List Value := [.int .u64 (r.1 : Int), .int .u64 (r.2 : Int)]
def rvs (L : List Rn) : List Value := L.flatMap rv
theorem rvs_len (L : List Rn) : (rvs L).length = L.length * 2 := by
  induction L with
  | nil => rfl
  | cons a L ih => unfold rvs at *; rw [List.flatMap_cons, List.length_append, ih, List.length_cons]; simp [rv]; omega
theorem rvs_app (L M : List Rn) : rvs (L ++ M) = rvs L ++ rvs M := by unfold rvs; rw [List.flatMap_append]
theorem rvs_cons (a : Rn) (L : List Rn) : rvs (a :: L) = rv a ++ rvs L := rfl
theorem rvs_one1 (a : Rn) : rvs [a] = rv a := by simp [rvs]
theorem rvs_one (L : List Rn) : ∀ u ∈ rvs L, u.oneCell' = true := by
  intro u hu
  obtain ⟨r, _, h⟩ := List.mem_flatMap.1 hu
  simp only [rv, List.mem_cons, List.not_mem_nil, or_false] at h
  rcases h with rfl | rfl <;> rfl
theorem rvs_at {L : List Rn} {j : Nat} {r : Rn} (h : L[j]? = some r) : (rvs L)[j * 2]? = some (.int .u64 (r.1 : Int)) ∧ (rvs L)[j * 2 + 1]? = some (.int .u64 (r.2 : Int)) := by
  induction L generalizing j with
  | nil => simp at h
  | cons a L ih =>
    rw [rvs_cons]
    rcases j with _ | j
    · simp at h
      subst h
      exact ⟨rfl, rfl⟩
    · have := ih (j := j) (by simpa using h)
      have hl : (rv a).length = 2 := rfl
      rw [List.getElem?_append_right (by omega), List.getElem?_append_right (by omega), show (j + 1) * 2 - (rv a).length = j * 2 from by omega, show (j + 1) * 2 + 1 - (rv a).length = j * 2 + 1 from by omega]
      exact this
theorem rvs_take (L : List Rn) (m : Nat) : (rvs L).take (m * 2) = rvs (L.take m) := by
  induction L generalizing m with
  | nil => simp [rvs]
  | cons a L ih =>
    rcases m with _ | m
    · simp [rvs]
    · rw [List.take_succ_cons, rvs_cons, rvs_cons, ← ih, show (m + 1) * 2 = 2 + m * 2 from by omega]
      simp [rv, show 2 + m * 2 = m * 2 + 1 + 1 from by omega]
theorem rvs_drop (L : List Rn) (m : Nat) : (rvs L).drop (m * 2) = rvs (L.drop m) := by
  induction L generalizing m with
  | nil => simp [rvs]
  | cons a L ih =>
    rcases m with _ | m
    · simp
    · rw [List.drop_succ_cons, rvs_cons, ← ih, show (m + 1) * 2 = m * 2 + 1 + 1 from by omega]
      simp [rv]

/-- A slice of runs reads as this list, below block B. -/
structure Rs (w : World) (B : Nat) (A : Option Addr) (n c : Nat) (L : List Rn) : Prop where
  sn : Sn w B A n c 2 (rvs L)
  lt : ∀ q ∈ L, q.1 < two64 ∧ q.2 < two64
section
variable {w w' : World} {B B' : Nat} {A : Option Addr} {n c : Nat} {L : List Rn}
theorem Rs.len (h : Rs w B A n c L) : L.length = n := by have := h.sn.len; rw [rvs_len] at this; omega
theorem Rs.more (h : Rs w B A n c L) (hB : B ≤ B') : Rs w B' A n c L := ⟨h.sn.more hB, h.lt⟩
theorem Rs.below (h : Rs w B A n c L) (hb : Below B' w w') (hB : B ≤ B') : Rs w' B A n c L := ⟨h.sn.below hb hB, h.lt⟩
theorem Rs.on (h : Rs w B A n c L) (hb : Below w.heap.size w w') (hB : B ≤ w.heap.size) : Rs w' w'.heap.size A n c L := ⟨h.sn.on hb hB, h.lt⟩
theorem Rs.onA (h : Rs w w.heap.size A n c L) (o : Obj) : Rs (w.alloc o) (w.alloc o).heap.size A n c L := ⟨h.sn.onA o, h.lt⟩
theorem Rs.onD (h : Rs w w.heap.size A n c L) (q : Nat) : Rs (w.drewN q) (w.drewN q).heap.size A n c L := ⟨h.sn.onD q, h.lt⟩
theorem Rs.drewN (h : Rs w B A n c L) (q : Nat) : Rs (w.drewN q) B A n c L := ⟨h.sn.drewN q, h.lt⟩
theorem Rs.alloc (h : Rs w B A n c L) (hB : B ≤ w.heap.size) (o : Obj) : Rs (w.alloc o) B A n c L := ⟨h.sn.alloc hB o, h.lt⟩
theorem Rs.nil_ (w : World) (B : Nat) (A : Option Addr) (c : Nat) (hc : c ≤ maxLen) : Rs w B A 0 c [] := ⟨Sn.nil_ w B A c 2 hc, fun q hq => by cases hq⟩
theorem Rs.of_own {base : Nat} {e : TypeId} (h : w.ownsRow base e 2 (.slice A n c) n (rvs L)) (hl : ∀ q ∈ L, q.1 < two64 ∧ q.2 < two64) : Rs w w.heap.size A n c L := ⟨Sn.of_own h, hl⟩
theorem Rs.at_ {j : Nat} (h : Rs w B A n c L) (hj : j < n) : ∃ b o r, A = some ⟨b, o, none⟩ ∧ b < B ∧ L[j]? = some r ∧ w.cell? ⟨b, o + j * 2, none⟩ = some (.int .u64 (r.1 : Int)) ∧ w.cell? ⟨b, o + j * 2 + 1, none⟩ = some (.int .u64 (r.2 : Int)) ∧ r.1 < two64 ∧ r.2 < two64 := by
  have hl : j < L.length := by rw [h.len]; exact hj
  have hr := List.getElem?_eq_getElem hl
  obtain ⟨b, o, e, hb, hc⟩ := h.sn.cell (by omega)
  obtain ⟨h0, h1⟩ := rvs_at hr
  obtain ⟨k0, k1⟩ := h.lt _ (List.getElem_mem hl)
  exact ⟨b, o, L[j], e, hb, hr, hc _ _ h0, by rw [Nat.add_assoc]; exact hc _ _ h1, k0, k1⟩
theorem Rs.take (h : Rs w B A n c L) {m d : Nat} (hm : m ≤ n) (hmd : m ≤ d) (hd : d ≤ c) : Rs w B A m d (L.take m) :=
  ⟨by have := h.sn.take hm hmd hd; rwa [rvs_take] at this, fun q hq => h.lt q (List.mem_of_mem_take hq)⟩
theorem Rs.drop (h : Rs w B A n c L) {m : Nat} (hm : m ≤ n) : Rs w B (if c = m then A else A.map (·.add (m * 2))) (n - m) (c - m) (L.drop m) :=
  ⟨by have := h.sn.drop hm; rwa [rvs_drop] at this, fun q hq => h.lt q (List.mem_of_mem_drop hq)⟩
theorem ever_rs (h : Rs w w.heap.size A n c L) : Ever (fun w2 => Rs w2 w2.heap.size A n c L) w := fun _ hb => h.on hb (Nat.le_refl _)
end

/-- A run, a set, as values. -/
def rnv (r : Rn) : Value := .agg #[.int .u64 (r.1 : Int), .int .u64 (r.2 : Int)]
/-- A slice of runs is handed back; nothing that was there has turned. -/
def SaysR (w : World) (L : List Rn) (e : Ending) (w' : World) : Prop := ∃ A n c, e = .returned (.slice A n c) ∧ Rs w' w'.heap.size A n c L ∧ Below w.heap.size w w'
/-- A set's row: it reads as this list, and wherever it lies, it lies below B. -/
structure St (w : World) (B : Nat) (A : Option Addr) (n c : Nat) (L : List Rn) : Prop where
  rs : Rs w B A n c L
  lies : ∀ b o, A = some ⟨b, o, none⟩ → b < B
theorem St.below {w w' : World} {B B' : Nat} {A : Option Addr} {n c : Nat} {L : List Rn} (h : St w B A n c L) (hb : Below B' w w') (hB : B ≤ B') : St w' B A n c L := ⟨h.rs.below hb hB, h.lies⟩
theorem St.more {w : World} {B B' : Nat} {A : Option Addr} {n c : Nat} {L : List Rn} (h : St w B A n c L) (hB : B ≤ B') : St w B' A n c L := ⟨h.rs.more hB, fun b o e => Nat.lt_of_lt_of_le (h.lies b o e) hB⟩
theorem St.on {w w' : World} {B : Nat} {A : Option Addr} {n c : Nat} {L : List Rn} (h : St w B A n c L) (hb : Below w.heap.size w w') (hB : B ≤ w.heap.size) : St w' w'.heap.size A n c L := (h.below hb hB).more (Nat.le_trans hB hb.size)
theorem St.of_own {w : World} {base : Nat} {e : TypeId} {A : Option Addr} {n c : Nat} {L : List Rn} (h : w.ownsRow base e 2 (.slice A n c) n (rvs L)) (hl : ∀ q ∈ L, q.1 < two64 ∧ q.2 < two64) : St w w.heap.size A n c L :=
  ⟨Rs.of_own h hl, fun b o e => (h.lt b (by rw [e]; rfl)).2⟩
theorem St.nil_ (w : World) (B : Nat) : St w B none 0 0 [] := ⟨Rs.nil_ w B none 0 (Nat.zero_le _), fun b o e => by cases e⟩
theorem ever_st {w : World} {A : Option Addr} {n c : Nat} {L : List Rn} (h : St w w.heap.size A n c L) : Ever (fun w2 => St w2 w2.heap.size A n c L) w := fun _ hb => h.on hb (Nat.le_refl _)
/-- A set is handed back; its row is a new one, or lies below B. -/
def SaysS (w : World) (B : Nat) (L : List Rn) (e : Ending) (w' : World) : Prop :=
  ∃ A n c, e = .returned (.agg #[.slice A n c]) ∧ St w' w'.heap.size A n c L ∧ (∀ b o, A = some ⟨b, o, none⟩ → b < B ∨ w.heap.size ≤ b) ∧ Below w.heap.size w w'
/-- A row stays where another block is written to. -/
theorem Rs.off {w : World} {B : Nat} {A : Option Addr} {n c : Nat} {L : List Rn} {p : Addr} (h : Rs w B A n c L) (hp : ∀ b o, A = some ⟨b, o, none⟩ → b ≠ p.block) (u : Value) : Rs (w.setCell p u) B A n c L :=
  ⟨⟨h.sn.len, h.sn.le, h.sn.max, fun hn => by
    obtain ⟨b, o, e, hb, hc⟩ := h.sn.cell hn
    refine ⟨b, o, e, hb, fun j x hx => ?_⟩
    rw [World.cell?_setCell_other w p ⟨b, o + j, none⟩ u (fun e' => hp b o e (by rw [e']))]
    exact hc j x hx⟩, h.lt⟩
theorem Rs.block {w : World} {B b o : Nat} {n c : Nat} {L : List Rn} (h : Rs w B (some ⟨b, o, none⟩) n c L) (hn : 0 < n) : b < B := by
  obtain ⟨b', o', e, hb, _⟩ := h.sn.cell (by omega)
  injection e with e
  injection e with e
  omega

set_option maxHeartbeats 400000 in
theorem apart_any (w : World) (a b : Rn) (ha : a.1 < two64 ∧ a.2 < two64) (hb : b.1 < two64 ∧ b.2 < two64) :
    Calls Tryd.prog 93 #[rnv a, rnv b] w (Says w (.bool (apartB a b))) := by
  obtain ⟨a1, a2⟩ := a
  obtain ⟨b1, b2⟩ := b
  unfold two64 at ha hb
  unfold rnv
  simp only at ha hb ⊢
  go_enter Tryd.func93, Tryd.ntmps93
  go_wp2
  all_goals (go_ret; refine ⟨congrArg (fun b => Ending.returned (.bool b)) ?_, (below_box w _).alloc (by simp) _⟩; rw [Bool.eq_iff_iff]; simp [apartB]; try omega)
end Go.Proofs.YtlkcnpmgafckoaaDoor

/-! ## RunsJoin -/
namespace Go.Proofs.YtlkcnpmgafckoaaDoor
open Go.RowKit

theorem run_info : (Tryd.prog.info? 77).map (fun i => (i.zero, i.size, i.bytes)) = some (some (.agg #[.int .u64 0, .int .u64 0]), 2, 16) := by kernel_rfl
/-- A row of runs of one's own. -/
def Own (w : World) (base : Nat) (A : Option Addr) (n c : Nat) (L : List Rn) : Prop := w.ownsRow base 77 2 (.slice A n c) n (rvs L)
def SaysOwn (w : World) (base : Nat) (L : List Rn) (e : Ending) (w' : World) : Prop := ∃ A n c, e = .returned (.slice A n c) ∧ Own w' base A n c L ∧ Below base w w'

theorem rv_one (r : Rn) : ∀ u ∈ rv r, u.oneCell' = true := by have := rvs_one [r]; rwa [rvs_one1] at this

theorem only_below' {a b : World} (h : Below a.heap.size a b) : a.grownBy b none := ⟨h.os, h.tape, h.output, h.size, fun i hi _ => h.block i hi⟩

theorem own_setN {w : World} {base g n c k : Nat} {e : TypeId} {xs : List Value} (h : w.ownsRow base e k (.slice (some ⟨g, 0, none⟩) n c) n xs) (j : Nat) (u : Value) :
    (w.setCell ⟨g, j, none⟩ u).ownsRow base e k (.slice (some ⟨g, 0, none⟩) n c) n (xs.set j u) := by
  refine ⟨by rw [List.length_set]; exact h.1, ?_⟩
  rcases h.2 with ⟨hv, _⟩ | ⟨g', cap, cur, hv, hbg, hg, hnc, hcm, hcs, ht⟩
  · cases hv
  · injection hv with e1 e2 e3
    injection e1 with e1
    injection e1 with e1
    subst e1 e3
    refine .inr ⟨g, c, cur.setIfInBounds j u, rfl, hbg, ?_, hnc, hcm, by simpa using hcs, ?_⟩
    · simp [World.setCell, Array.getElem?_modify, hg]
    · rw [Array.toList_setIfInBounds, List.take_set, ht]
theorem own_setTo {w : World} {base g m c : Nat} {M : List Rn} {l : Rn} (h : Own w base (some ⟨g, 0, none⟩) (m + 1) c (M ++ [l])) (hm : M.length = m) (v : Nat) :
    Own ((w.setCell ⟨g, m * 2 + 1, none⟩ (.int .u64 (v : Int))).drew) base (some ⟨g, 0, none⟩) (m + 1) c (M ++ [(l.1, v)]) := by
  have h1 := own_setN h (m * 2 + 1) (.int .u64 (v : Int))
  have e : (rvs (M ++ [l])).set (m * 2 + 1) (.int .u64 (v : Int)) = rvs (M ++ [(l.1, v)]) := by
    have hl := rvs_len M
    rw [rvs_app, rvs_app, rvs_one1, rvs_one1, List.set_append_right _ _ (by omega), hl, hm, show m * 2 + 1 - m * 2 = 1 from by omega]
    rfl
  rw [e] at h1
  exact h1

/-! ### slices.Grow -/
theorem run_append_zeros {P : Program} (w : World) (t tx ty e : TypeId) (k : IntKind) (i : TypeInfo) (z : Value) (ht : P.underlying t = some (.slice e)) (hx : P.underlying tx = some (.int k)) (hi : P.info? e = some i) (hz : i.zero = some z) (n : Nat) (hn : 0 < n) (hsz : 0 < i.size) (hb : n * i.bytes ≤ 140737488355328) (h63 : n ≤ 140737488355328) :
    (Builtin.append_ #[t, tx] ty #[.slice none 0 0, .int .i64 (n : Int)]).run P w =
      .ok (.slice (some ⟨w.heap.size, 0, none⟩) n (grownCap w n 0 e)) (w.drew.alloc (.cells (Builtin.zeroCells z.cells n ++ Builtin.zeroCells z.cells (grownCap w n 0 e - n)) e)) := by
  have hw : IntKind.i64.wrap (n : Int) = (n : Int) := by rw [IntKind.wrap_i64]; omega
  have h1 : ¬ ((n : Int) < 0) := by omega
  have h2 : ¬ (281474976710656 < (n : Int) * (i.bytes : Int)) := by
    have : (n : Int) * (i.bytes : Int) = ((n * i.bytes : Nat) : Int) := by simp
    rw [this]; omega
  have h3 : ¬ n ≤ 0 := by omega
  have h4 : ¬ (n = 0) := by omega
  have h5 : ¬ (n * i.size = 0) := by
    have := Nat.mul_pos hn hsz
    omega
  have h6 : ¬ (9223372036854775807 < (n : Int)) := by omega
  have h7 : Builtin.nextslicecap n 0 * i.bytes ≤ 281474976710656 := growslice_fits (by omega) hb
  have hmx : max (n : Int) 0 = (n : Int) := by omega
  have h8 : ¬ (281474976710656 < Builtin.nextslicecap n 0 * i.bytes) := by omega
  simp [Builtin.append_, run_underlying ht, run_underlying hx, sizeOf, typeInfo, zeroValue, hi, hz, hw, h2, h4, h5, h6, h8, asInt, asIntOf, hmx, Question.forced, Builtin.firstCells, newRow, grownCap]
  intro h
  omega

/-! ### Union -/
theorem frz_row {w : World} {r i : Nat} {cs : Array Value} {t : TypeId} (h : w.heap[r]? = some (.cells cs t (0, 0))) : w.frozen? ⟨r, i, none⟩ = false := by simp [World.frozen?, h]
theorem set_grown (w : World) (g i : Nat) (u : Value) : w.grownBy (w.setCell ⟨g, i, none⟩ u) (some g) :=
  ⟨rfl, rfl, rfl, by simp [World.setCell], fun k _ hne => Below.heap_setCell w ⟨g, i, none⟩ u k (fun e => hne (by rw [e]))⟩
theorem own_ne {w : World} {base : Nat} {e : TypeId} {k : Nat} {v : Value} {n g : Nat} {xs : List Value} (h : w.ownsRow base e k v n xs) (hg : g < base) : v.ownBlock = none ∨ v.ownBlock ≠ some g := by
  refine .inr fun hv => ?_
  have := (h.lt g hv).1
  omega
def UnionRel (w4 : World) (B base : Nat) (tot : List Rn) (gk : Nat) (a b l : Value) (wr : World) : Prop :=
  ∃ (Aa Ab Al : Option Addr) (na ca nb cb nl cl : Nat) (La Lb acc : List Rn), gk = na + nb ∧ a = .slice Aa na ca ∧ b = .slice Ab nb cb ∧ l = .slice Al nl cl ∧ Rs wr B Aa na ca La ∧ Rs wr B Ab nb cb Lb ∧ Own wr base Al nl cl acc ∧
    tot = unionGo acc La Lb ∧ (∀ q ∈ acc, q.1 < two64 ∧ q.2 < two64) ∧ nl + na + nb ≤ 2000 ∧ Below base w4 wr ∧ base ≤ wr.heap.size
theorem Rs.first {w : World} {B : Nat} {A : Option Addr} {n c : Nat} {L : List Rn} (h : Rs w B A n c L) (hn : 0 < n) :
    ∃ b o x X, A = some ⟨b, o, none⟩ ∧ b < B ∧ L = x :: X ∧ w.cell? ⟨b, o, none⟩ = some (.int .u64 (x.1 : Int)) ∧ w.cell? ⟨b, o + 1, none⟩ = some (.int .u64 (x.2 : Int)) ∧ x.1 < two64 ∧ x.2 < two64 := by
  obtain ⟨b, o, r, e, hb, hr, h0, h1, h2, h3⟩ := h.at_ hn
  rcases L with _ | ⟨x, X⟩
  · simp at hr
  · simp at hr
    subst hr
    exact ⟨b, o, x, X, e, hb, rfl, by simpa using h0, by simpa using h1, h2, h3⟩
theorem Rs.rest {w : World} {B b o n c : Nat} {x : Rn} {X : List Rn} (h : Rs w B (some ⟨b, o, none⟩) n c (x :: X)) (hn : 0 < n) (hc : c ≠ 1) : Rs w B (some ⟨b, o + 2, none⟩) (n - 1) (c - 1) X := by
  have := h.drop (m := 1) hn
  rw [if_neg hc] at this
  simpa [add_plain] using this
theorem Rs.rest1 {w : World} {B n : Nat} {A : Option Addr} {x : Rn} {X : List Rn} (h : Rs w B A n 1 (x :: X)) (hn : 0 < n) : Rs w B A (n - 1) 0 X := by
  have := h.drop (m := 1) hn
  rw [if_pos rfl] at this
  simpa using this

end Go.Proofs.YtlkcnpmgafckoaaDoor

/-! ## RunsSpan -/
namespace Go.Proofs.YtlkcnpmgafckoaaDoor
open Go.RowKit

/-- A set laid into its result's cell. -/
theorem res_set {w w4 : World} {B R : Nat} {A : Option Addr} {n c : Nat} {L : List Rn} {M : Nat} (hb : Below w.heap.size w w4) (hR : w.heap.size ≤ R) (hRM : R < M) (hs : St w4 w4.heap.size A n c L) (hp : ∀ b o, A = some ⟨b, o, none⟩ → b < B ∨ M ≤ b) (hB : B ≤ w.heap.size) (u : Value) :
    SaysS w B L (.returned (.agg #[.slice A n c])) (w4.setCell ⟨R, 0, none⟩ u) := by
  have hz : w4.heap.size ≤ (w4.setCell ⟨R, 0, none⟩ u).heap.size := by simp [World.setCell]
  refine ⟨A, n, c, rfl, ⟨?_, fun b o e => Nat.lt_of_lt_of_le (hs.lies b o e) hz⟩, fun b o e => (hp b o e).imp id fun h => by omega, hb.setCell hR _⟩
  exact (hs.rs.off (p := ⟨R, 0, none⟩) (fun b o e => by have := hp b o e; show b ≠ R; omega) u).more hz

end Go.Proofs.YtlkcnpmgafckoaaDoor

/-! ## RunsReach -/
namespace Go.Proofs.YtlkcnpmgafckoaaDoor
open Go.RowKit

def SearchRel (w : World) (k n gk : Nat) (vi vj : Value) (wr : World) : Prop :=
  ∃ i j q : Nat, gk + i = j ∧ i ≤ k ∧ k ≤ j ∧ j ≤ n ∧ vi = .int .i64 (i : Int) ∧ vj = .int .i64 (j : Int) ∧ wr = w.drewN q
/-! ### Has, Gap -/
end Go.Proofs.YtlkcnpmgafckoaaDoor

/-! ## RunsLess -/
namespace Go.Proofs.YtlkcnpmgafckoaaDoor
open Go.RowKit

/-- A row lies in another block than this. -/
def Far (X : Nat) (A : Option Addr) : Prop := ∀ p, A = some p → p.block ≠ X
theorem Far.app {w : World} {X : Nat} {A A' : Option Addr} (h : Far X A) (hX : X < w.heap.size) (hd : A' = A ∨ ∃ b, A' = some ⟨b, 0, none⟩ ∧ w.heap.size ≤ b) : Far X A' := by
  rcases hd with rfl | ⟨g, rfl, hg⟩
  · exact h
  · intro p e
    injection e with e
    subst e
    show g ≠ X
    omega
theorem Far.of_own {w : World} {base X : Nat} {A : Option Addr} {n c : Nat} {L : List Rn} (h : Own w base A n c L) (hX : w.heap.size ≤ X) : Far X A := by
  intro p e
  subst e
  rcases h.2 with ⟨hv, _⟩ | ⟨g', cap, cur, hv, hbg, hg, hnc, hcm, hcs, ht⟩
  · cases hv
  · have := (h.lt p.block (by simp [Value.ownBlock])).2
    omega
theorem Far.own {X : Nat} {A : Option Addr} {n c : Nat} (h : Far X A) : (Value.slice A n c).ownBlock = none ∨ (Value.slice A n c).ownBlock ≠ some X := by
  refine .inr fun hv => ?_
  rcases A with _ | p
  · simp [Value.ownBlock] at hv
  · exact h p rfl (by simpa [Value.ownBlock] using hv)
theorem pieces_nil (r : Rn) : piecesL r [] = [r] := rfl
theorem pieces_far {r h : Rn} {hs : List Rn} (h1 : r.2 < h.1) : piecesL r (h :: hs) = [r] := by rw [piecesL, if_pos h1]
theorem pieces_cut {r h : Rn} {hs : List Rn} (h1 : ¬ r.2 < h.1) (h2 : r.1 < h.1) (h3 : r.2 ≤ h.2) : piecesL r (h :: hs) = [(r.1, h.1 - 1)] := by rw [piecesL, if_neg h1, if_pos h2, if_pos h3]; rfl
theorem pieces_none {r h : Rn} {hs : List Rn} (h1 : ¬ r.2 < h.1) (h2 : ¬ r.1 < h.1) (h3 : r.2 ≤ h.2) : piecesL r (h :: hs) = [] := by rw [piecesL, if_neg h1, if_neg h2, if_pos h3]; rfl
theorem pieces_two {r h : Rn} {hs : List Rn} (h1 : ¬ r.2 < h.1) (h2 : r.1 < h.1) (h3 : ¬ r.2 ≤ h.2) : piecesL r (h :: hs) = [(r.1, h.1 - 1)] ++ piecesL (h.2 + 1, r.2) hs := by rw [piecesL, if_neg h1, if_pos h2, if_neg h3]
theorem pieces_on {r h : Rn} {hs : List Rn} (h1 : ¬ r.2 < h.1) (h2 : ¬ r.1 < h.1) (h3 : ¬ r.2 ≤ h.2) : piecesL r (h :: hs) = piecesL (h.2 + 1, r.2) hs := by rw [piecesL, if_neg h1, if_neg h2, if_neg h3]; rfl

theorem run_src (w : World) (g : Nat) (hg : w.heap.size = g) (q : Rn) (x y : Int) (hx : x = (q.1 : Int)) (hy : y = (q.2 : Int)) :
    Src Tryd.prog 2 23 (.slice (some ⟨g, 0, none⟩) 1 1) 1 (rv q) (w.alloc (.cells #[.int .u64 x, .int .u64 y] 77)) := by
  subst hg hx hy
  exact (lit_sn w 77 (rv q) 1 2 rfl (by unfold maxLen; omega)).src Tryd.underlying23 (rv_one q)
theorem grown_keep {w w3 : World} {X nl cl : Nat} {Al : Option Addr} (h5 : w.grownBy w3 (if nl = cl then none else (Value.slice Al nl cl).ownBlock)) (hX : X < w.heap.size) (hf : Far X Al) : w3.heap[X]? = w.heap[X]? := by
  refine h5.block X hX fun e => ?_
  split at e
  · cases e
  · rcases hf.own (n := nl) (c := cl) with hf | hf
    · rw [hf] at e; cases e
    · exact hf e.symm
structure OutSt (w : World) (X B base : Nat) (Ah : Option Addr) (nh ch : Nat) (H : List Rn) (Al : Option Addr) (nl cl : Nat) (acc : List Rn) (r : Rn) (wr : World) : Prop where
  own : Own wr base Al nl cl acc
  far : Far X Al
  box : wr.heap[X]? = some (.cells #[.int .u64 (r.1 : Int), .int .u64 (r.2 : Int)] 77 (0, 0))
  bel : Below base w wr
  rs : Rs wr B Ah nh ch H
  hB : B ≤ base
  hX : base ≤ X
section
variable {w : World} {X B base : Nat} {Ah : Option Addr} {nh ch : Nat} {H : List Rn} {Al : Option Addr} {nl cl : Nat} {acc : List Rn} {r : Rn} {wr : World}
theorem OutSt.c0 (h : OutSt w X B base Ah nh ch H Al nl cl acc r wr) : wr.cell? ⟨X, 0, none⟩ = some (.int .u64 (r.1 : Int)) := by rw [cell_of_row wr _ 0 _ _ _ h.box]; rfl
theorem OutSt.c1 (h : OutSt w X B base Ah nh ch H Al nl cl acc r wr) : wr.cell? ⟨X, 1, none⟩ = some (.int .u64 (r.2 : Int)) := by rw [cell_of_row wr _ 1 _ _ _ h.box]; rfl
theorem OutSt.lt (h : OutSt w X B base Ah nh ch H Al nl cl acc r wr) : X < wr.heap.size := World.block_lt_of_cell? wr _ h.c0
theorem OutSt.alloc (h : OutSt w X B base Ah nh ch H Al nl cl acc r wr) (o : Obj) : OutSt w X B base Ah nh ch H Al nl cl acc r (wr.alloc o) := by
  have hz : base ≤ wr.heap.size := Nat.le_trans h.hX (Nat.le_of_lt h.lt)
  have hb : Below base wr (wr.alloc o) := (below_box wr o).mono hz
  exact ⟨h.own.alloc o, h.far, ((below_box wr o).block _ h.lt).trans h.box, h.bel.trans hb, h.rs.below hb h.hB, h.hB, h.hX⟩
theorem OutSt.app {A3 : Option Addr} {c3 : Nat} {w3 : World} {q : Rn} (h : OutSt w X B base Ah nh ch H Al nl cl acc r wr)
    (h2 : w3.ownsRow base 77 2 (.slice A3 (nl + 1) c3) (nl + 1) (rvs acc ++ rv q)) (h4 : Below base wr w3) (h5 : wr.grownBy w3 (if nl = cl then none else (Value.slice Al nl cl).ownBlock)) (h6 : A3 = Al ∨ ∃ b, A3 = some ⟨b, 0, none⟩ ∧ wr.heap.size ≤ b) :
    OutSt w X B base Ah nh ch H A3 (nl + 1) c3 (acc ++ [q]) r w3 := by
  refine ⟨?_, h.far.app h.lt h6, ?_, h.bel.trans h4, h.rs.below h4 h.hB, h.hB, h.hX⟩
  · rw [← rvs_one1, ← rvs_app] at h2
    exact h2
  · exact (grown_keep h5 h.lt h.far).trans h.box
theorem OutSt.set (h : OutSt w X B base Ah nh ch H Al nl cl acc r wr) (v : Nat) : OutSt w X B base Ah nh ch H Al nl cl acc (v, r.2) (wr.setCell ⟨X, 0, none⟩ (.int .u64 (v : Int))) := by
  have hb : Below base wr (wr.setCell ⟨X, 0, none⟩ (.int .u64 (v : Int))) := (Below.refl base wr).setCell h.hX _
  refine ⟨h.own.kept (set_grown wr X 0 _) h.far.own, h.far, ?_, h.bel.trans hb, h.rs.below hb h.hB, h.hB, h.hX⟩
  simp [World.setCell, Array.getElem?_modify, h.box]
end
def OutRel (w : World) (X B base nh : Nat) (Ah : Option Addr) (ch : Nat) (H tot : List Rn) (gk : Nat) (vl vi : Value) (wr : World) : Prop :=
  ∃ (Al : Option Addr) (nl cl k : Nat) (acc : List Rn) (r : Rn), gk + k = nh ∧ vl = .slice Al nl cl ∧ vi = .int .i64 (k : Int) ∧ OutSt w X B base Ah nh ch H Al nl cl acc r wr ∧ tot = acc ++ piecesL r (H.drop k) ∧ r.1 < two64 ∧ r.2 < two64 ∧ nl ≤ 1000000 + k

/-! ### how many runs Less answers -/
theorem reachL_len (L : List Rn) (m : Nat) : (reachL L m).length ≤ L.length := by rw [reachL_drop, List.length_drop]; omega
theorem pieces_len2 (hs : List Rn) : ∀ (r : Rn) (m : Nat), r.2 < m → (piecesL r hs).length + (reachL hs m).length ≤ hs.length + 1 := by
  induction hs with
  | nil => intro r m _; simp [piecesL, reachL]
  | cons h hs ih =>
    intro r m hm
    have h1 := reachL_len (h :: hs) m
    have h2 := ih (h.2 + 1, r.2) m hm
    simp only [List.length_cons] at h1 ⊢
    rw [piecesL]
    by_cases ha : r.2 < h.1
    · rw [if_pos ha]; simp; omega
    · rw [if_neg ha, List.length_append]
      by_cases hb : r.2 ≤ h.2
      · rw [if_pos hb]; split <;> simp <;> omega
      · rw [if_neg hb, reachL_lo (by omega)]; split <;> simp <;> omega
theorem lessGo_len : ∀ (s hs acc : List Rn), Canon s → (lessGo acc s hs).length ≤ acc.length + s.length + (match s with | [] => 0 | r :: _ => (reachL hs r.1).length)
  | [], hs, acc, _ => by simp [lessGo]
  | r :: s, hs, acc, hc => by
    rw [lessGo]
    have ih := lessGo_len s (reachL hs r.1) (acc ++ piecesL r (reachL hs r.1)) hc.tail
    refine Nat.le_trans ih ?_
    simp only [List.length_append, List.length_cons]
    rcases s with _ | ⟨r', s⟩
    · have := pieces_len (reachL hs r.1) r
      simp only [List.length_nil]
      omega
    · have h1 := (List.pairwise_cons.1 hc.far).1 r' List.mem_cons_self
      have h2 := pieces_len2 (reachL hs r.1) r r'.1 (by omega)
      simp only [List.length_cons]
      omega
theorem less_len {s t : List Rn} (hs : Okl s) : (lessL s t).length ≤ s.length + t.length := by
  have h := lessGo_len s t [] hs.can
  unfold lessL
  rcases s with _ | ⟨r, s⟩
  · simp only [List.length_nil] at h ⊢; omega
  · have := reachL_len t r.1
    simp only [List.length_nil] at h
    omega

def LessRel (w : World) (B base n : Nat) (S tot : List Rn) (gk : Nat) (vl vh vi : Value) (wr : World) : Prop :=
  ∃ (Al Ah : Option Addr) (nl cl nh ch k : Nat) (acc H : List Rn), gk + k = n ∧ vl = .slice Al nl cl ∧ vh = .slice Ah nh ch ∧ vi = .int .i64 (k : Int) ∧ Own wr base Al nl cl acc ∧ Rs wr B Ah nh ch H ∧ Canon H ∧ nh ≤ 900 ∧
    tot = lessGo acc (S.drop k) H ∧ nl ≤ 1000 * k ∧ Below base w wr ∧ base ≤ wr.heap.size

end Go.Proofs.YtlkcnpmgafckoaaDoor

/-! ## RunsCut -/
namespace Go.Proofs.YtlkcnpmgafckoaaDoor
open Go.RowKit

def belowL (L : List Rn) (v : Nat) : List Rn := lessL L (spanL [] v (two64 - 1))
def fromL (L : List Rn) (v : Nat) : List Rn := if v = 0 then L else lessL L (spanL [] 0 (v - 1))
theorem span1_len (f t : Nat) (hf : f < two64) (ht : t < two64) : (spanL [] f t).length ≤ 1 := span_len Okl.nil hf ht

end Go.Proofs.YtlkcnpmgafckoaaDoor

/-! ## RunsFacts -/
namespace Go.Proofs.YtlkcnpmgafckoaaDoor
theorem Okl.mem_lt {L : List Rn} (h : Okl L) {x : Nat} (hx : memR L x) : x < two64 := by
  obtain ⟨r, hr, _, h2⟩ := hx
  have := (h.lt r hr).2
  omega
theorem okl_ext {L M : List Rn} (hL : Okl L) (hM : Okl M) (h : ∀ x, memR L x ↔ memR M x) : L = M := canon_ext L M hL.can hM.can h
theorem max_lt : two64 - 1 < two64 := by unfold two64; omega
theorem span1_ok {f t : Nat} (hf : f < two64) (ht : t < two64) : Okl (spanL [] f t) := span_ok Okl.nil hf ht
theorem span1_mem {f t : Nat} (hf : f < two64) (ht : t < two64) (x : Nat) : memR (spanL [] f t) x ↔ f ≤ x ∧ x ≤ t := by
  rw [span_mem Okl.nil hf ht]
  simp [memR_nil]
theorem below_ok {L : List Rn} (h : Okl L) {v : Nat} (hv : v < two64) : Okl (belowL L v) := less_ok h (span1_ok hv max_lt)
theorem below_mem {L : List Rn} (h : Okl L) {v : Nat} (hv : v < two64) (x : Nat) : memR (belowL L v) x ↔ memR L x ∧ x < v := by
  unfold belowL
  rw [less_mem h (span1_ok hv max_lt), span1_mem hv max_lt]
  constructor
  · rintro ⟨h1, h2⟩
    have := h.mem_lt h1
    exact ⟨h1, by omega⟩
  · rintro ⟨h1, h2⟩
    exact ⟨h1, by omega⟩
theorem from_ok {L : List Rn} (h : Okl L) {v : Nat} (hv : v < two64) : Okl (fromL L v) := by
  unfold fromL
  split
  · exact h
  · exact less_ok h (span1_ok (by unfold two64; omega) (by omega))
theorem from_mem {L : List Rn} (h : Okl L) {v : Nat} (hv : v < two64) (x : Nat) : memR (fromL L v) x ↔ memR L x ∧ v ≤ x := by
  unfold fromL
  split
  · subst_vars
    exact ⟨fun h => ⟨h, Nat.zero_le _⟩, fun h => h.1⟩
  · rw [less_mem h (span1_ok (by unfold two64; omega) (by omega)), span1_mem (by unfold two64; omega) (by omega)]
    constructor
    · rintro ⟨h1, h2⟩
      exact ⟨h1, by omega⟩
    · rintro ⟨h1, h2⟩
      exact ⟨h1, by omega⟩
theorem from_len {L : List Rn} (h : Okl L) {v : Nat} (hv : v < two64) : (fromL L v).length ≤ L.length + 1 := by
  unfold fromL
  split
  · omega
  · have h1 := less_len (t := spanL [] 0 (v - 1)) h
    have h2 := span1_len 0 (v - 1) (by unfold two64; omega) (by omega)
    omega
theorem below_len {L : List Rn} (h : Okl L) {v : Nat} (hv : v < two64) : (belowL L v).length ≤ L.length + 1 := by
  unfold belowL
  have h1 := less_len (t := spanL [] v (two64 - 1)) h
  have h2 := span1_len v (two64 - 1) hv max_lt
  omega

/-! ### gaps -/
theorem gap_spec {L : List Rn} (h : Okl L) {n : Nat} (hn : n < two64) :
    (gapL L n = (0, false) ∧ ∀ x, n ≤ x → x < two64 → memR L x) ∨ ∃ g, gapL L n = (g, true) ∧ n ≤ g ∧ g < two64 ∧ ¬ memR L g ∧ ∀ x, n ≤ x → x < g → memR L x := by
  obtain ⟨h1, h2, h3, _⟩ := reachL_ok h n
  unfold gapL
  cases hr : reachL L n with
  | nil =>
    right
    refine ⟨n, rfl, Nat.le_refl _, hn, fun hm => ?_, fun x hx hy => by omega⟩
    have := (h3 n (Nat.le_refl _)).2 hm
    rw [hr] at this
    exact memR_nil _ this
  | cons r R =>
    rw [hr] at h1 h2 h3
    have hr2 := h2 r List.mem_cons_self
    have hrl := (h1.lt r List.mem_cons_self).2
    simp only
    by_cases hc : n < r.1
    · rw [if_pos hc]
      right
      refine ⟨n, rfl, Nat.le_refl _, hn, fun hm => ?_, fun x hx hy => by omega⟩
      have := h1.can.least ((h3 n (Nat.le_refl _)).2 hm)
      omega
    · rw [if_neg hc]
      by_cases hm : r.2 = two64 - 1
      · rw [if_pos hm]
        left
        refine ⟨rfl, fun x hx hy => (h3 x hx).1 (memR_cons.2 (.inl ⟨by omega, by omega⟩))⟩
      · rw [if_neg hm]
        right
        refine ⟨r.2 + 1, rfl, by omega, by omega, fun hq => ?_, fun x hx hy => (h3 x hx).1 (memR_cons.2 (.inl ⟨by omega, by omega⟩))⟩
        rcases memR_cons.1 ((h3 (r.2 + 1) (by omega)).2 hq) with hq | hq
        · omega
        · have := h1.can.above hq
          omega
theorem hasL_true {L : List Rn} (h : Okl L) {n : Nat} (hm : memR L n) : hasL L n = true := (hasL_iff h n).2 hm
theorem hasL_false {L : List Rn} (h : Okl L) {n : Nat} (hm : ¬ memR L n) : hasL L n = false := by
  rw [Bool.eq_false_iff]
  exact fun hq => hm ((hasL_iff h n).1 hq)
/-- All from n on. -/
theorem gap_none {L : List Rn} (h : Okl L) {n : Nat} (hn : n < two64) (ha : ∀ x, n ≤ x → x < two64 → memR L x) : fromL L n = spanL [] n (two64 - 1) :=
  okl_ext (from_ok h hn) (span1_ok hn max_lt) fun x => by
    rw [from_mem h hn, span1_mem hn max_lt]
    constructor
    · rintro ⟨h1, h2⟩
      have := h.mem_lt h1
      exact ⟨h2, by omega⟩
    · rintro ⟨h1, h2⟩
      have := max_lt
      exact ⟨ha x h1 (by omega), h1⟩
/-- All from n up to the gap. -/
theorem gap_some {L : List Rn} (h : Okl L) {n g : Nat} (hng : n < g) (hg : g < two64) (ha : ∀ x, n ≤ x → x < g → memR L x) : belowL (fromL L n) g = spanL [] n (g - 1) :=
  okl_ext (below_ok (from_ok h (by omega)) hg) (span1_ok (by omega) (by omega)) fun x => by
    rw [below_mem (from_ok h (by omega)) hg, from_mem h (by omega), span1_mem (by omega) (by omega)]
    constructor
    · rintro ⟨⟨h1, h2⟩, h3⟩
      exact ⟨h2, by omega⟩
    · rintro ⟨h1, h2⟩
      exact ⟨⟨ha x h1 (by omega), h1⟩, by omega⟩
end Go.Proofs.YtlkcnpmgafckoaaDoor

/-! ## RunsEq -/
namespace Go.Proofs.YtlkcnpmgafckoaaDoor
open Go.RowKit

def sameR (L M : List Rn) : Bool := decide (L = M)
theorem take_eq_succR {l m : List Rn} {j : Nat} {x : Rn} (h1 : l[j]? = some x) (h2 : m[j]? = some x) (h : l.take j = m.take j) : l.take (j + 1) = m.take (j + 1) := by
  rw [List.take_add_one, List.take_add_one, h, h1, h2]
def SameRelR (w : World) (l m : List Rn) (k : Nat) (i : Value) (wr : World) : Prop :=
  ∃ (j q : Nat), k + j = l.length ∧ i = .int .i64 (j : Int) ∧ wr = w.drewN q ∧ l.take j = m.take j

theorem eqIn_eqR (a b : Rn) (w : World) : (Op.equalIn 10000 77 (.agg #[.int .u64 (a.1 : Int), .int .u64 (a.2 : Int)]) (.agg #[.int .u64 (b.1 : Int), .int .u64 (b.2 : Int)])).run Tryd.prog w = .ok (decide (a = b)) w := by
  have hS : Tryd.prog.underlying 77 = some (.struct (Tryd.prog.fieldsOf 77)) := by kernel_rfl
  have hp : Tryd.prog.stoodInHeld 77 = false := by kernel_rfl
  have u3 := Tryd.underlying22
  have a3 := Tryd.isAgg22
  have z3 := Tryd.sizeOf22
  rw [show (10000 : Nat) = 9999 + 1 from rfl, run_equalIn_agg w 9999 77 _ _ hS hp]
  simp only [Program.fieldsOf, Tryd.underlying77]
  go_simp
  obtain ⟨a1, a2⟩ := a
  obtain ⟨b1, b2⟩ := b
  by_cases h1 : a1 = b1 <;> by_cases h2 : a2 = b2 <;> simp [h1, h2] <;> omega
theorem guard_eqR : Tryd.prog.eqGuardType Tryd.prog.depth 77 = false := by kernel_rfl
set_option maxRecDepth 100000 in
set_option maxHeartbeats 400000 in
theorem eqR_any (w : World) (B : Nat) (A A' : Option Addr) (n c n' c' : Nat) (l l' : List Rn) (hs : Rs w B A n c l) (hs' : Rs w B A' n' c' l') :
    Calls Tryd.prog 31 #[.slice A n c, .slice A' n' c'] w fun e w' => e = .returned (.bool (sameR l l')) ∧ ∃ q, w' = w.drewN q := by
  have hle := hs.sn.le
  have hmax := hs.sn.max
  have hle' := hs'.sn.le
  have hmax' := hs'.sn.max
  unfold maxLen at hmax hmax'
  have hlen := Lib.hid hs.len
  have hlen' := Lib.hid hs'.len
  have hG := guard_eqR
  by_cases hnn : n = n'
  · subst hnn
    have HS := Lib.hid hs; clear hs
    have HS' := Lib.hid hs'; clear hs'
    have hne : ((n : Int) != (n : Int)) = false := by simp
    go_enter Tryd.func31, Tryd.ntmps31
    go_wp2
    go_loopg [13] n (fun k i wr => SameRelR w l l' k i wr)
    case atStart => exact ⟨0, 0, by have := hlen.out; omega, rfl, rfl, rfl⟩
    case round =>
      obtain ⟨j, q, hj, rfl, rfl, hq⟩ := hrel
      have HJ := Lib.hid hj; clear hj
      have HQ := Lib.hid hq; clear hq
      by_cases hlt : j < n
      · obtain ⟨b, o, x, rfl, _, hx, hc0, hc1, _, _⟩ := HS.out.at_ hlt
        obtain ⟨b', o', x', rfl, _, hx', hc0', hc1', _, _⟩ := HS'.out.at_ hlt
        have HX := Lib.hid hx; clear hx
        have HX' := Lib.hid hx'; clear hx'
        have hj0 : (0 : Int) ≤ (j : Int) := by omega
        have hjn : (j : Int) < (n : Int) := by omega
        have he := eqIn_eqR x x'
        by_cases hxx : x = x'
        · rw [decide_eq_true hxx] at he
          have HXX := Lib.hid hxx; clear hxx
          go_wp2
          go_quiet (fail)
          go_wp2
          go_roundg (gk - 1)
          case measure => have := HJ.out; have := hlen.out; omega
          case rel => exact ⟨j + 1, _, by have := HJ.out; have := hlen.out; omega, by go_num, rfl, take_eq_succR HX.out (by rw [HX'.out, HXX.out]) HQ.out⟩
        · rw [decide_eq_false hxx] at he
          have HXX := Lib.hid hxx; clear hxx
          go_wp2
          go_quiet (fail)
          go_wp2
          go_ret
          have : sameR l l' = false := by
            unfold sameR
            rw [decide_eq_false_iff_not]
            rintro rfl
            have h1 := HX.out
            rw [HX'.out] at h1
            injection h1 with h1
            exact HXX.out h1.symm
          exact ⟨by rw [this]; rfl, _, World.drewN_drewN ..⟩
      · have hjj : j = n := by have := HJ.out; have := hlen.out; omega
        have : sameR l l' = true := by
          have h1 := HQ.out
          rw [List.take_of_length_le (by have := hlen.out; omega), List.take_of_length_le (by have := hlen'.out; omega)] at h1
          unfold sameR
          rw [h1]
          simp
        have HT := Lib.hid this
        clear this hjj
        go_wp2
        go_ret
        exact ⟨by rw [HT.out]; rfl, _, rfl⟩
  · have hne : ((n : Int) != (n' : Int)) = true := by simp; omega
    go_enter Tryd.func31, Tryd.ntmps31
    go_wp2
    go_ret
    have : sameR l l' = false := by
      unfold sameR
      rw [decide_eq_false_iff_not]
      rintro rfl
      exact hnn (hlen.out.symm.trans hlen'.out)
    exact ⟨by rw [this]; rfl, 0, rfl⟩

theorem eqIn_refSameR (a b : Rn) (w : World) : (Op.equalIn 10000 76 (.agg #[.int .u64 (a.1 : Int), .int .u64 (a.2 : Int)]) (.agg #[.int .u64 (b.1 : Int), .int .u64 (b.2 : Int)])).run Tryd.prog w = .ok (decide (a = b)) w := by
  have hS : Tryd.prog.underlying 76 = some (.struct (Tryd.prog.fieldsOf 76)) := by kernel_rfl
  have hp : Tryd.prog.stoodInHeld 76 = false := by kernel_rfl
  have u3 := Tryd.underlying22
  have a3 := Tryd.isAgg22
  have z3 := Tryd.sizeOf22
  rw [show (10000 : Nat) = 9999 + 1 from rfl, run_equalIn_agg w 9999 76 _ _ hS hp]
  simp only [Program.fieldsOf, Tryd.underlying76]
  go_simp
  obtain ⟨a1, a2⟩ := a
  obtain ⟨b1, b2⟩ := b
  by_cases h1 : a1 = b1 <;> by_cases h2 : a2 = b2 <;> simp [h1, h2] <;> omega
theorem guard_refSameR : Tryd.prog.eqGuardType Tryd.prog.depth 76 = false := by kernel_rfl
set_option maxRecDepth 100000 in
set_option maxHeartbeats 400000 in
theorem refSameR_any (w : World) (B : Nat) (A A' : Option Addr) (n c n' c' : Nat) (l l' : List Rn) (hs : Rs w B A n c l) (hs' : Rs w B A' n' c' l') :
    Calls Tryd.prog 28 #[.slice A n c, .slice A' n' c'] w fun e w' => e = .returned (.bool (sameR l l')) ∧ ∃ q, w' = w.drewN q := by
  have hle := hs.sn.le
  have hmax := hs.sn.max
  have hle' := hs'.sn.le
  have hmax' := hs'.sn.max
  unfold maxLen at hmax hmax'
  have hlen := Lib.hid hs.len
  have hlen' := Lib.hid hs'.len
  have hG := guard_refSameR
  by_cases hnn : n = n'
  · subst hnn
    have HS := Lib.hid hs; clear hs
    have HS' := Lib.hid hs'; clear hs'
    have hne : ((n : Int) != (n : Int)) = false := by simp
    go_enter Tryd.func28, Tryd.ntmps28
    go_wp2
    go_loopg [13] n (fun k i wr => SameRelR w l l' k i wr)
    case atStart => exact ⟨0, 0, by have := hlen.out; omega, rfl, rfl, rfl⟩
    case round =>
      obtain ⟨j, q, hj, rfl, rfl, hq⟩ := hrel
      have HJ := Lib.hid hj; clear hj
      have HQ := Lib.hid hq; clear hq
      by_cases hlt : j < n
      · obtain ⟨b, o, x, rfl, _, hx, hc0, hc1, _, _⟩ := HS.out.at_ hlt
        obtain ⟨b', o', x', rfl, _, hx', hc0', hc1', _, _⟩ := HS'.out.at_ hlt
        have HX := Lib.hid hx; clear hx
        have HX' := Lib.hid hx'; clear hx'
        have hj0 : (0 : Int) ≤ (j : Int) := by omega
        have hjn : (j : Int) < (n : Int) := by omega
        have he := eqIn_refSameR x x'
        by_cases hxx : x = x'
        · rw [decide_eq_true hxx] at he
          have HXX := Lib.hid hxx; clear hxx
          go_wp2
          go_quiet (fail)
          go_wp2
          go_roundg (gk - 1)
          case measure => have := HJ.out; have := hlen.out; omega
          case rel => exact ⟨j + 1, _, by have := HJ.out; have := hlen.out; omega, by go_num, rfl, take_eq_succR HX.out (by rw [HX'.out, HXX.out]) HQ.out⟩
        · rw [decide_eq_false hxx] at he
          have HXX := Lib.hid hxx; clear hxx
          go_wp2
          go_quiet (fail)
          go_wp2
          go_ret
          have : sameR l l' = false := by
            unfold sameR
            rw [decide_eq_false_iff_not]
            rintro rfl
            have h1 := HX.out
            rw [HX'.out] at h1
            injection h1 with h1
            exact HXX.out h1.symm
          exact ⟨by rw [this]; rfl, _, World.drewN_drewN ..⟩
      · have hjj : j = n := by have := HJ.out; have := hlen.out; omega
        have : sameR l l' = true := by
          have h1 := HQ.out
          rw [List.take_of_length_le (by have := hlen.out; omega), List.take_of_length_le (by have := hlen'.out; omega)] at h1
          unfold sameR
          rw [h1]
          simp
        have HT := Lib.hid this
        clear this hjj
        go_wp2
        go_ret
        exact ⟨by rw [HT.out]; rfl, _, rfl⟩
  · have hne : ((n : Int) != (n' : Int)) = true := by simp; omega
    go_enter Tryd.func28, Tryd.ntmps28
    go_wp2
    go_ret
    have : sameR l l' = false := by
      unfold sameR
      rw [decide_eq_false_iff_not]
      rintro rfl
      exact hnn (hlen.out.symm.trans hlen'.out)
    exact ⟨by rw [this]; rfl, 0, rfl⟩

theorem below_drewN' (w : World) (q : Nat) : Below w.heap.size w (w.drewN q) := below_drewN (Below.refl _ _) q
theorem refSameR_says (w : World) (A A' : Option Addr) (n c n' c' : Nat) (l l' : List Rn) (hs : Rs w w.heap.size A n c l) (hs' : Rs w w.heap.size A' n' c' l') :
    Calls Tryd.prog 28 #[.slice A n c, .slice A' n' c'] w (Says w (.bool (sameR l l'))) :=
  (refSameR_any w w.heap.size A A' n c n' c' l l' hs hs').mono fun _ _ ⟨he, q, hw⟩ => ⟨he, hw ▸ below_drewN' w q⟩
/-! ### Clone, Runs -/
theorem own_noneR (w : World) : (w.alloc (.cells #[] 77)).ownsRow w.heap.size 77 2 (.slice (some ⟨w.heap.size, 0, none⟩) 0 0) 0 (rvs []) :=
  ⟨rfl, .inr ⟨w.heap.size, 0, _, rfl, Nat.le_refl _, heap_alloc_new w _, Nat.le_refl _, by unfold maxLen; omega, rfl, rfl⟩⟩
theorem eqIn_nilR (w : World) (d : Nat) (a : Option Addr) (l c : Nat) : (Op.equalIn (d + 1) 23 (.slice a l c) (.slice none 0 0)).run Tryd.prog w = .ok a.isNone w := by
  cases a <;> simp [Op.equalIn, run_underlying Tryd.underlying23]
theorem eql_nilR (w : World) (a : Option Addr) (l c : Nat) : (binOp .eql 23 (.slice a l c) (.slice none 0 0)).run Tryd.prog w = .ok (.bool a.isNone) w := by
  have h : (Op.equal 23 (.slice a l c) (.slice none 0 0)).run Tryd.prog w = .ok a.isNone w := eqIn_nilR w 9999 a l c
  simp [binOp, h]
theorem SaysOwn.of {w w1 w' : World} {L : List Rn} {e : Ending} (h : SaysOwn w1 w1.heap.size L e w') (hb : Below w.heap.size w w1) : SaysOwn w w.heap.size L e w' := by
  obtain ⟨A, n, c, he, hown, hbel⟩ := h
  have hz := hb.size
  refine ⟨A, n, c, he, ⟨hown.1, ?_⟩, hb.trans (hbel.mono hz)⟩
  rcases hown.2 with hn | ⟨g, cap, cur, hv, hbg, rest⟩
  · exact .inl hn
  · exact .inr ⟨g, cap, cur, hv, Nat.le_trans hz hbg, rest⟩
end Go.Proofs.YtlkcnpmgafckoaaDoor

/-! ## RunsMake -/
namespace Go.Proofs.YtlkcnpmgafckoaaDoor
open Go.RowKit

/-- The set that has just these runs, or none. -/
def SaysMake (w : World) (l : List Rn) (e : Ending) (w' : World) : Prop :=
  (Canon l ∧ ∃ A n c, e = .returned (.tuple #[.agg #[.slice A n c], .bool true]) ∧ St w' w'.heap.size A n c l ∧ (∀ b o, A = some ⟨b, o, none⟩ → w.heap.size < b) ∧ Below w.heap.size w w') ∨
  (¬ Canon l ∧ e = .returned (.tuple #[.agg #[.slice none 0 0], .bool false]) ∧ Below w.heap.size w w')
theorem canon_take {L : List Rn} (h : Canon L) (k : Nat) : Canon (L.take k) := ⟨List.Pairwise.sublist (List.take_sublist _ _) h.far, fun q hq => h.ok q (List.mem_of_mem_take hq)⟩
theorem canon_one_more {l : List Rn} {k : Nat} {r : Rn} (h : Canon (l.take k)) (hr : l[k]? = some r) (ho : r.1 ≤ r.2) (hp : ∀ q, k ≠ 0 → l[k - 1]? = some q → q.2 + 1 < r.1) : Canon (l.take (k + 1)) := by
  rw [List.take_add_one, hr]
  refine canon_snoc h ho fun q hq => ?_
  rcases Nat.eq_zero_or_pos k with h0 | h0
  · subst h0; simp at hq
  · obtain ⟨m, rfl⟩ : ∃ m, k = m + 1 := ⟨k - 1, by omega⟩
    obtain ⟨hk, _⟩ := List.getElem?_eq_some_iff.1 hr
    have hl : l[m]? = some l[m] := List.getElem?_eq_getElem (by omega)
    have h1 := hp l[m] (by omega) (by simp)
    rw [List.take_add_one, hl] at h hq
    obtain ⟨_, hf, hok⟩ := canon_init h
    rcases List.mem_append.1 hq with hq | hq
    · have := hf q hq
      omega
    · simp at hq
      subst hq
      exact h1
def MakeRel (w : World) (l : List Rn) (gk : Nat) (vi : Value) (wr : World) : Prop :=
  ∃ k : Nat, gk + k = l.length ∧ vi = .int .i64 (k : Int) ∧ Canon (l.take k) ∧ Below w.heap.size w wr
set_option maxRecDepth 100000 in
set_option maxHeartbeats 2000000 in
theorem make_any (w : World) (A : Option Addr) (n c : Nat) (l : List Rn) (hs : Rs w w.heap.size A n c l) (hn : n ≤ 100000) :
    Calls Tryd.prog 88 #[.slice A n c] w (SaysMake w l) := by
  obtain ⟨i0, hi0, hz0, hz1, hz2⟩ := info_parts run_info
  have H := Lib.hid hs
  have HLEN : Hid (l.length = n) := hs.len
  have HLT := Lib.hid hs.lt
  clear hs
  go_enter Tryd.func88, Tryd.ntmps88
  go_wp2
  have hb1 := below_box w (.cells #[.slice none 0 0] 131)
  have hR : (w.alloc (.cells #[.slice none 0 0] 131)).heap[w.heap.size]? = some (.cells #[.slice none 0 0] 131 (0, 0)) := heap_alloc_new w _
  have hz : w.heap.size < (w.alloc (.cells #[.slice none 0 0] 131)).heap.size := by simp
  have H1 := Lib.hid (H.out.alloc (Nat.le_refl _) (.cells #[.slice none 0 0] 131))
  generalize w.alloc (.cells #[.slice none 0 0] 131) = w1 at *
  have HR := Lib.hid hR
  clear hR
  go_loopg [8] n (fun gk vi wr => MakeRel w1 l gk vi wr)
  case atStart => exact ⟨0, by have := HLEN.out; omega, rfl, ⟨List.Pairwise.nil, fun q hq => (by cases hq)⟩, Below.refl _ _⟩
  case round =>
    obtain ⟨k, hg, rfl, hcan, hbel⟩ := hrel
    have HG := Lib.hid hg
    have HC := Lib.hid hcan
    have HBW : Hid (Below w.heap.size w wr) := hb1.trans (hbel.mono (by omega))
    have hrr := (hbel.block w.heap.size hz).trans HR.out
    have hcr : wr.cell? ⟨w.heap.size, 0, none⟩ = some (.slice none 0 0) := by rw [cell_of_row wr _ 0 _ _ _ hrr]; rfl
    have hfr := frz_row (i := 0) hrr
    have hzr : w.heap.size < wr.heap.size := Nat.lt_of_lt_of_le hz hbel.size
    have hzle : w.heap.size ≤ w1.heap.size := Nat.le_of_lt hz
    clear hg hcan hrr
    have hsr := H1.out.below hbel hzle
    have HSR := Lib.hid hsr
    by_cases hk : k < n
    · have hkI : (k : Int) < (n : Int) := by omega
      have hk0 : (0 : Int) ≤ (k : Int) := by omega
      obtain ⟨b, o, r, rfl, hbB, hx, hq0, hq1, h1, h2⟩ := hsr.at_ hk
      have HX := Lib.hid hx
      have HB2 : Hid (Below w1.heap.size w1 (wr.alloc (.cells #[.int .u64 (r.1 : Int), .int .u64 (r.2 : Int)] 77))) := hbel.trans ((below_box wr _).mono hbel.size)
      have HB3 : Hid (Below w.heap.size w (wr.alloc (.cells #[.int .u64 (r.1 : Int), .int .u64 (r.2 : Int)] 77))) := HBW.out.trans ((below_box wr _).mono HBW.out.size)
      have HC6 : Hid (∀ wx, Below wr.heap.size wr wx → (wx.setCell ⟨w.heap.size, 0, none⟩ (.slice none 0 0)).cell? ⟨w.heap.size, 0, none⟩ = some (.slice none 0 0)) := fun wx hw => World.cell?_setCell_same _ _ _ ((hw.cell (p := ⟨w.heap.size, 0, none⟩) hzr).trans hcr)
      clear hx hsr
      by_cases h3 : r.2 < r.1
      · have h3I : (r.2 : Int) < (r.1 : Int) := by omega
        have HNC : Hid (¬ Canon l) := fun h => by have := h.ok r (List.mem_of_getElem? HX.out); omega
        go_wp2_with fail
        go_quiet (fail)
        go_wp2
        have hc6 := HC6.out _ (below_drewN (below_box wr (.cells #[.int .u64 (r.1 : Int), .int .u64 (r.2 : Int)] 77)) nq)
        refine bodyPost_ret (v := .tuple #[.agg #[.slice none 0 0], .bool false]) (by simp [results, Tryd.results88, go_sem, hc6]) rfl ?_
        exact .inr ⟨HNC.out, rfl, (below_drewN HB3.out nq).setCell (Nat.le_refl _) _⟩
      · have h3I : decide ((r.2 : Int) < (r.1 : Int)) = false := by simp; omega
        have h3N : decide (r.2 < r.1) = false := by simp; omega
        rcases Nat.eq_zero_or_pos k with h0 | h0
        · have h0I : decide ((0 : Int) < (k : Int)) = false := by simp; omega
          have h0N : decide (0 < k) = false := by simp; omega
          have HK0 := Lib.hid h0
          clear h0
          go_wp2_with fail
          go_quiet (fail)
          go_wp2
          go_roundg (gk - 1)
          case measure => have := HG.out; have := HLEN.out; omega
          case rel => exact ⟨k + 1, by have := HG.out; have := HLEN.out; omega, by go_num, canon_one_more HC.out HX.out (by omega) (fun q h => absurd HK0.out h), below_drewN HB2.out _⟩
        · obtain ⟨m, hm⟩ : ∃ m, k = m + 1 := ⟨k - 1, by omega⟩
          have h0I : (0 : Int) < (k : Int) := by omega
          have hwm : IntKind.i64.wrap ((k : Int) - 1) = (m : Int) := by rw [IntKind.wrap_i64]; omega
          have hm0 : (0 : Int) ≤ (m : Int) := by omega
          have hmn : (m : Int) < (n : Int) := by omega
          obtain ⟨b2, o2, q, e2, _, hxq, hp0, hp1, hq1', hq2'⟩ := HSR.out.at_ (show m < n by omega)
          injection e2 with e2
          injection e2 with e3 e4
          subst e3 e4
          have HXQ := Lib.hid hxq
          have HKM := Lib.hid hm
          clear hxq hm
          have hbw : b < wr.heap.size := Nat.lt_of_lt_of_le hbB (Nat.le_of_lt hzr)
          have hE : Ever (fun w' => (w'.cell? ⟨b, o + m * 2, none⟩ = some (.int .u64 (q.1 : Int)) ∧ w'.cell? ⟨b, o + m * 2 + 1, none⟩ = some (.int .u64 (q.2 : Int)) ∧ w'.cell? ⟨wr.heap.size, 0, none⟩ = some (.int .u64 (r.1 : Int)) ∧ w'.cell? ⟨wr.heap.size, 1, none⟩ = some (.int .u64 (r.2 : Int))) ∧ Below wr.heap.size wr w') (wr.alloc (.cells #[.int .u64 (r.1 : Int), .int .u64 (r.2 : Int)] 77)) := by
            intro w' hw
            have hb : Below wr.heap.size wr w' := (below_box wr (.cells #[.int .u64 (r.1 : Int), .int .u64 (r.2 : Int)] 77)).trans (hw.mono (by simp))
            exact ⟨⟨(hb.cell (p := ⟨b, o + m * 2, none⟩) hbw).trans hp0, (hb.cell (p := ⟨b, o + m * 2 + 1, none⟩) hbw).trans hp1, ever_cell (cell_last wr _ _ _ 0 rfl) _ hw, ever_cell (cell_last wr _ _ _ 1 rfl) _ hw⟩, hb⟩
          obtain ⟨Ps, HP⟩ : ∃ Ps : World → Prop, Hid (Ps = fun w' => (w'.cell? ⟨b, o + m * 2, none⟩ = some (.int .u64 (q.1 : Int)) ∧ w'.cell? ⟨b, o + m * 2 + 1, none⟩ = some (.int .u64 (q.2 : Int)) ∧ w'.cell? ⟨wr.heap.size, 0, none⟩ = some (.int .u64 (r.1 : Int)) ∧ w'.cell? ⟨wr.heap.size, 1, none⟩ = some (.int .u64 (r.2 : Int))) ∧ Below wr.heap.size wr w') := ⟨_, rfl⟩
          have HN : Hid (∀ w', Ps w' → (w'.cell? ⟨b, o + m * 2, none⟩ = some (.int .u64 (q.1 : Int)) ∧ w'.cell? ⟨b, o + m * 2 + 1, none⟩ = some (.int .u64 (q.2 : Int)) ∧ w'.cell? ⟨wr.heap.size, 0, none⟩ = some (.int .u64 (r.1 : Int)) ∧ w'.cell? ⟨wr.heap.size, 1, none⟩ = some (.int .u64 (r.2 : Int))) ∧ Below wr.heap.size wr w') := by rw [HP.out]; exact fun _ h => h
          replace hE : Ever Ps (wr.alloc (.cells #[.int .u64 (r.1 : Int), .int .u64 (r.2 : Int)] 77)) := by rw [HP.out]; exact hE
          have HA : Hid (∀ w', Ps w' → Calls Tryd.prog 93 #[.agg #[.int .u64 (q.1 : Int), .int .u64 (q.2 : Int)], .agg #[.int .u64 (r.1 : Int), .int .u64 (r.2 : Int)]] w' (Says w' (.bool (apartB q r)))) := fun w' _ => apart_any w' q r ⟨hq1', hq2'⟩ ⟨h1, h2⟩
          by_cases hap : q.2 + 1 < r.1
          · rw [show apartB q r = true from by simp [apartB, hap]] at HA
            go_wp2_with fail
            have hE2 := hE.drewN 1
            clear hE HP hp0 hp1 hq0 hq1
            generalize wr.alloc (.cells #[.int .u64 (r.1 : Int), .int .u64 (r.2 : Int)] 77) = wb at *
            go_region_held3 (fun w' => (w'.cell? ⟨b, o + m * 2, none⟩ = some (.int .u64 (q.1 : Int)) ∧ w'.cell? ⟨b, o + m * 2 + 1, none⟩ = some (.int .u64 (q.2 : Int)) ∧ w'.cell? ⟨wr.heap.size, 0, none⟩ = some (.int .u64 (r.1 : Int)) ∧ w'.cell? ⟨wr.heap.size, 1, none⟩ = some (.int .u64 (r.2 : Int))) ∧ Ever Ps w') (first | exact ⟨(HN.out _ hE2.now).1, hE2⟩) (first
              | (go_at_call 93; with_reducible refine calls_ever (Ps := Ps) (by assumption) HA.out ?_; clear hE2; intro w2 hE2))
            have HBB := Lib.hid (HN.out _ hE2.now).2
            clear hE2
            go_wp2
            go_roundg (gk - 1)
            case measure => have := HG.out; have := HLEN.out; omega
            case rel => exact ⟨k + 1, by have := HG.out; have := HLEN.out; omega, by go_num, canon_one_more HC.out HX.out (by omega) (fun p h hp => by rw [HKM.out] at hp; have := HXQ.out; simp only [Nat.add_sub_cancel] at hp; rw [this] at hp; injection hp with hp; subst hp; exact hap), hbel.trans (HBB.out.mono hbel.size)⟩
          · rw [show apartB q r = false from by simp [apartB]; omega] at HA
            have HNC : Hid (¬ Canon l) := fun h => by
              have h5 := List.pairwise_iff_getElem.1 h.far m k (by have := HLEN.out; omega) (by have := HLEN.out; omega) (by have := HKM.out; omega)
              have e5 := HXQ.out
              have e6 := HX.out
              rw [List.getElem?_eq_getElem (by have := HLEN.out; omega)] at e5 e6
              injection e5 with e5
              injection e6 with e6
              rw [e5, e6] at h5
              exact hap h5
            go_wp2_with fail
            have hE2 := hE.drewN 1
            clear hE HP hp0 hp1 hq0 hq1
            generalize wr.alloc (.cells #[.int .u64 (r.1 : Int), .int .u64 (r.2 : Int)] 77) = wb at *
            go_region_held3 (fun w' => (w'.cell? ⟨b, o + m * 2, none⟩ = some (.int .u64 (q.1 : Int)) ∧ w'.cell? ⟨b, o + m * 2 + 1, none⟩ = some (.int .u64 (q.2 : Int)) ∧ w'.cell? ⟨wr.heap.size, 0, none⟩ = some (.int .u64 (r.1 : Int)) ∧ w'.cell? ⟨wr.heap.size, 1, none⟩ = some (.int .u64 (r.2 : Int))) ∧ Ever Ps w') (first | exact ⟨(HN.out _ hE2.now).1, hE2⟩) (first
              | (go_at_call 93; with_reducible refine calls_ever (Ps := Ps) (by assumption) HA.out ?_; clear hE2; intro w2 hE2))
            have HBB := Lib.hid (HN.out _ hE2.now).2
            have hc2 : w2.cell? ⟨w.heap.size, 0, none⟩ = some (.slice none 0 0) := (HBB.out.cell (p := ⟨w.heap.size, 0, none⟩) hzr).trans hcr
            have hf2 : w2.frozen? ⟨w.heap.size, 0, none⟩ = false := (HBB.out.frozen (p := ⟨w.heap.size, 0, none⟩) hzr).trans hfr
            have hc6 := HC6.out _ HBB.out
            clear hE2
            go_wp2
            refine bodyPost_ret (v := .tuple #[.agg #[.slice none 0 0], .bool false]) (by simp [results, Tryd.results88, go_sem, hc6]) rfl ?_
            exact .inr ⟨HNC.out, rfl, (HBW.out.trans (HBB.out.mono HBW.out.size)).setCell (Nat.le_refl _) _⟩
    · have hkI : ¬ (k : Int) < (n : Int) := by omega
      have HE : Hid (l.take k = l) := List.take_of_length_le (by have := HLEN.out; omega)
      have HS2 := Lib.hid (hsr.more (Nat.le_of_lt hzr))
      clear hsr
      go_wp2_with (at_builtin; refine wpList_append_dstN _ rfl (.const (.slice none 0 0)) (.tmp 34) 23 23 rfl wr.heap.size 77 i0 _ 2 16 Tryd.underlying23 hi0 hz0 hz1 hz2 rfl none 0 0 (rvs []) rfl (.inr ⟨rfl, .inl ⟨rfl, rfl⟩⟩) _ n (rvs l) rfl (HS2.out.sn.src Tryd.underlying23 (rvs_one l)) (by omega) (by omega) (Nat.le_refl _) ?_; intro A3 c3 w3 h1 h2 h3 h4 h5 h6; have hr3 := ((h4.block w.heap.size hzr).trans (hbel.block w.heap.size hz)).trans HR.out; have hc3 : w3.cell? ⟨w.heap.size, 0, none⟩ = some (.slice none 0 0) := (by rw [cell_of_row w3 _ 0 _ _ _ hr3]; rfl); have hf3 := frz_row (i := 0) hr3; have HO3 := Lib.hid (h3 ⟨rfl, .inl ⟨rfl, rfl⟩⟩); have HB3 := Lib.hid h4; clear h1 h2 h3 h4 h5 h6 hr3)
      have hc6 : (w3.setCell ⟨w.heap.size, 0, none⟩ (.slice A3 n c3)).cell? ⟨w.heap.size, 0, none⟩ = some (.slice A3 n c3) := World.cell?_setCell_same _ _ _ hc3
      refine bodyPost_ret (v := .tuple #[.agg #[.slice A3 n c3], .bool true]) (by simp [results, Tryd.results88, go_sem, hc6]) rfl ?_
      have hown := HO3.out
      rw [show rvs [] ++ rvs l = rvs l from rfl, Nat.zero_add] at hown
      have hcn := HC.out
      rw [HE.out] at hcn
      have hst := St.of_own hown HLT.out
      have hlow : ∀ b o, A3 = some ⟨b, o, none⟩ → wr.heap.size ≤ b := fun b o e => (hown.lt b (by rw [e]; rfl)).1
      refine .inl ⟨hcn, A3, n, c3, rfl, ?_, fun b o e => by have := hlow b o e; omega, (HBW.out.trans (HB3.out.mono (Nat.le_of_lt hzr))).setCell (Nat.le_refl _) _⟩
      have hz3 : w3.heap.size ≤ (w3.setCell ⟨w.heap.size, 0, none⟩ (.slice A3 n c3)).heap.size := by simp [World.setCell]
      exact ⟨(hst.rs.off (p := ⟨w.heap.size, 0, none⟩) (fun b o e => by have := hlow b o e; show b ≠ w.heap.size; omega) _).more hz3, fun b o e => Nat.lt_of_lt_of_le (hst.lies b o e) hz3⟩
end Go.Proofs.YtlkcnpmgafckoaaDoor

/-! ## RunsHelp -/
namespace Go.Proofs.YtlkcnpmgafckoaaDoor
open Go.RowKit

theorem rrun_info : (Tryd.prog.info? 76).map (fun i => (i.zero, i.size, i.bytes)) = some (some (.agg #[.int .u64 0, .int .u64 0]), 2, 16) := by kernel_rfl
def OwnRel (w : World) (L : List Rn) (gk : Nat) (vl vi : Value) (wr : World) : Prop :=
  ∃ (k : Nat) (A : Option Addr) (n c : Nat), gk + k = L.length ∧ vl = .slice A n c ∧ vi = .int .i64 (k : Int) ∧ wr.ownsRow w.heap.size 76 2 (.slice A n c) n (rvs (L.take k)) ∧ n = k ∧ Below w.heap.size w wr
/-! ### Count -/
def cntGo (acc : Nat) : List Rn → Nat
  | [] => acc
  | r :: s => cntGo ((acc + (r.2 - r.1 + 1)) % two64) s
def cntL (L : List Rn) : Nat := if cntGo 0 L = 0 ∧ L ≠ [] then two64 - 1 else cntGo 0 L
theorem wrap_cnt (a f t : Nat) (h : f ≤ t) : IntKind.u64.wrap ((a : Int) + IntKind.u64.wrap ((t : Int) - (f : Int) + 1)) = (((a + (t - f + 1)) % two64 : Nat) : Int) := by
  unfold two64 at *
  rw [IntKind.wrap_u64, IntKind.wrap_u64]
  omega
def CntRel (w : World) (L : List Rn) (gk : Nat) (vc vi : Value) (wr : World) : Prop :=
  ∃ (k a : Nat), gk + k = L.length ∧ vc = .int .u64 (a : Int) ∧ vi = .int .i64 (k : Int) ∧ cntGo 0 L = cntGo a (L.drop k) ∧ a < two64 ∧ Below w.heap.size w wr
/-! ### set -/
def SetRel (w : World) (X : Nat) (L : List Rn) (gk : Nat) (vi : Value) (wr : World) : Prop :=
  ∃ (k : Nat) (A : Option Addr) (n c : Nat), gk + k = L.length ∧ vi = .int .i64 (k : Int) ∧ wr.heap[X]? = some (.cells #[.slice A n c] 131 (0, 0)) ∧ St wr wr.heap.size A n c (setL (L.take k)) ∧ (∀ b o, A = some ⟨b, o, none⟩ → X < b) ∧ Below w.heap.size w wr
theorem set_take_ok {L : List Rn} (h : ∀ q ∈ L, q.1 < two64 ∧ q.2 < two64) (k : Nat) : Okl (setL (L.take k)) ∧ (setL (L.take k)).length ≤ L.length := by
  obtain ⟨h1, _, h3⟩ := set_spec (L.take k) (fun q hq => h q (List.mem_of_mem_take hq))
  rw [List.length_take] at h3
  exact ⟨h1, by omega⟩
theorem setCell_row (w : World) (X : Nat) (t : TypeId) (u v : Value) (h : w.heap[X]? = some (.cells #[u] t (0, 0))) : (w.setCell ⟨X, 0, none⟩ v).heap[X]? = some (.cells #[v] t (0, 0)) := by
  simp [World.setCell, Array.getElem?_modify, h]
end Go.Proofs.YtlkcnpmgafckoaaDoor

/-! ## RunsCard -/
namespace Go.Proofs.YtlkcnpmgafckoaaDoor
def cardL : List Rn → Nat
  | [] => 0
  | r :: s => (r.2 - r.1 + 1) + cardL s
theorem cntGo_mod : ∀ (L : List Rn) (a : Nat), cntGo a L % two64 = (a + cardL L) % two64
  | [], a => by rw [cntGo, cardL]; rfl
  | r :: s, a => by
    rw [cntGo, cntGo_mod s, cardL, Nat.mod_add_mod]
    congr 1
    omega
theorem cntGo_lt : ∀ (L : List Rn) (a : Nat), a < two64 → cntGo a L < two64
  | [], a, h => by rw [cntGo]; exact h
  | r :: s, a, _ => by
    rw [cntGo]
    exact cntGo_lt s _ (Nat.mod_lt _ (by unfold two64; omega))
/-- The last number plus one bounds how many there are. -/
theorem card_top : ∀ (L : List Rn) (N : Nat), Canon L → (∀ r ∈ L, r.2 < N) → ∀ b, (∀ r ∈ L, b ≤ r.1) → b ≤ N → cardL L ≤ N - b
  | [], N, _, _, b, _, _ => by rw [cardL]; omega
  | r :: s, N, hc, hN, b, hb, hbN => by
    rw [cardL]
    have h1 := hb r List.mem_cons_self
    have h2 := hN r List.mem_cons_self
    have h3 := hc.ok r List.mem_cons_self
    have h4 := card_top s N hc.tail (fun q hq => hN q (List.mem_cons_of_mem _ hq)) (r.2 + 1) (fun q hq => by
      have := (List.pairwise_cons.1 hc.far).1 q hq
      omega) (by omega)
    omega
theorem card_le {L : List Rn} (h : Okl L) : cardL L ≤ two64 := by
  have := card_top L two64 h.can (fun r hr => (h.lt r hr).2) 0 (fun r _ => Nat.zero_le _) (Nat.zero_le _)
  omega
theorem card_pos {L : List Rn} (h : L ≠ []) : 0 < cardL L := by
  cases L with
  | nil => exact absurd rfl h
  | cons r s => rw [cardL]; omega
theorem cnt_card {L : List Rn} (h : Okl L) : cntL L = if cardL L = two64 then two64 - 1 else cardL L := by
  have h1 := cntGo_mod L 0
  have h2 := cntGo_lt L 0 (by unfold two64; omega)
  have h3 := card_le h
  rw [Nat.zero_add, Nat.mod_eq_of_lt h2] at h1
  unfold cntL
  by_cases hc : cardL L = two64
  · rw [if_pos hc]
    rw [hc, Nat.mod_self] at h1
    rw [if_pos ⟨h1, fun e => by subst e; rw [cardL] at hc; unfold two64 at hc; omega⟩]
  · rw [if_neg hc]
    rw [Nat.mod_eq_of_lt (by omega)] at h1
    rw [h1]
    by_cases hl : cardL L = 0 ∧ L ≠ []
    · have := card_pos hl.2
      omega
    · rw [if_neg hl]

/-! ### counting by membership -/
def memB (L : List Rn) (x : Nat) : Bool := L.any fun r => decide (r.1 ≤ x ∧ x ≤ r.2)
theorem memB_iff (L : List Rn) (x : Nat) : memB L x = true ↔ memR L x := by
  unfold memB memR
  rw [List.any_eq_true]
  simp
def cntP (p : Nat → Bool) : Nat → Nat
  | 0 => 0
  | N + 1 => cntP p N + if p N then 1 else 0
theorem cntP_congr {p q : Nat → Bool} : ∀ (N : Nat), (∀ x, x < N → p x = q x) → cntP p N = cntP q N
  | 0, _ => rfl
  | N + 1, h => by rw [cntP, cntP, cntP_congr N (fun x hx => h x (by omega)), h N (by omega)]
theorem cntP_split (p q : Nat → Bool) : ∀ (N : Nat), cntP p N = cntP (fun x => p x && !q x) N + cntP (fun x => p x && q x) N
  | 0 => rfl
  | N + 1 => by
    rw [cntP, cntP, cntP, cntP_split p q N]
    cases p N <;> cases q N <;> simp <;> omega
theorem cntP_or {p q : Nat → Bool} (hd : ∀ x, p x = true → q x = false) : ∀ (N : Nat), cntP (fun x => p x || q x) N = cntP p N + cntP q N
  | 0 => rfl
  | N + 1 => by
    rw [cntP, cntP, cntP, cntP_or hd N]
    have := hd N
    cases hp : p N <;> cases hq : q N <;> simp [hp, hq] at this ⊢ <;> omega
theorem cntP_run (f t : Nat) (h : f ≤ t) : ∀ (N : Nat), cntP (fun x => decide (f ≤ x ∧ x ≤ t)) N = min N (t + 1) - min N f
  | 0 => by rw [cntP]; omega
  | N + 1 => by
    rw [cntP, cntP_run f t h N]
    by_cases hc : f ≤ N ∧ N ≤ t
    · simp [hc]; omega
    · simp only [decide_eq_false hc]
      simp
      omega
theorem cntP_card (N : Nat) : ∀ (L : List Rn), Canon L → (∀ r ∈ L, r.2 < N) → cntP (memB L) N = cardL L
  | [], _, _ => by
    rw [cardL]
    have : ∀ M, cntP (memB []) M = 0 := by
      intro M
      induction M with
      | zero => rfl
      | succ M ih => rw [cntP, ih]; rfl
    exact this N
  | r :: s, hc, hN => by
    have h2 := hN r List.mem_cons_self
    have h3 := hc.ok r List.mem_cons_self
    have e : cntP (memB (r :: s)) N = cntP (fun x => decide (r.1 ≤ x ∧ x ≤ r.2) || memB s x) N := cntP_congr N fun x _ => by simp [memB]
    rw [e, cntP_or (fun x hx => by
      rw [Bool.eq_false_iff]
      intro hm
      have := hc.above ((memB_iff s x).1 hm)
      simp at hx
      omega), cntP_run r.1 r.2 h3, cntP_card N s hc.tail (fun q hq => hN q (List.mem_cons_of_mem _ hq)), cardL]
    omega
/-- What is in both, and what is in the first alone, together. -/
theorem card_split {S D B : List Rn} (hS : Okl S) (hD : Okl D) (hB : Okl B) {T : List Rn} (h1 : ∀ x, memR D x ↔ memR S x ∧ ¬ memR T x) (h2 : ∀ x, memR B x ↔ memR S x ∧ memR T x) : cardL S = cardL D + cardL B := by
  rw [← cntP_card two64 S hS.can (fun r hr => (hS.lt r hr).2), ← cntP_card two64 D hD.can (fun r hr => (hD.lt r hr).2), ← cntP_card two64 B hB.can (fun r hr => (hB.lt r hr).2),
    cntP_split (memB S) (memB T)]
  have e1 : cntP (fun x => memB S x && !memB T x) two64 = cntP (memB D) two64 := cntP_congr _ fun x _ => by
    rw [Bool.eq_iff_iff, memB_iff, h1, Bool.and_eq_true, memB_iff, Bool.not_eq_true', ← Bool.not_eq_true, memB_iff]
  have e2 : cntP (fun x => memB S x && memB T x) two64 = cntP (memB B) two64 := cntP_congr _ fun x _ => by
    rw [Bool.eq_iff_iff, memB_iff, h2, Bool.and_eq_true, memB_iff, memB_iff]
  rw [e1, e2]
theorem counts_add {S D B : List Rn} (hS : Okl S) (hD : Okl D) (hB : Okl B) {T : List Rn} (h1 : ∀ x, memR D x ↔ memR S x ∧ ¬ memR T x) (h2 : ∀ x, memR B x ↔ memR S x ∧ memR T x) :
    (cntL D + cntL B) % two64 < cntL D ∨ cntL S = (cntL D + cntL B) % two64 := by
  have hc := card_split hS hD hB h1 h2
  have hs := card_le hS
  have hp : 0 < two64 := by unfold two64; omega
  rw [cnt_card hS, cnt_card hD, cnt_card hB]
  generalize cardL S = a at *
  generalize cardL D = b at *
  generalize cardL B = d at *
  clear h1 h2 hS hD hB
  unfold two64 at *
  split <;> split <;> split <;> omega
end Go.Proofs.YtlkcnpmgafckoaaDoor

/-! ## RefRuns -/
namespace Go.Proofs.YtlkcnpmgafckoaaDoor
open Go.RowKit

theorem drop_atR {l : List Rn} {k : Nat} {r : Rn} (h : l[k]? = some r) : l.drop k = r :: l.drop (k + 1) := by
  obtain ⟨hk, rfl⟩ := List.getElem?_eq_some_iff.1 h
  exact List.drop_eq_getElem_cons hk
def HasRel (w : World) (l : List Rn) (v gk : Nat) (vi : Value) (wr : World) : Prop :=
  ∃ k : Nat, gk + k = l.length ∧ vi = .int .i64 (k : Int) ∧ memB l v = memB (l.drop k) v ∧ Below w.heap.size w wr
/-! ### lower -/
def okR (v : Nat) (r : Rn) : Prop := r.1 ≤ r.2 ∧ v ≤ r.2
/-- The best of the first k so far. -/
def Best (l : List Rn) (v k : Nat) (z : Int) : Prop :=
  (z = -1 ∧ ∀ j r, j < k → l[j]? = some r → ¬ okR v r) ∨ ∃ (b : Nat) (q : Rn), z = (b : Int) ∧ b < k ∧ l[b]? = some q ∧ okR v q ∧ ∀ j r, j < k → l[j]? = some r → okR v r → q.1 ≤ r.1
theorem Best.skip {l : List Rn} {v k : Nat} {z : Int} {r : Rn} (h : Best l v k z) (hr : l[k]? = some r) (hn : ¬ okR v r) : Best l v (k + 1) z := by
  rcases h with ⟨hz, h⟩ | ⟨b, q, hz, hb, hq, ho, h⟩
  · refine .inl ⟨hz, fun j r' hj hr' => ?_⟩
    rcases Nat.lt_or_ge j k with hjk | hjk
    · exact h j r' hjk hr'
    · obtain rfl : j = k := by omega
      rw [hr] at hr'
      injection hr' with hr'
      subst hr'
      exact hn
  · refine .inr ⟨b, q, hz, by omega, hq, ho, fun j r' hj hr' hok => ?_⟩
    rcases Nat.lt_or_ge j k with hjk | hjk
    · exact h j r' hjk hr' hok
    · obtain rfl : j = k := by omega
      rw [hr] at hr'
      injection hr' with hr'
      subst hr'
      exact absurd hok hn
theorem Best.first {l : List Rn} {v k : Nat} {r : Rn} (h : Best l v k (-1)) (hr : l[k]? = some r) (ho : okR v r) : Best l v (k + 1) (k : Int) := by
  rcases h with ⟨_, h⟩ | ⟨b, q, hz, hb, hq, ho', h⟩
  · refine .inr ⟨k, r, rfl, by omega, hr, ho, fun j r' hj hr' hok => ?_⟩
    rcases Nat.lt_or_ge j k with hjk | hjk
    · exact absurd hok (h j r' hjk hr')
    · obtain rfl : j = k := by omega
      rw [hr] at hr'
      injection hr' with hr'
      subst hr'
      exact Nat.le_refl _
  · omega
theorem Best.better {l : List Rn} {v k b : Nat} {q r : Rn} (h : Best l v k (b : Int)) (hq : l[b]? = some q) (hr : l[k]? = some r) (ho : okR v r) (hlt : r.1 < q.1) : Best l v (k + 1) (k : Int) := by
  rcases h with ⟨hz, h⟩ | ⟨b', q', hz, hb, hq', ho', h⟩
  · omega
  · obtain rfl : b = b' := by omega
    rw [hq] at hq'
    injection hq' with hq'
    subst hq'
    refine .inr ⟨k, r, rfl, by omega, hr, ho, fun j r' hj hr' hok => ?_⟩
    rcases Nat.lt_or_ge j k with hjk | hjk
    · have := h j r' hjk hr' hok
      omega
    · obtain rfl : j = k := by omega
      rw [hr] at hr'
      injection hr' with hr'
      subst hr'
      exact Nat.le_refl _
theorem Best.stay {l : List Rn} {v k b : Nat} {q r : Rn} (h : Best l v k (b : Int)) (hq : l[b]? = some q) (hr : l[k]? = some r) (hlt : ¬ r.1 < q.1) : Best l v (k + 1) (b : Int) := by
  rcases h with ⟨hz, h⟩ | ⟨b', q', hz, hb, hq', ho', h⟩
  · omega
  · obtain rfl : b = b' := by omega
    rw [hq] at hq'
    injection hq' with hq'
    subst hq'
    refine .inr ⟨b, q, rfl, by omega, hq, ho', fun j r' hj hr' hok => ?_⟩
    rcases Nat.lt_or_ge j k with hjk | hjk
    · exact h j r' hjk hr' hok
    · obtain rfl : j = k := by omega
      rw [hr] at hr'
      injection hr' with hr'
      subst hr'
      omega
def LowRel (w : World) (l : List Rn) (v gk : Nat) (vb vi : Value) (wr : World) : Prop :=
  ∃ (k : Nat) (z : Int), gk + k = l.length ∧ vb = .int .i64 z ∧ vi = .int .i64 (k : Int) ∧ Best l v k z ∧ Below w.heap.size w wr
def SaysLow (w : World) (l : List Rn) (v : Nat) (e : Ending) (w' : World) : Prop := ∃ z : Int, e = .returned (.int .i64 z) ∧ Best l v l.length z ∧ Below w.heap.size w w'
set_option maxRecDepth 100000 in
set_option maxHeartbeats 1000000 in
theorem lower_any (w : World) (A : Option Addr) (n c v : Nat) (l : List Rn) (hs : Rs w w.heap.size A n c l) :
    Calls Tryd.prog 59 #[.slice A n c, .int .u64 (v : Int)] w (SaysLow w l v) := by
  have H := Lib.hid hs
  have HLEN : Hid (l.length = n) := hs.len
  have hmax := hs.sn.max
  have hle := hs.sn.le
  unfold maxLen at hmax
  clear hs
  go_enter Tryd.func59, Tryd.ntmps59
  go_wp2
  go_loopg [5, 10] n (fun gk vb vi wr => LowRel w l v gk vb vi wr)
  case atStart => exact ⟨0, -1, by have := HLEN.out; omega, rfl, rfl, .inl ⟨rfl, fun j r hj => by omega⟩, Below.refl _ _⟩
  case round =>
    obtain ⟨k, z, hg, rfl, rfl, hbest, hbel⟩ := hrel
    have HG := Lib.hid hg
    have HBS := Lib.hid hbest
    clear hg hbest
    have hsr := H.out.below hbel (Nat.le_refl _)
    have HSR := Lib.hid hsr
    by_cases hk : k < n
    · have hkI : (k : Int) < (n : Int) := by omega
      have hk0 : (0 : Int) ≤ (k : Int) := by omega
      obtain ⟨b, o, r, rfl, hbB, hx, hq0, hq1, h1, h2⟩ := hsr.at_ hk
      have HX := Lib.hid hx
      clear hx hsr
      have HB2 : Hid (Below w.heap.size w (wr.alloc (.cells #[.int .u64 (r.1 : Int), .int .u64 (r.2 : Int)] 76))) := hbel.trans ((below_box wr _).mono hbel.size)
      by_cases h3 : r.1 ≤ r.2
      · have h3I : (r.1 : Int) ≤ (r.2 : Int) := by omega
        by_cases h4 : v ≤ r.2
        · have h4I : (v : Int) ≤ (r.2 : Int) := by omega
          rcases (show z = -1 ∨ ∃ b q, z = ((b : Nat) : Int) ∧ b < n ∧ l[b]? = some q from by
            rcases HBS.out with ⟨hz, _⟩ | ⟨b, q, hz, hb, hq, _⟩
            · exact .inl hz
            · exact .inr ⟨b, q, hz, by omega, hq⟩) with rfl | ⟨p, q, rfl, hp, hq⟩
          · go_wp2_with fail
            go_quiet (fail)
            go_wp2
            go_roundg (gk - 1)
            case measure => have := HG.out; have := HLEN.out; omega
            case rel => exact ⟨k + 1, k, by have := HG.out; have := HLEN.out; omega, rfl, by go_num, HBS.out.first HX.out ⟨h3, h4⟩, below_drewN HB2.out _⟩
          · have hp0 : (0 : Int) ≤ (p : Int) := by omega
            have hpn : (p : Int) < (n : Int) := by omega
            have hpd : decide ((p : Int) < 0) = false := by simp
            have hbw : b < wr.heap.size := Nat.lt_of_lt_of_le hbB hbel.size
            obtain ⟨b2, o2, q2, e2, _, hx2, hc0, _, _, _⟩ := HSR.out.at_ hp
            injection e2 with e2
            injection e2 with e3 e4
            subst e3 e4
            rw [hq] at hx2
            injection hx2 with hx2
            subst hx2
            have HQ := Lib.hid hq
            clear hq
            by_cases h5 : r.1 < q.1
            · have h5I : (r.1 : Int) < (q.1 : Int) := by omega
              go_wp2_with fail
              go_quiet (fail)
              go_wp2
              go_roundg (gk - 1)
              case measure => have := HG.out; have := HLEN.out; omega
              case rel => exact ⟨k + 1, k, by have := HG.out; have := HLEN.out; omega, rfl, by go_num, HBS.out.better HQ.out HX.out ⟨h3, h4⟩ h5, below_drewN HB2.out _⟩
            · have h5I : ¬ (r.1 : Int) < (q.1 : Int) := by omega
              go_wp2_with fail
              go_quiet (fail)
              go_wp2
              go_roundg (gk - 1)
              case measure => have := HG.out; have := HLEN.out; omega
              case rel => exact ⟨k + 1, p, by have := HG.out; have := HLEN.out; omega, rfl, by go_num, HBS.out.stay HQ.out HX.out h5, below_drewN HB2.out _⟩
        · have h4I : decide ((v : Int) ≤ (r.2 : Int)) = false := by simp; omega
          have h4N : decide (v ≤ r.2) = false := by simp; omega
          go_wp2_with fail
          go_quiet (fail)
          go_wp2
          go_roundg (gk - 1)
          case measure => have := HG.out; have := HLEN.out; omega
          case rel => exact ⟨k + 1, z, by have := HG.out; have := HLEN.out; omega, rfl, by go_num, HBS.out.skip HX.out (fun h => h4 h.2), below_drewN HB2.out _⟩
      · have h3I : decide ((r.1 : Int) ≤ (r.2 : Int)) = false := by simp; omega
        have h3N : decide (r.1 ≤ r.2) = false := by simp; omega
        go_wp2_with fail
        go_quiet (fail)
        go_wp2
        go_roundg (gk - 1)
        case measure => have := HG.out; have := HLEN.out; omega
        case rel => exact ⟨k + 1, z, by have := HG.out; have := HLEN.out; omega, rfl, by go_num, HBS.out.skip HX.out (fun h => h3 h.1), below_drewN HB2.out _⟩
    · have hkI : ¬ (k : Int) < (n : Int) := by omega
      have HK : Hid (k = l.length) := by have := HG.out; have := HLEN.out; show _ = _; omega
      clear hsr
      go_wp2
      go_ret
      exact ⟨z, rfl, HK.out ▸ HBS.out, hbel⟩
end Go.Proofs.YtlkcnpmgafckoaaDoor

/-! ## PlainMath -/
namespace Go.Proofs.YtlkcnpmgafckoaaDoor

/-- How many runs reach up to a number. -/
def left (l : List Rn) (a : Nat) : Nat := l.countP fun r => decide (a ≤ r.2)
theorem left_mono (l : List Rn) {a b : Nat} (h : a ≤ b) : left l b ≤ left l a := by
  unfold left
  refine List.countP_mono_left fun r _ hr => ?_
  simp at hr ⊢
  omega
theorem left_lt {l : List Rn} {a b : Nat} {q : Rn} (hq : q ∈ l) (h : a ≤ b) (ha : a ≤ q.2) (hb : q.2 < b) : left l b < left l a := by
  induction l with
  | nil => cases hq
  | cons r s ih =>
    have hm := left_mono s h
    unfold left at *
    rw [List.countP_cons, List.countP_cons]
    rcases List.mem_cons.1 hq with rfl | hq
    · simp [ha, Nat.not_le.2 hb]
      omega
    · have := ih hq
      by_cases h1 : b ≤ r.2
      · simp [h1, Nat.le_trans h h1]
        omega
      · simp [h1]
        split <;> omega
structure PlainSt (l : List Rn) (a : Nat) (P : List Rn) : Prop where
  lt : a < two64
  ok : Okl P
  mem : ∀ x, memR P x ↔ memR l x ∧ x < a
  low : ∀ r ∈ P, r.2 < a
  gap : P = [] ∨ ¬ memR l a
theorem PlainSt.start (l : List Rn) : PlainSt l 0 [] := ⟨by unfold two64; omega, Okl.nil, fun x => (by simp [memR_nil]), fun r hr => (by cases hr), .inl rfl⟩
theorem PlainSt.done {l P : List Rn} {a : Nat} (h : PlainSt l a P) (hl : ∀ q ∈ l, q.1 < two64 ∧ q.2 < two64) (hb : ∀ r ∈ l, ¬ okR a r) : P = setL l := by
  obtain ⟨h1, h2, _⟩ := set_spec l hl
  refine okl_ext h.ok h1 fun x => ?_
  rw [h.mem, h2]
  constructor
  · exact fun h => h.1
  · rintro ⟨r, hr, h3, h4⟩
    refine ⟨⟨r, hr, h3, h4⟩, ?_⟩
    rcases Nat.lt_or_ge x a with hx | hx
    · exact hx
    · exact absurd ⟨by omega, by omega⟩ (hb r hr)
/-- What may make a run longer. -/
def ext (x : Rn) (t : Nat) : Prop := x.1 ≤ x.2 ∧ t < x.2 ∧ (x.1 ≤ t ∨ x.1 = t + 1)
structure GrowSt (l : List Rn) (a f t : Nat) : Prop where
  le : f ≤ t
  lt : t < two64
  from_ : a ≤ f
  all : ∀ x, f ≤ x → x ≤ t → memR l x
  none_ : ∀ x, a ≤ x → x < f → ¬ memR l x
theorem grow_start {l : List Rn} {a : Nat} {q : Rn} (hq : q ∈ l) (ho : okR a q) (hm : ∀ r ∈ l, okR a r → q.1 ≤ r.1) (hl : ∀ q ∈ l, q.1 < two64 ∧ q.2 < two64) : GrowSt l a (max q.1 a) q.2 where
  le := by have := ho.1; have := ho.2; omega
  lt := (hl q hq).2
  from_ := by omega
  all := fun x h1 h2 => ⟨q, hq, by omega, h2⟩
  none_ := fun x h1 h2 => by
    rintro ⟨r, hr, h3, h4⟩
    have := hm r hr ⟨by omega, by omega⟩
    omega
theorem GrowSt.grow {l : List Rn} {a f t : Nat} (h : GrowSt l a f t) {x : Rn} (hx : x ∈ l) (hl : ∀ q ∈ l, q.1 < two64 ∧ q.2 < two64) (he : ext x t) : GrowSt l a f x.2 where
  le := by have := h.le; have := he.2.1; omega
  lt := (hl x hx).2
  from_ := h.from_
  all := fun y h1 h2 => by
    rcases Nat.lt_or_ge t y with hy | hy
    · have := he.2.2
      exact ⟨x, hx, by omega, h2⟩
    · exact h.all y h1 hy
  none_ := h.none_
def closed3 (l : List Rn) (t : Nat) : Prop := ∀ x ∈ l, ¬ ext x t
theorem closed_not {l : List Rn} {t : Nat} (h : closed3 l t) : ¬ memR l (t + 1) := by
  rintro ⟨r, hr, h1, h2⟩
  exact h r hr ⟨by omega, by omega, by omega⟩
theorem PlainSt.step {l P : List Rn} {a f t : Nat} (h : PlainSt l a P) (hg : GrowSt l a f t) :
    Okl (P ++ [(f, t)]) ∧ (∀ x, memR (P ++ [(f, t)]) x ↔ memR l x ∧ x ≤ t) := by
  have hle := hg.le
  have hlt := hg.lt
  have hfr := hg.from_
  refine ⟨⟨canon_snoc h.ok.can hg.le (fun p hp => ?_), fun q hq => ?_⟩, fun x => ?_⟩
  · have h1 := h.low p hp
    show p.2 + 1 < f
    rcases h.gap with hP | hP
    · rw [hP] at hp; cases hp
    · have h2 := hg.all f (Nat.le_refl _) hg.le
      have : f ≠ a := fun e => hP (e ▸ h2)
      omega
  · rcases List.mem_append.1 hq with hq | hq
    · exact h.ok.lt q hq
    · rw [List.mem_singleton] at hq
      subst hq
      exact ⟨by show f < two64; omega, hg.lt⟩
  · rw [memR_app, memR_one, h.mem]
    constructor
    · rintro (⟨h1, h2⟩ | ⟨h1, h2⟩)
      · exact ⟨h1, by omega⟩
      · exact ⟨hg.all x h1 h2, h2⟩
    · rintro ⟨h1, h2⟩
      rcases Nat.lt_or_ge x a with hx | hx
      · exact .inl ⟨h1, hx⟩
      · right
        refine ⟨?_, h2⟩
        rcases Nat.lt_or_ge x f with hxf | hxf
        · exact absurd h1 (hg.none_ x hx hxf)
        · exact hxf
theorem PlainSt.next {l P : List Rn} {a f t : Nat} (h : PlainSt l a P) (hg : GrowSt l a f t) (hc : closed3 l t) (ht : t + 1 < two64) : PlainSt l (t + 1) (P ++ [(f, t)]) := by
  obtain ⟨h1, h2⟩ := h.step hg
  have := hg.from_
  have := hg.le
  refine ⟨ht, h1, fun x => by rw [h2]; constructor <;> (rintro ⟨h3, h4⟩; exact ⟨h3, by omega⟩), fun r hr => ?_, .inr (closed_not hc)⟩
  rcases List.mem_append.1 hr with hr | hr
  · have := h.low r hr; omega
  · rw [List.mem_singleton] at hr
    subst hr
    show t < t + 1
    omega
theorem PlainSt.last {l P : List Rn} {a f t : Nat} (h : PlainSt l a P) (hl : ∀ q ∈ l, q.1 < two64 ∧ q.2 < two64) (hg : GrowSt l a f t) (ht : t = two64 - 1) : P ++ [(f, t)] = setL l := by
  obtain ⟨h1, h2⟩ := h.step hg
  obtain ⟨k1, k2, _⟩ := set_spec l hl
  refine okl_ext h1 k1 fun x => ?_
  rw [h2, k2]
  constructor
  · exact fun h => h.1
  · rintro ⟨r, hr, h3, h4⟩
    have := (hl r hr).2
    exact ⟨⟨r, hr, h3, h4⟩, by omega⟩
end Go.Proofs.YtlkcnpmgafckoaaDoor

/-! ## RefPlain -/
namespace Go.Proofs.YtlkcnpmgafckoaaDoor
open Go.RowKit

def OwnP (w : World) (base : Nat) (A : Option Addr) (n c : Nat) (L : List Rn) : Prop := w.ownsRow base 76 2 (.slice A n c) n (rvs L)
def PlainRel (w : World) (l : List Rn) (gk : Nat) (vo va : Value) (wr : World) : Prop :=
  ∃ (A : Option Addr) (n c a : Nat) (P : List Rn), vo = .slice A n c ∧ va = .int .u64 (a : Int) ∧ OwnP wr w.heap.size A n c P ∧ PlainSt l a P ∧ left l a ≤ gk ∧ n + left l a ≤ l.length ∧ Below w.heap.size w wr
/-- While a run grows: its cell is block Y; below Y nothing has turned since wp. -/
def GrowRel (wp : World) (Y : Nat) (l : List Rn) (a f t1 gk : Nat) (vg : Value) (wr : World) : Prop :=
  ∃ (t : Nat) (g : Bool), vg = .bool g ∧ wr.heap[Y]? = some (.cells #[.int .u64 (f : Int), .int .u64 (t : Int)] 76 (0, 0)) ∧ GrowSt l a f t ∧ t1 ≤ t ∧ (g = false → closed3 l t) ∧ left l (t + 1) + (if g = true then 1 else 0) ≤ gk ∧ Below Y wp wr
def PassRel (wp : World) (Y : Nat) (l : List Rn) (a f t0 gk : Nat) (vg vi : Value) (wr : World) : Prop :=
  ∃ (k t : Nat) (g : Bool), gk + k = l.length ∧ vg = .bool g ∧ vi = .int .i64 (k : Int) ∧ wr.heap[Y]? = some (.cells #[.int .u64 (f : Int), .int .u64 (t : Int)] 76 (0, 0)) ∧ GrowSt l a f t ∧ t0 ≤ t ∧
    (g = false → t = t0 ∧ ∀ j x, j < k → l[j]? = some x → ¬ ext x t) ∧ (g = true → t0 < t ∧ ∃ x ∈ l, x.2 = t) ∧ Below Y wp wr

theorem Far.of_ownP {w : World} {base X : Nat} {A : Option Addr} {n c : Nat} {L : List Rn} (h : OwnP w base A n c L) (hX : w.heap.size ≤ X) : Far X A := by
  intro p e
  subst e
  have := (h.lt p.block (by simp [Value.ownBlock])).2
  omega
theorem setCell1_row (w : World) (X : Nat) (t : TypeId) (a u v : Value) (h : w.heap[X]? = some (.cells #[a, u] t (0, 0))) : (w.setCell ⟨X, 1, none⟩ v).heap[X]? = some (.cells #[a, v] t (0, 0)) := by
  simp [World.setCell, Array.getElem?_modify, h]

set_option maxRecDepth 100000 in
set_option maxHeartbeats 4000000 in
theorem plain_any (w : World) (A : Option Addr) (n c : Nat) (l : List Rn) (hs : Rs w w.heap.size A n c l) (hn : n ≤ 100000) :
    Calls Tryd.prog 29 #[.slice A n c] w (SaysR w (setL l)) := by
  obtain ⟨i0, hi0, hz0, hz1, hz2⟩ := info_parts rrun_info
  have H := Lib.hid hs
  have HLEN : Hid (l.length = n) := hs.len
  have HLT := Lib.hid hs.lt
  have HOK := Lib.hid (set_spec l hs.lt).1
  clear hs
  obtain ⟨R, HR⟩ : ∃ R, Hid (R = setL l) := ⟨_, rfl⟩
  rw [← HR.out]
  go_enter Tryd.func29, Tryd.ntmps29
  go_wp2
  go_loopg [3, 4] n (fun gk vo va wr => PlainRel w l gk vo va wr)
  case atStart => exact ⟨none, 0, 0, 0, [], rfl, rfl, ⟨rfl, .inl ⟨rfl, rfl⟩⟩, PlainSt.start l, by rw [← HLEN.out]; exact List.countP_le_length, by rw [Nat.zero_add]; exact List.countP_le_length, Below.refl _ _⟩
  case round =>
    obtain ⟨A2, n2, c2, a, P, rfl, rfl, hown, hst, hgk, hnl, hbel⟩ := hrel
    have HOWN := Lib.hid hown
    have HST := Lib.hid hst
    have HGK := Lib.hid hgk
    have HNL := Lib.hid hnl
    clear hown hst hgk hnl
    have hsr := H.out.below hbel (Nat.le_refl _)
    have HSR := Lib.hid (hsr.more hbel.size)
    clear hsr
    go_wp2_with fail
    refine (lower_any wr A n c a l HSR.out).mono ?_
    rintro e wp ⟨z, rfl, hbest, hbp⟩
    have HOP : Hid (OwnP wp w.heap.size A2 n2 c2 P) := HOWN.out.kept (only_below' hbp) (by cases (Value.slice A2 n2 c2).ownBlock <;> simp)
    have hbw : Below w.heap.size w wp := hbel.trans (hbp.mono hbel.size)
    have HSP := Lib.hid (HSR.out.on hbp (Nat.le_refl _))
    clear hbp hbel HOWN HSR
    rcases hbest with ⟨rfl, hnone⟩ | ⟨p, q, rfl, hp, hq, ho, hmin⟩
    · have HE : Hid (P = R) := by
        show _ = _
        rw [HR.out]
        refine HST.out.done HLT.out fun r hr => ?_
        obtain ⟨j, hj, hjr⟩ := List.getElem_of_mem hr
        exact hnone j r hj (by rw [List.getElem?_eq_getElem hj, hjr])
      clear hnone
      go_wp2
      go_ret
      have h := HOP.out
      rw [HE.out] at h
      exact ⟨A2, n2, c2, rfl, Rs.of_own h (by rw [HR.out]; exact HOK.out.lt), hbw⟩
    · have hpn : p < n := by have := HLEN.out; omega
      have hp0 : (0 : Int) ≤ (p : Int) := by omega
      have hpI : (p : Int) < (n : Int) := by omega
      have hpd : ¬ (p : Int) < 0 := by omega
      obtain ⟨b, o, q', rfl, hbB, hx, hq0, hq1, h1, h2⟩ := HSP.out.at_ hpn
      rw [hq] at hx
      injection hx with hx
      subst hx
      have HGS := Lib.hid (grow_start (List.mem_of_getElem? hq) ho (fun r hr hok => by
        obtain ⟨j, hj, hjr⟩ := List.getElem_of_mem hr
        exact hmin j r hj (by rw [List.getElem?_eq_getElem hj, hjr]) hok) HLT.out)
      have HLF : Hid (left l (q.2 + 1) < left l a) := left_lt (List.mem_of_getElem? hq) (by have := ho.2; omega) ho.2 (by omega)
      clear hmin hq
      have hmx : (if q.1 < a then (a : Int) else (q.1 : Int)) = ((max q.1 a : Nat) : Int) := by split <;> omega
      have HMX := Lib.hid hmx
      clear hmx
      go_wp2_with fail
      go_region
      rw [HMX.out]
      obtain ⟨t1, ht1⟩ : ∃ t1, t1 = q.2 := ⟨_, rfl⟩
      rw [← ht1] at HGS HLF ⊢
      clear ht1 HMX
      generalize max q.1 a = f at *
      have hb6 : Below wp.heap.size wp (wp.alloc (.cells #[.int .u64 (f : Int), .int .u64 (t1 : Int)] 76)).drew := (below_box wp _).drew
      have hY6 : (wp.alloc (.cells #[.int .u64 (f : Int), .int .u64 (t1 : Int)] 76)).drew.heap[wp.heap.size]? = some (.cells #[.int .u64 (f : Int), .int .u64 (t1 : Int)] 76 (0, 0)) := heap_alloc_new wp _
      generalize (wp.alloc (.cells #[.int .u64 (f : Int), .int .u64 (t1 : Int)] 76)).drew = w6 at *
      obtain ⟨Y, HY⟩ : ∃ Y, Hid (Y = wp.heap.size) := ⟨_, rfl⟩
      rw [← HY.out] at hb6 hY6 ⊢
      have HB6 := Lib.hid hb6
      have HY6 := Lib.hid hY6
      clear hb6 hY6 hq0 hq1 ho h1 h2
      go_wp2_with fail
      go_loopg [7] (left l (t1 + 1) + 1) (fun gk vg wr => GrowRel wp Y l a f t1 gk vg wr)
      case atStart => exact ⟨t1, true, rfl, HY6.out, HGS.out, Nat.le_refl _, fun h => (by cases h), by simp, HB6.out⟩
      case round =>
        obtain ⟨t, g, rfl, hY, hgs, ht1, hcl, hgk, hbel⟩ := hrel
        have HT1 := Lib.hid ht1
        have HYr := Lib.hid hY
        have HGR := Lib.hid hgs
        have HCL := Lib.hid hcl
        have HGK2 := Lib.hid hgk
        have HBL := Lib.hid hbel
        clear hY hgs hcl hgk hbel ht1
        cases g
        · have hYr := HYr.out
          have hbl := HBL.out
          have hcY0 : wr.cell? ⟨Y, 0, none⟩ = some (.int .u64 (f : Int)) := by rw [cell_of_row wr _ 0 _ _ _ hYr]; rfl
          have hcY1 : wr.cell? ⟨Y, 1, none⟩ = some (.int .u64 (t : Int)) := by rw [cell_of_row wr _ 1 _ _ _ hYr]; rfl
          have hYlt : Y < wr.heap.size := World.block_lt_of_cell? wr _ hcY0
          have HOR : Hid (OwnP wr w.heap.size A2 n2 c2 P) := HOP.out.kept (only_below' (by rw [← HY.out]; exact hbl)) (by cases (Value.slice A2 n2 c2).ownBlock <;> simp)
          have HBW : Hid (Below w.heap.size w wr) := hbw.trans (hbl.mono (by rw [HY.out]; exact hbw.size))
          have hwY : w.heap.size ≤ Y := by rw [HY.out]; exact hbw.size
          have hwz : w.heap.size ≤ wr.heap.size := HBW.out.size
          have HC := Lib.hid (HCL.out rfl)
          have HTL : Hid (t < 18446744073709551616) := HGR.out.lt
          have HN2 : Hid (n2 + 1 ≤ 100000) := by have := HNL.out; have := HLF.out; have := HLEN.out; show _ ≤ _; omega
          have hD : DstN (wr.alloc (.cells #[.int .u64 (f : Int), .int .u64 (t : Int)] 76)) w.heap.size 76 A2 n2 c2 2 (rvs P) := DstN.alloc (.inr HOR.out) _
          have HD := Lib.hid hD
          have HFAR : Hid (Far Y A2) := Far.of_ownP HOP.out (by rw [HY.out]; exact Nat.le_refl _)
          clear hYr hbl hD hbw
          have HP2 : Hid (rvs P ++ rv (f, t) = rvs (P ++ [(f, t)])) := by show _ = _; rw [rvs_app, rvs_one1]
          by_cases hm : t = 18446744073709551615
          · have hmI : ((t : Int) == 18446744073709551615) = true := by simp; omega
            have HE : Hid (P ++ [(f, t)] = R) := by show _ = _; rw [HR.out]; exact HST.out.last HLT.out HGR.out (by rw [hm]; rfl)
            clear hm
            go_wp2_with (at_builtin; refine wpList_append_dstN _ rfl (.tmp 67) (.tmp 69) 30 30 rfl w.heap.size 76 i0 _ 2 16 Tryd.underlying30 hi0 hz0 hz1 hz2 rfl A2 n2 c2 (rvs P) rfl HD.out _ 1 (rv (f, t)) rfl ((lit_sn wr 76 (rv (f, t)) 1 2 rfl (by unfold maxLen; omega)).src Tryd.underlying30 (rv_one (f, t))) (by have := HN2.out; omega) (by have := HN2.out; omega) (by simp; omega) ?_; intro A3 c3 w3 h1 h2 h3 h4 h5 h6; have HY3 := Lib.hid ((grown_keep (X := Y) h5 (by simp; omega) HFAR.out).trans ((Below.heap_alloc _ _ _ hYlt).trans HYr.out)); have hd1 : w3.cell? ⟨Y, 1, none⟩ = some (.int .u64 (t : Int)) := (by rw [cell_of_row w3 _ 1 _ _ _ HY3.out]; rfl); have HO3 := Lib.hid (h2 (by omega)); have HB3 := Lib.hid h4; clear h1 h2 h3 h4 h5 h6)
            go_ret
            have ho := HO3.out
            rw [HP2.out, HE.out] at ho
            exact ⟨A3, n2 + 1, c3, rfl, Rs.of_own ho (by rw [HR.out]; exact HOK.out.lt), HBW.out.trans (((below_box wr _).mono hwz).trans HB3.out)⟩
          · have hmI : ((t : Int) == 18446744073709551615) = false := by simp; omega
            have ht1I : (t : Int) + 1 < 18446744073709551616 := by have := HTL.out; omega
            have HNX := Lib.hid (HST.out.next HGR.out HC.out (by have := HTL.out; unfold two64; omega))
            have HLL : Hid (left l (t + 1) < left l a) := by have := left_mono l (show t1 + 1 ≤ t + 1 from by have := HT1.out; omega); have := HLF.out; show _ < _; omega
            clear hm
            go_wp2_with (at_builtin; refine wpList_append_dstN _ rfl (.tmp 67) (.tmp 69) 30 30 rfl w.heap.size 76 i0 _ 2 16 Tryd.underlying30 hi0 hz0 hz1 hz2 rfl A2 n2 c2 (rvs P) rfl HD.out _ 1 (rv (f, t)) rfl ((lit_sn wr 76 (rv (f, t)) 1 2 rfl (by unfold maxLen; omega)).src Tryd.underlying30 (rv_one (f, t))) (by have := HN2.out; omega) (by have := HN2.out; omega) (by simp; omega) ?_; intro A3 c3 w3 h1 h2 h3 h4 h5 h6; have HY3 := Lib.hid ((grown_keep (X := Y) h5 (by simp; omega) HFAR.out).trans ((Below.heap_alloc _ _ _ hYlt).trans HYr.out)); have hd1 : w3.cell? ⟨Y, 1, none⟩ = some (.int .u64 (t : Int)) := (by rw [cell_of_row w3 _ 1 _ _ _ HY3.out]; rfl); have HO3 := Lib.hid (h2 (by omega)); have HB3 := Lib.hid h4; clear h1 h2 h3 h4 h5 h6)
            go_roundg (left l (t + 1))
            case measure => have := HLL.out; have := HGK.out; omega
            case rel =>
              have ho := HO3.out
              rw [HP2.out] at ho
              exact ⟨A3, n2 + 1, c3, t + 1, _, rfl, by go_num, ho, HNX.out, Nat.le_refl _, by have := HLL.out; have := HNL.out; omega, HBW.out.trans (((below_box wr _).mono hwz).trans HB3.out)⟩
        · go_wp2_with fail
          go_loopg [7, 32] n (fun gk vg vi wr => PassRel wp Y l a f t gk vg vi wr)
          case atStart => exact ⟨0, t, false, by have := HLEN.out; omega, rfl, rfl, HYr.out, HGR.out, Nat.le_refl _, fun _ => ⟨rfl, fun j x hj => by omega⟩, fun h => (by cases h), HBL.out⟩
          case round =>
            obtain ⟨k, t2, g2, hg, rfl, rfl, hY, hgs, htt, hf, htr, hbel⟩ := hrel
            have HG := Lib.hid hg
            have HY2 := Lib.hid hY
            have HG2 := Lib.hid hgs
            have HF2 := Lib.hid hf
            have HT2 := Lib.hid htr
            have HTT := Lib.hid htt
            have hcY0 : wr.cell? ⟨Y, 0, none⟩ = some (.int .u64 (f : Int)) := by rw [cell_of_row wr _ 0 _ _ _ hY]; rfl
            have hcY1 : wr.cell? ⟨Y, 1, none⟩ = some (.int .u64 (t2 : Int)) := by rw [cell_of_row wr _ 1 _ _ _ hY]; rfl
            have hfY1 := frz_row (i := 1) hY
            have hYlt : Y < wr.heap.size := World.block_lt_of_cell? wr _ hcY0
            have hYw : wp.heap.size ≤ Y := by rw [HY.out]; exact Nat.le_refl _
            clear hg hY hgs hf htr htt
            have hsr := HSP.out.below (hbel.mono hYw) (Nat.le_refl _)
            by_cases hk : k < n
            · have hkI : (k : Int) < (n : Int) := by omega
              have hk0 : (0 : Int) ≤ (k : Int) := by omega
              obtain ⟨b', o', x, e', hbB', hx, hq0, hq1, h1, h2⟩ := hsr.at_ hk
              injection e' with e'
              injection e' with e1 e2
              subst e1 e2
              have HX := Lib.hid hx
              unfold two64 at h1 h2
              clear hx hsr
              have hbx := below_box wr (.cells #[.int .u64 (x.1 : Int), .int .u64 (x.2 : Int)] 76)
              have HYx := Lib.hid ((hbx.block _ hYlt).trans HY2.out)
              have HBx : Hid (Below Y wp (wr.alloc (.cells #[.int .u64 (x.1 : Int), .int .u64 (x.2 : Int)] 76))) := hbel.trans (hbx.mono (Nat.le_of_lt hYlt))
              have HNO : Hid (¬ ext x t2 → PassRel wp Y l a f t (gk - 1) (.bool g2) (.int .i64 ((k : Int) + 1)) (wr.alloc (.cells #[.int .u64 (x.1 : Int), .int .u64 (x.2 : Int)] 76))) := fun hne =>
                ⟨k + 1, t2, g2, by have := HG.out; have := HLEN.out; omega, rfl, by go_num, HYx.out, HG2.out, HTT.out, fun hg => ⟨(HF2.out hg).1, fun j y hj hy => by
                  rcases Nat.lt_or_ge j k with hjk | hjk
                  · exact (HF2.out hg).2 j y hjk hy
                  · obtain rfl : j = k := by omega
                    rw [HX.out] at hy
                    injection hy with hy
                    subst hy
                    exact hne⟩, HT2.out, HBx.out⟩
              have HYES : Hid (ext x t2 → PassRel wp Y l a f t (gk - 1) (.bool true) (.int .i64 ((k : Int) + 1)) ((wr.setCell ⟨Y, 1, none⟩ (.int .u64 (x.2 : Int))).alloc (.cells #[.int .u64 (x.1 : Int), .int .u64 (x.2 : Int)] 76))) := fun he =>
                ⟨k + 1, x.2, true, by have := HG.out; have := HLEN.out; omega, rfl, by go_num, (Below.heap_alloc _ _ _ (by simpa [World.setCell] using hYlt)).trans (setCell1_row _ _ _ _ _ _ HY2.out), HG2.out.grow (List.mem_of_getElem? HX.out) HLT.out he, by have := HTT.out; have := he.2.1; omega, fun hg => (by cases hg),
                  fun _ => ⟨by have := HTT.out; have := he.2.1; omega, x, List.mem_of_getElem? HX.out, rfl⟩, (hbel.setCell (p := ⟨Y, 1, none⟩) (Nat.le_refl _) _).alloc (by simpa [World.setCell] using Nat.le_of_lt hYlt) _⟩
              clear hbx
              by_cases h3 : x.1 ≤ x.2
              · have h3I : (x.1 : Int) ≤ (x.2 : Int) := by omega
                by_cases h4 : t2 < x.2
                · have h4I : (t2 : Int) < (x.2 : Int) := by omega
                  by_cases h5 : x.1 ≤ t2
                  · have h5I : (x.1 : Int) ≤ (t2 : Int) := by omega
                    go_wp2
                    go_roundg (gk - 1)
                    case measure => have := HG.out; have := HLEN.out; omega
                    case rel => exact HYES.out ⟨h3, h4, .inl h5⟩
                  · have h5I : ¬ (x.1 : Int) ≤ (t2 : Int) := by omega
                    have h1x : (1 : Int) ≤ (x.1 : Int) := by omega
                    by_cases h6 : x.1 = t2 + 1
                    · have h6I : ((x.1 : Int) - 1 == (t2 : Int)) = true := by simp; omega
                      have H6 := Lib.hid h6
                      clear h6
                      go_wp2
                      go_roundg (gk - 1)
                      case measure => have := HG.out; have := HLEN.out; omega
                      case rel => exact HYES.out ⟨h3, h4, .inr H6.out⟩
                    · have h6I : ((x.1 : Int) - 1 == (t2 : Int)) = false := by simp; omega
                      go_wp2
                      go_roundg (gk - 1)
                      case measure => have := HG.out; have := HLEN.out; omega
                      case rel => exact HNO.out (fun h => by have := h.2.2; omega)
                · have h4I : ¬ (t2 : Int) < (x.2 : Int) := by omega
                  go_wp2
                  go_roundg (gk - 1)
                  case measure => have := HG.out; have := HLEN.out; omega
                  case rel => exact HNO.out (fun h => h4 h.2.1)
              · have h3I : ¬ (x.1 : Int) ≤ (x.2 : Int) := by omega
                go_wp2
                go_roundg (gk - 1)
                case measure => have := HG.out; have := HLEN.out; omega
                case rel => exact HNO.out (fun h => h3 h.1)
            · have hkI : ¬ (k : Int) < (n : Int) := by omega
              have HGKN : Hid (left l (t2 + 1) + (if g2 = true then 1 else 0) < left l (t + 1) + 1) := by
                show _ < _
                cases g2
                · have := (HF2.out rfl).1
                  subst this
                  simp
                · obtain ⟨h7, y, hy, hy2⟩ := HT2.out rfl
                  have := left_lt (a := t + 1) (b := t2 + 1) hy (by omega) (by omega) (by omega)
                  simp
                  omega
              clear hsr
              go_wp2
              go_roundg (left l (t2 + 1) + (if g2 = true then 1 else 0))
              case measure => have := HGKN.out; have := HGK2.out; simp at this ⊢; omega
              case rel => exact ⟨t2, g2, rfl, HY2.out, HG2.out, by have := HT1.out; have := HTT.out; omega, fun hg x hx => by
                obtain ⟨j, hj, hjx⟩ := List.getElem_of_mem hx
                exact (HF2.out hg).2 j x (by have := HG.out; have := HLEN.out; omega) (by rw [List.getElem?_eq_getElem hj, hjx]), Nat.le_refl _, hbel⟩
end Go.Proofs.YtlkcnpmgafckoaaDoor

/-! ## CameRuns -/
namespace Go.Proofs.YtlkcnpmgafckoaaDoor
open Go.ChangeShapes Go.WideShapes Go.ChangeAt Go.RowKit

theorem cellsRun : Tryd.prog.cellsOf 77 = 2 := by kernel_rfl
theorem cellsNum : Tryd.prog.cellsOf 22 = 1 := by kernel_rfl
theorem list2 {l : List Value} (h : l.length = 2) : ∃ a b, l = [a, b] := by
  rcases l with _ | ⟨a, _ | ⟨b, _ | ⟨c, t⟩⟩⟩
  all_goals simp at h
  exact ⟨a, b, rfl⟩
set_option maxRecDepth 100000 in
theorem read_run {H : Type} {enc : TypeId × Value → H} {W : World} {fuel : Nat} {v0 v1 : Value} {x : DataW H × List MemPlace}
    (hf : DataW.trod enc Tryd.prog W 0 (fun _ => true) true fuel 77 [v0, v1] = some x) :
    ∃ k : Rn, v0 = .int .u64 (k.1 : Int) ∧ v1 = .int .u64 (k.2 : Int) ∧ k.1 < two64 ∧ k.2 < two64 := by
  obtain ⟨y0, y1, n, -, -, h0, h1⟩ := trod_struct2 Tryd.underlying77 hf
  simp only [cellsNum, List.drop_zero, List.drop_succ_cons, List.take_succ_cons, List.take_zero] at h0 h1
  obtain ⟨N, hN, -, hw⟩ := DataW.trod_int Tryd.underlying22 h0
  obtain ⟨M, hM, -, hw'⟩ := DataW.trod_int Tryd.underlying22 h1
  injection hN with hN
  injection hM with hM
  subst hN hM
  have hb := bounds_u64 hw
  have hb' := bounds_u64 hw'
  refine ⟨(N.toNat, M.toNat), ?_, ?_, ?_, ?_⟩
  · show _ = Value.int .u64 (N.toNat : Int)
    rw [Int.toNat_of_nonneg hb.1]
  · show _ = Value.int .u64 (M.toNat : Int)
    rw [Int.toNat_of_nonneg hb'.1]
  · show N.toNat < two64
    unfold two64
    omega
  · show M.toNat < two64
    unfold two64
    omega
set_option maxRecDepth 100000 in
theorem read_runs {H : Type} {enc : TypeId × Value → H} {W : World} {fuel : Nat} {v : Value} {x : DataW H × List MemPlace}
    (hf : DataW.trod enc Tryd.prog W 0 (fun _ => true) true fuel 23 [v] = some x) :
    ∃ A n c, v = .slice A n c ∧ ∃ L, Rs W W.heap.size A n c L := by
  obtain ⟨A, n, c, rfl⟩ : ∃ A n c, v = .slice A n c := by
    rcases Deep.open_slice Tryd.underlying23 hf with ⟨hcs, _⟩ | ⟨a, len, cap, m, n', D, Pl, hcs, _⟩
    · injection hcs with hcs
      exact ⟨_, _, _, hcs⟩
    · injection hcs with hcs
      exact ⟨_, _, _, hcs⟩
  refine ⟨A, n, c, rfl, ?_⟩
  rcases Deep.open_slice Tryd.underlying23 hf with ⟨hcs, _⟩ | ⟨a, len, cap, m, n', D, Pl, hcs, _, hl, hm, hmm, _, hx⟩
  · simp at hcs
    obtain ⟨rfl, rfl, rfl⟩ := hcs
    exact ⟨[], Rs.nil_ _ _ _ _ (Nat.zero_le _)⟩
  · simp at hcs
    obtain ⟨rfl, rfl, rfl⟩ := hcs
    have hlm : n ≤ m := by rw [hmm]; simp; exact hl
    rw [cellsRun] at hx
    have one : ∀ i, i < n → ∃ k : Rn, W.cell? (a.add (i * 2)) = some (.int .u64 (k.1 : Int)) ∧ W.cell? (a.add (i * 2 + 1)) = some (.int .u64 (k.2 : Int)) ∧ k.1 < two64 ∧ k.2 < two64 := fun i hi => by
      obtain ⟨cs', h1, h2⟩ := hx i (by omega)
      obtain ⟨_, hlen, hcell⟩ := World.cells?_some h1
      obtain ⟨v0, v1, rfl⟩ := list2 hlen
      obtain ⟨k, rfl, rfl, hk1, hk2⟩ := read_run h2
      have e0 := hcell 0 (by omega)
      have e1 := hcell 1 (by omega)
      rw [Deep.add_add] at e0 e1
      exact ⟨k, by simpa using e0, by simpa using e1, hk1, hk2⟩
    obtain ⟨Q, hQ⟩ := Deep.choose_lt (p := fun i (k : Rn) => W.cell? (a.add (i * 2)) = some (.int .u64 (k.1 : Int)) ∧ W.cell? (a.add (i * 2 + 1)) = some (.int .u64 (k.2 : Int)) ∧ k.1 < two64 ∧ k.2 < two64) one
    refine ⟨(List.range n).map Q, ⟨by rw [rvs_len]; simp, hl, hm, fun hn => ?_⟩, fun q hq => ?_⟩
    · have h0 := (hQ 0 (by omega)).1
      obtain ⟨b, o, spot⟩ := a
      have hspot : spot = none := by simpa [Addr.add] using World.cell?_spot h0
      subst hspot
      have hb := World.block_lt_of_cell? W _ h0
      refine ⟨b, o, rfl, by simpa [Addr.add] using hb, fun j x hj => ?_⟩
      have hjl : j < n * 2 := by
        have := (List.getElem?_eq_some_iff.1 hj).1
        rw [rvs_len] at this
        simpa using this
      have hi : j / 2 < n := by omega
      have hat : ((List.range n).map Q)[j / 2]? = some (Q (j / 2)) := by simp [hi]
      obtain ⟨h1, h2⟩ := rvs_at hat
      obtain ⟨q0, q1, _, _⟩ := hQ (j / 2) hi
      rw [Go.Proofs.YtlkcnpmgafckoaaDoor.add_plain] at q0 q1
      rcases Nat.mod_two_eq_zero_or_one j with hm2 | hm2
      · have e : j / 2 * 2 = j := by omega
        rw [e] at h1 q0
        rw [h1] at hj
        injection hj with hj
        subst hj
        exact q0
      · have e : j / 2 * 2 + 1 = j := by omega
        rw [e] at h2 q1
        rw [h2] at hj
        injection hj with hj
        subst hj
        exact q1
    · obtain ⟨i, hi, rfl⟩ := List.mem_map.1 hq
      exact (hQ i (by simpa using hi)).2.2
set_option maxRecDepth 100000 in
theorem came_runs {H : Type} {enc : TypeId × Value → H} {W : World} {base : Nat} {v : Value} {d : DataW H} {p : List MemPlace}
    (hv : Value.okWide Tryd.prog W .any base 23 v) (h : DataW.Trod enc Tryd.prog W 0 (fun _ => true) true 23 v d p) :
    ∃ A n c, v = .slice A n c ∧ ∃ L, Rs W W.heap.size A n c L := by
  obtain ⟨A, n, c, rfl⟩ := okWide_slice Tryd.underlying23 hv
  obtain ⟨fuel, hf⟩ := h
  obtain ⟨A', n', c', e, hr⟩ := read_runs (v := .slice A n c) (by simpa [Value.cells] using hf)
  exact ⟨A', n', c', e, hr⟩
end Go.Proofs.YtlkcnpmgafckoaaDoor
