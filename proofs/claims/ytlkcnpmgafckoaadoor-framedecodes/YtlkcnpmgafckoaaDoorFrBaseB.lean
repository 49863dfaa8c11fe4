/-
  WORDS AND CONTRACTS of layers 3 and 4, of the reference too: texts of earlier rounds, laid together.
  No statement is proved here.
-/
import Derived.Test.YtlkcnpmgafckoaaDoorFrBaseA
import Derived.Laws.BitsLemmas
import Derived.Deep.LoopGhost
import Derived.Test.YtlkcnpmgafckoaaDoorRows
import Derived.ProofKit
import Derived.OpenShut
import Derived.ShutString
import Derived.ChangeOld
import Derived.Deep.Slices
import Derived.Lib.SmallJoins
import Derived.Deep.QuietTactic
import Derived.BigQuiet
import Derived.WalkSpells
import Derived.Laws.StructEq
import Derived.RegionTactic
import Derived.BigRegion
import Derived.StillTailTactics

/-! ## LawGets -/
namespace Go.Proofs.YtlkcnpmgafckoaaDoor
open Go.RowKit

theorem below_grown {w0 w w' : World} {B k : Nat} (h : Below B w0 w) (hg : w.grownBy w' (some k)) (hk : B ≤ k) (hB : B ≤ w.heap.size) : Below B w0 w' :=
  ⟨hg.os.trans h.os, hg.tape.trans h.tape, hg.output.trans h.output, Nat.le_trans h.size hg.size, fun i hi => (hg.block i (by omega) (fun e => by injection e with e; omega)).trans (h.block i hi)⟩
end Go.Proofs.YtlkcnpmgafckoaaDoor

/-! ## LawPuts -/
namespace Go.Proofs.YtlkcnpmgafckoaaDoor
open Go.RowKit

theorem own_on {w w' : World} {base : Nat} {e : TypeId} {v : Value} {n : Nat} {xs : List Value} (h : w.ownsRow base e 1 v n xs) (hb : Below w.heap.size w w') : w'.ownsRow base e 1 v n xs := by
  refine ⟨h.1, ?_⟩
  rcases h.2 with hn | ⟨g, cap, cur, hv, hbg, hh, rest⟩
  · exact .inl hn
  · exact .inr ⟨g, cap, cur, hv, hbg, (hb.block g (Array.getElem?_eq_some_iff.1 hh).1).trans hh, rest⟩

end Go.Proofs.YtlkcnpmgafckoaaDoor

/-! ## SpanMath -/
namespace Go.Proofs.YtlkcnpmgafckoaaDoor

/-- An item; what is read of many, one behind the other. -/
structure It where
  N : Nat
  C : Int
  b : List UInt8
def It.ok (x : It) : Prop := x.N < two64 ∧ rightB x.C x.b.length = true
def itB (x : It) : List UInt8 := itemB x.N x.C x.b
def itsB (xs : List It) : List UInt8 := xs.flatMap itB
theorem itsB_snoc {xs : List It} {j : Nat} {x : It} (h : xs[j]? = some x) : itsB (xs.take (j + 1)) = itsB (xs.take j) ++ itB x := by
  unfold itsB
  rw [List.take_add_one, h, List.flatMap_append]
  simp
end Go.Proofs.YtlkcnpmgafckoaaDoor

/-! ## RowsKept -/
namespace Go.Proofs.YtlkcnpmgafckoaaDoor
open Go.RowKit

/-- An item as it came; as it is kept. -/
structure Ik where
  N : Nat
  C : Int
  q : Pt
def Ik.v (k : Ik) : List Value := [.int .u64 (k.N : Int), .int .i64 k.C, k.q.v]
def Ik.it (k : Ik) : It := ⟨k.N, k.C, k.q.l⟩
structure Itms (w : World) (B : Nat) (A : Option Addr) (n c : Nat) (ks : List Ik) : Prop where
  len : ks.length = n
  le : n ≤ c
  max : c ≤ maxLen
  cell : 0 < n → ∃ b o, A = some ⟨b, o, none⟩ ∧ b < B ∧ ∀ (j : Nat) (k : Ik), ks[j]? = some k → w.cell? ⟨b, o + j * 3, none⟩ = some (.int .u64 (k.N : Int)) ∧ w.cell? ⟨b, o + j * 3 + 1, none⟩ = some (.int .i64 k.C) ∧ w.cell? ⟨b, o + j * 3 + 2, none⟩ = some k.q.v
  sl : ∀ k ∈ ks, Sl w B k.q.A k.q.n k.q.c k.q.l ∧ k.N < two64
theorem Itms.at_ {w : World} {B : Nat} {A : Option Addr} {n c j : Nat} {ks : List Ik} (h : Itms w B A n c ks) (hj : j < n) : ∃ b o k, A = some ⟨b, o, none⟩ ∧ b < B ∧ ks[j]? = some k ∧ w.cell? ⟨b, o + j * 3, none⟩ = some (.int .u64 (k.N : Int)) ∧ w.cell? ⟨b, o + j * 3 + 1, none⟩ = some (.int .i64 k.C) ∧
    w.cell? ⟨b, o + j * 3 + 2, none⟩ = some (.slice k.q.A k.q.n k.q.c) ∧ Sl w B k.q.A k.q.n k.q.c k.q.l ∧ k.N < two64 := by
  obtain ⟨b, o, e, hb, hc⟩ := h.cell (by omega)
  have hl : j < ks.length := by have := h.len; omega
  have hk := List.getElem?_eq_getElem hl
  obtain ⟨h1, h2, h3⟩ := hc j _ hk
  obtain ⟨h4, h5⟩ := h.sl _ (List.getElem_mem hl)
  exact ⟨b, o, ks[j], e, hb, hk, h1, h2, h3, h4, h5⟩

structure Kept (w : World) (B : Nat) (Ve Vs : Value) (ps : List Pt) : Prop where
  own : ∀ p ∈ ps, w.ownsRow B 5 1 p.v p.n (cbs p.l)
  off : ∀ p ∈ ps, p.v.ownBlock = none ∨ (p.v.ownBlock ≠ Ve.ownBlock ∧ p.v.ownBlock ≠ Vs.ownBlock)
theorem Kept.on {w w' : World} {B : Nat} {Ve Vs : Value} {ps : List Pt} (h : Kept w B Ve Vs ps) (hb : Below w.heap.size w w') : Kept w' B Ve Vs ps := ⟨fun p hp => own_on (h.own p hp) hb, h.off⟩
/-- A new row lies apart. -/
theorem Kept.cons {w : World} {B M : Nat} {Ve Vs : Value} {ps : List Pt} {p : Pt} (h : Kept w B Ve Vs ps) (hp : w.ownsRow M 5 1 p.v p.n (cbs p.l)) (hB : B ≤ M) (he : ∀ k, Ve.ownBlock = some k → k < M) (hs : ∀ k, Vs.ownBlock = some k → k < M) : Kept w B Ve Vs (p :: ps) := by
  refine ⟨fun q hq => ?_, fun q hq => ?_⟩
  · rcases List.mem_cons.1 hq with rfl | hq
    · exact own_lower hp hB
    · exact h.own q hq
  · rcases List.mem_cons.1 hq with rfl | hq
    · cases hb : q.v.ownBlock with
      | none => exact .inl rfl
      | some k =>
        have := (hp.lt k hb).1
        exact .inr ⟨fun e => by have := he k e.symm; omega, fun e => by have := hs k e.symm; omega⟩
    · exact h.off q hq
theorem Kept.tail {w : World} {B : Nat} {Ve Vs : Value} {ps qs : List Pt} (h : Kept w B Ve Vs ps) (hs : ∀ q ∈ qs, q ∈ ps) : Kept w B Ve Vs qs := ⟨fun p hp => h.own p (hs p hp), fun p hp => h.off p (hs p hp)⟩
/-- The other row, when one grows. -/
def Apart (a b : Option Nat) : Prop := a = none ∨ b = none ∨ a ≠ b
theorem Apart.symm {a b : Option Nat} (h : Apart a b) : Apart b a := by
  rcases h with h | h | h
  · exact .inr (.inl h)
  · exact .inl h
  · exact .inr (.inr fun e => h e.symm)
theorem Apart.or {a b : Option Nat} (h : Apart a b) : a = none ∨ a ≠ b := by
  cases a with
  | none => exact .inl rfl
  | some k =>
    refine .inr ?_
    rcases h with h | h | h
    · cases h
    · rw [h]; simp
    · exact h
end Go.Proofs.YtlkcnpmgafckoaaDoor

/-! ## LawSRows -/
namespace Go.Proofs.YtlkcnpmgafckoaaDoor
open Go.RowKit

end Go.Proofs.YtlkcnpmgafckoaaDoor

/-! ## CameBase -/
namespace Go.Proofs.YtlkcnpmgafckoaaDoor
open Go.ChangeShapes Go.WideShapes Go.ChangeAt Go.RowKit

theorem ownK : ownKnob Tryd.prog.godebug = none := by kernel_rfl
theorem laidOut : laidOutB Tryd.prog = true := by kernel_rfl
end Go.Proofs.YtlkcnpmgafckoaaDoor

/-! ## Came -/
namespace Go.Proofs.YtlkcnpmgafckoaaDoor
open Go.ChangeShapes Go.WideShapes Go.ChangeAt Go.RowKit

set_option maxRecDepth 100000 in
theorem read_bytes {H : Type} {enc : TypeId × Value → H} {W : World} {fuel : Nat} {v : Value} {x : DataW H × List MemPlace}
    (hf : DataW.trod enc Tryd.prog W 0 (fun _ => true) true fuel 37 [v] = some x) : ∃ A n c l, v = .slice A n c ∧ Sl W W.heap.size A n c l := by
  rcases open_ints Tryd.underlying37 Tryd.underlying5 (by kernel_rfl) hf with ⟨hcs, _⟩ | ⟨x, l, c', zs, hcs, _, hl, hm, hz, _, hcell, hwz⟩
  · injection hcs with hcs
    subst hcs
    exact ⟨none, 0, 0, [], rfl, Sl.nil_ _ _ _ _ (Nat.zero_le _)⟩
  · injection hcs with hcs
    subst hcs
    obtain ⟨bs, hs⟩ := sl_of_row (w := W) (zs := zs) (.inr ⟨x, rfl, hl, hm, by simpa using hz, hcell, hwz⟩)
    exact ⟨_, _, _, bs, rfl, hs⟩
set_option maxRecDepth 100000 in
theorem came_bytes {H : Type} {enc : TypeId × Value → H} {W : World} {base : Nat} {v : Value} {d : DataW H} {p : List MemPlace}
    (hv : Value.okWide Tryd.prog W .any base 37 v) (h : DataW.Trod enc Tryd.prog W 0 (fun _ => true) true 37 v d p) :
    ∃ A n c l, v = .slice A n c ∧ Sl W W.heap.size A n c l := by
  obtain ⟨A, n, c, rfl⟩ := okWide_slice Tryd.underlying37 hv
  obtain ⟨fuel, hf⟩ := h
  exact read_bytes (by simpa [Value.cells] using hf)
end Go.Proofs.YtlkcnpmgafckoaaDoor

/-! ## CameItems -/
namespace Go.Proofs.YtlkcnpmgafckoaaDoor
open Go.ChangeShapes Go.WideShapes Go.ChangeAt Go.RowKit

end Go.Proofs.YtlkcnpmgafckoaaDoor

/-! ## RunsMath -/
namespace Go.Proofs.YtlkcnpmgafckoaaDoor

abbrev Rn := Nat × Nat
def memR (L : List Rn) (x : Nat) : Prop := ∃ r ∈ L, r.1 ≤ x ∧ x ≤ r.2
structure Canon (L : List Rn) : Prop where
  far : L.Pairwise fun a b => a.2 + 1 < b.1
  ok : ∀ r ∈ L, r.1 ≤ r.2

theorem memR_nil (x : Nat) : ¬ memR [] x := fun ⟨_, h, _⟩ => by cases h
theorem memR_cons {a : Rn} {L : List Rn} {x : Nat} : memR (a :: L) x ↔ (a.1 ≤ x ∧ x ≤ a.2) ∨ memR L x := by
  constructor
  · rintro ⟨r, hr, h⟩
    rcases List.mem_cons.1 hr with rfl | hr
    · exact .inl h
    · exact .inr ⟨r, hr, h⟩
  · rintro (h | ⟨r, hr, h⟩)
    · exact ⟨a, List.mem_cons_self, h⟩
    · exact ⟨r, List.mem_cons_of_mem _ hr, h⟩
theorem memR_app {L M : List Rn} {x : Nat} : memR (L ++ M) x ↔ memR L x ∨ memR M x := by
  induction L with
  | nil => simp [memR_nil]
  | cons a L ih => rw [List.cons_append, memR_cons, memR_cons, ih, or_assoc]
theorem memR_one {a : Rn} {x : Nat} : memR [a] x ↔ a.1 ≤ x ∧ x ≤ a.2 := by rw [memR_cons]; simp [memR_nil]

theorem Canon.nil : Canon [] := ⟨List.Pairwise.nil, fun r hr => by cases hr⟩
theorem Canon.one {a : Rn} (h : a.1 ≤ a.2) : Canon [a] := ⟨List.pairwise_singleton _ _, fun r hr => by rw [List.mem_singleton] at hr; subst hr; exact h⟩
theorem Canon.tail {a : Rn} {L : List Rn} (h : Canon (a :: L)) : Canon L := ⟨(List.pairwise_cons.1 h.far).2, fun r hr => h.ok r (List.mem_cons_of_mem _ hr)⟩
theorem Canon.above {a : Rn} {L : List Rn} (h : Canon (a :: L)) {x : Nat} (hx : memR L x) : a.2 + 1 < x := by
  obtain ⟨r, hr, h1, _⟩ := hx
  have := (List.pairwise_cons.1 h.far).1 r hr
  omega
theorem Canon.least {a : Rn} {L : List Rn} (h : Canon (a :: L)) {x : Nat} (hx : memR (a :: L) x) : a.1 ≤ x := by
  rcases memR_cons.1 hx with h1 | h1
  · exact h1.1
  · have := h.above h1
    have := h.ok a List.mem_cons_self
    omega
theorem Canon.head {a : Rn} {L : List Rn} (h : Canon (a :: L)) : memR (a :: L) a.1 := memR_cons.2 (.inl ⟨Nat.le_refl _, h.ok a List.mem_cons_self⟩)
theorem Canon.tail_iff {a : Rn} {L : List Rn} (h : Canon (a :: L)) {x : Nat} : memR L x ↔ memR (a :: L) x ∧ a.2 < x := by
  constructor
  · intro hx
    exact ⟨memR_cons.2 (.inr hx), by have := h.above hx; omega⟩
  · rintro ⟨hx, h2⟩
    rcases memR_cons.1 hx with h1 | h1
    · omega
    · exact h1

/-- LISTS OF RUNS ARE TOLD APART BY WHAT IS IN THEM. -/
theorem canon_ext : ∀ (L M : List Rn), Canon L → Canon M → (∀ x, memR L x ↔ memR M x) → L = M
  | [], [], _, _, _ => rfl
  | [], b :: M, _, hM, h => absurd ((h b.1).2 hM.head) (memR_nil _)
  | a :: L, [], hL, _, h => absurd ((h a.1).1 hL.head) (memR_nil _)
  | a :: L, b :: M, hL, hM, h => by
    have h1 : a.1 = b.1 := Nat.le_antisymm (hL.least ((h b.1).2 hM.head)) (hM.least ((h a.1).1 hL.head))
    have ha := hL.ok a List.mem_cons_self
    have hb := hM.ok b List.mem_cons_self
    have h2 : a.2 = b.2 := by
      rcases Nat.lt_trichotomy a.2 b.2 with hlt | heq | hgt
      · have hm : memR (a :: L) (a.2 + 1) := (h _).2 (memR_cons.2 (.inl ⟨by omega, by omega⟩))
        rcases memR_cons.1 hm with hq | hq
        · omega
        · have := hL.above hq; omega
      · exact heq
      · have hm : memR (b :: M) (b.2 + 1) := (h _).1 (memR_cons.2 (.inl ⟨by omega, by omega⟩))
        rcases memR_cons.1 hm with hq | hq
        · omega
        · have := hM.above hq; omega
    have hab : a = b := Prod.ext h1 h2
    subst hab
    rw [canon_ext L M hL.tail hM.tail (fun x => by rw [hL.tail_iff, hM.tail_iff, h])]

/-! ### join -/
def apartB (a b : Rn) : Bool := decide (a.2 + 1 < b.1)
def joinL (L : List Rn) (r : Rn) : List Rn :=
  match L.getLast? with
  | none => [r]
  | some l => if l.2 + 1 < r.1 then L ++ [r] else L.dropLast ++ [(l.1, max l.2 r.2)]
theorem joinL_nil (r : Rn) : joinL [] r = [r] := rfl
theorem joinL_far {L : List Rn} {l r : Rn} (h : l.2 + 1 < r.1) : joinL (L ++ [l]) r = L ++ [l] ++ [r] := by simp [joinL, h]
theorem joinL_near {L : List Rn} {l r : Rn} (h : ¬ l.2 + 1 < r.1) : joinL (L ++ [l]) r = L ++ [(l.1, max l.2 r.2)] := by simp [joinL, h]
theorem canon_snoc {L : List Rn} {r : Rn} (h : Canon L) (hr : r.1 ≤ r.2) (hf : ∀ l ∈ L, l.2 + 1 < r.1) : Canon (L ++ [r]) :=
  ⟨List.pairwise_append.2 ⟨h.far, List.pairwise_singleton _ _, fun a ha b hb => by rw [List.mem_singleton] at hb; subst hb; exact hf a ha⟩, fun q hq => by
    rcases List.mem_append.1 hq with hq | hq
    · exact h.ok q hq
    · rw [List.mem_singleton] at hq; subst hq; exact hr⟩
theorem canon_init {L : List Rn} {r : Rn} (h : Canon (L ++ [r])) : Canon L ∧ (∀ l ∈ L, l.2 + 1 < r.1) ∧ r.1 ≤ r.2 := by
  obtain ⟨h1, _, h3⟩ := List.pairwise_append.1 h.far
  exact ⟨⟨h1, fun q hq => h.ok q (List.mem_append_left _ hq)⟩, fun l hl => h3 l hl r (List.mem_singleton.2 rfl), h.ok r (List.mem_append_right _ (List.mem_singleton.2 rfl))⟩
theorem joinL_spec {L : List Rn} {r : Rn} (h : Canon L) (hr : r.1 ≤ r.2) (ho : ∀ l ∈ L, l.1 ≤ r.1) :
    Canon (joinL L r) ∧ (∀ x, memR (joinL L r) x ↔ memR L x ∨ (r.1 ≤ x ∧ x ≤ r.2)) ∧ (∀ l ∈ joinL L r, l.1 ≤ r.1) := by
  rcases List.eq_nil_or_concat L with rfl | ⟨M, l, rfl⟩
  · rw [joinL_nil]
    exact ⟨Canon.one hr, fun x => by rw [memR_one]; simp [memR_nil], fun l hl => by rw [List.mem_singleton] at hl; subst hl; exact Nat.le_refl _⟩
  · rw [List.concat_eq_append] at h ho ⊢
    obtain ⟨hM, hf, hl⟩ := canon_init h
    have hlo := ho l (List.mem_append_right _ (List.mem_singleton.2 rfl))
    by_cases hc : l.2 + 1 < r.1
    · rw [joinL_far hc]
      refine ⟨canon_snoc h hr fun q hq => ?_, fun x => by rw [memR_app, memR_one], fun q hq => ?_⟩
      · rcases List.mem_append.1 hq with hq | hq
        · have := hf q hq; omega
        · rw [List.mem_singleton] at hq; subst hq; exact hc
      · rcases List.mem_append.1 hq with hq | hq
        · exact ho q hq
        · rw [List.mem_singleton] at hq; subst hq; exact Nat.le_refl _
    · rw [joinL_near hc]
      refine ⟨canon_snoc hM (by show l.1 ≤ max l.2 r.2; omega) hf, fun x => ?_, fun q hq => ?_⟩
      · rw [memR_app, memR_app, memR_one, memR_one]
        constructor
        · rintro (h1 | ⟨h1, h2⟩)
          · exact .inl (.inl h1)
          · simp only at h1 h2
            by_cases h3 : x ≤ l.2
            · exact .inl (.inr ⟨h1, h3⟩)
            · exact .inr ⟨by omega, by omega⟩
        · rintro ((h1 | h1) | h1)
          · exact .inl h1
          · exact .inr ⟨h1.1, by show x ≤ max l.2 r.2; omega⟩
          · exact .inr ⟨by show l.1 ≤ x; omega, by show x ≤ max l.2 r.2; omega⟩
      · rcases List.mem_append.1 hq with hq | hq
        · exact ho q (List.mem_append_left _ hq)
        · rw [List.mem_singleton] at hq; subst hq; exact hlo
theorem joinL_len (L : List Rn) (r : Rn) : (joinL L r).length ≤ L.length + 1 ∧ 0 < (joinL L r).length := by
  rcases List.eq_nil_or_concat L with rfl | ⟨M, l, rfl⟩
  · simp [joinL_nil]
  · rw [List.concat_eq_append]
    by_cases hc : l.2 + 1 < r.1
    · rw [joinL_far hc]; simp
    · rw [joinL_near hc]; simp
theorem joinL_lt {L : List Rn} {r : Rn} (h : ∀ q ∈ L, q.1 < two64 ∧ q.2 < two64) (hr : r.1 < two64 ∧ r.2 < two64) : ∀ q ∈ joinL L r, q.1 < two64 ∧ q.2 < two64 := by
  rcases List.eq_nil_or_concat L with rfl | ⟨M, l, rfl⟩
  · rw [joinL_nil]; intro q hq; rw [List.mem_singleton] at hq; subst hq; exact hr
  · rw [List.concat_eq_append] at h ⊢
    have hl := h l (List.mem_append_right _ (List.mem_singleton.2 rfl))
    by_cases hc : l.2 + 1 < r.1
    · rw [joinL_far hc]
      intro q hq
      rcases List.mem_append.1 hq with hq | hq
      · exact h q hq
      · rw [List.mem_singleton] at hq; subst hq; exact hr
    · rw [joinL_near hc]
      intro q hq
      rcases List.mem_append.1 hq with hq | hq
      · exact h q (List.mem_append_left _ hq)
      · rw [List.mem_singleton] at hq; subst hq
        exact ⟨hl.1, by show max l.2 r.2 < two64; omega⟩

/-! ### union -/
def unionGo (acc : List Rn) : List Rn → List Rn → List Rn
  | [], [] => acc
  | [], y :: b => unionGo (joinL acc y) b []
  | x :: a, [] => unionGo (joinL acc x) a []
  | x :: a, y :: b => if y.1 < x.1 then unionGo (joinL acc y) b (x :: a) else unionGo (joinL acc x) a (y :: b)
termination_by a b => a.length + b.length
def unionL (a b : List Rn) : List Rn := unionGo [] a b
theorem Canon.first_le {a : Rn} {L : List Rn} (h : Canon (a :: L)) : ∀ r ∈ L, a.1 ≤ r.1 := fun r hr => by
  have := (List.pairwise_cons.1 h.far).1 r hr
  have := h.ok a List.mem_cons_self
  omega
theorem unionGo_spec : ∀ (a b acc : List Rn), Canon acc → Canon a → Canon b → (∀ l ∈ acc, ∀ r ∈ a, l.1 ≤ r.1) → (∀ l ∈ acc, ∀ r ∈ b, l.1 ≤ r.1) →
    Canon (unionGo acc a b) ∧ (∀ x, memR (unionGo acc a b) x ↔ memR acc x ∨ memR a x ∨ memR b x) ∧ (unionGo acc a b).length ≤ acc.length + (a.length + b.length)
  | [], [], acc, hc, _, _, _, _ => by
    unfold unionGo
    exact ⟨hc, fun x => by simp [memR_nil], by simp⟩
  | [], y :: b, acc, hc, _, hb, _, hob => by
    obtain ⟨h1, h2, h3⟩ := joinL_spec hc (hb.ok y List.mem_cons_self) (fun l hl => hob l hl y List.mem_cons_self)
    obtain ⟨k1, k2, k3⟩ := unionGo_spec b [] (joinL acc y) h1 hb.tail Canon.nil (fun l hl r hr => Nat.le_trans (h3 l hl) (hb.first_le r hr)) (fun l _ r hr => by cases hr)
    rw [unionGo]
    refine ⟨k1, fun x => ?_, ?_⟩
    · rw [k2, h2, memR_cons]
      simp only [memR_nil, or_false, false_or]
      rw [or_assoc]
    · have := (joinL_len acc y).1
      simp only [List.length_cons, List.length_nil] at *
      omega
  | x :: a, [], acc, hc, ha, _, hoa, _ => by
    obtain ⟨h1, h2, h3⟩ := joinL_spec hc (ha.ok x List.mem_cons_self) (fun l hl => hoa l hl x List.mem_cons_self)
    obtain ⟨k1, k2, k3⟩ := unionGo_spec a [] (joinL acc x) h1 ha.tail Canon.nil (fun l hl r hr => Nat.le_trans (h3 l hl) (ha.first_le r hr)) (fun l _ r hr => by cases hr)
    rw [unionGo]
    refine ⟨k1, fun z => ?_, ?_⟩
    · rw [k2, h2, memR_cons]
      simp only [memR_nil, or_false]
      rw [or_assoc]
    · have := (joinL_len acc x).1
      simp only [List.length_cons, List.length_nil] at *
      omega
  | x :: a, y :: b, acc, hc, ha, hb, hoa, hob => by
    by_cases hyx : y.1 < x.1
    · obtain ⟨h1, h2, h3⟩ := joinL_spec hc (hb.ok y List.mem_cons_self) (fun l hl => hob l hl y List.mem_cons_self)
      obtain ⟨k1, k2, k3⟩ := unionGo_spec b (x :: a) (joinL acc y) h1 hb.tail ha (fun l hl r hr => Nat.le_trans (h3 l hl) (hb.first_le r hr)) (fun l hl r hr => by
        have := h3 l hl
        rcases List.mem_cons.1 hr with rfl | hr
        · omega
        · have := ha.first_le r hr; omega)
      rw [unionGo, if_pos hyx]
      refine ⟨k1, fun z => ?_, ?_⟩
      · rw [k2, h2, memR_cons (a := y)]
        constructor
        · rintro ((h | h) | h | h)
          · exact .inl h
          · exact .inr (.inr (.inl h))
          · exact .inr (.inr (.inr h))
          · exact .inr (.inl h)
        · rintro (h | h | h | h)
          · exact .inl (.inl h)
          · exact .inr (.inr h)
          · exact .inl (.inr h)
          · exact .inr (.inl h)
      · have := (joinL_len acc y).1
        simp only [List.length_cons] at *
        omega
    · obtain ⟨h1, h2, h3⟩ := joinL_spec hc (ha.ok x List.mem_cons_self) (fun l hl => hoa l hl x List.mem_cons_self)
      obtain ⟨k1, k2, k3⟩ := unionGo_spec a (y :: b) (joinL acc x) h1 ha.tail hb (fun l hl r hr => Nat.le_trans (h3 l hl) (ha.first_le r hr)) (fun l hl r hr => by
        have := h3 l hl
        rcases List.mem_cons.1 hr with rfl | hr
        · omega
        · have := hb.first_le r hr; omega)
      rw [unionGo, if_neg hyx]
      refine ⟨k1, fun z => ?_, ?_⟩
      · rw [k2, h2, memR_cons (a := x)]
        constructor
        · rintro ((h | h) | h | h)
          · exact .inl h
          · exact .inr (.inl (.inl h))
          · exact .inr (.inl (.inr h))
          · exact .inr (.inr h)
        · rintro (h | (h | h) | h)
          · exact .inl (.inl h)
          · exact .inl (.inr h)
          · exact .inr (.inl h)
          · exact .inr (.inr h)
      · have := (joinL_len acc x).1
        simp only [List.length_cons] at *
        omega
termination_by a b => a.length + b.length
theorem unionGo_lt : ∀ (a b acc : List Rn), (∀ q ∈ acc, q.1 < two64 ∧ q.2 < two64) → (∀ q ∈ a, q.1 < two64 ∧ q.2 < two64) → (∀ q ∈ b, q.1 < two64 ∧ q.2 < two64) → ∀ q ∈ unionGo acc a b, q.1 < two64 ∧ q.2 < two64
  | [], [], acc, h, _, _ => by unfold unionGo; exact h
  | [], y :: b, acc, h, _, hb => by
    rw [unionGo]
    exact unionGo_lt b [] _ (joinL_lt h (hb y List.mem_cons_self)) (fun q hq => hb q (List.mem_cons_of_mem _ hq)) (fun q hq => by cases hq)
  | x :: a, [], acc, h, ha, _ => by
    rw [unionGo]
    exact unionGo_lt a [] _ (joinL_lt h (ha x List.mem_cons_self)) (fun q hq => ha q (List.mem_cons_of_mem _ hq)) (fun q hq => by cases hq)
  | x :: a, y :: b, acc, h, ha, hb => by
    rw [unionGo]
    split
    · exact unionGo_lt b (x :: a) _ (joinL_lt h (hb y List.mem_cons_self)) (fun q hq => hb q (List.mem_cons_of_mem _ hq)) ha
    · exact unionGo_lt a (y :: b) _ (joinL_lt h (ha x List.mem_cons_self)) (fun q hq => ha q (List.mem_cons_of_mem _ hq)) hb
termination_by a b => a.length + b.length

/-- A set's list: it rises, its runs lie apart, and each number has 64 bits. -/
structure Okl (L : List Rn) : Prop where
  can : Canon L
  lt : ∀ q ∈ L, q.1 < two64 ∧ q.2 < two64
theorem Okl.nil : Okl [] := ⟨Canon.nil, fun q hq => by cases hq⟩
theorem union_ok {a b : List Rn} (ha : Okl a) (hb : Okl b) : Okl (unionL a b) :=
  ⟨(unionGo_spec a b [] Canon.nil ha.can hb.can (fun l hl => by cases hl) (fun l hl => by cases hl)).1, unionGo_lt a b [] (fun q hq => by cases hq) ha.lt hb.lt⟩
theorem union_mem {a b : List Rn} (ha : Okl a) (hb : Okl b) (x : Nat) : memR (unionL a b) x ↔ memR a x ∨ memR b x := by
  have h := (unionGo_spec a b [] Canon.nil ha.can hb.can (fun l hl => by cases hl) (fun l hl => by cases hl)).2.1 x
  unfold unionL
  simpa [memR_nil] using h
theorem union_len {a b : List Rn} (ha : Okl a) (hb : Okl b) : (unionL a b).length ≤ a.length + b.length := by
  have h := (unionGo_spec a b [] Canon.nil ha.can hb.can (fun l hl => by cases hl) (fun l hl => by cases hl)).2.2
  unfold unionL
  simpa using h
theorem Okl.ext {L M : List Rn} (hL : Okl L) (hM : Okl M) (h : ∀ x, memR L x ↔ memR M x) : L = M := canon_ext L M hL.can hM.can h
end Go.Proofs.YtlkcnpmgafckoaaDoor

/-! ## RunsMore -/
namespace Go.Proofs.YtlkcnpmgafckoaaDoor

/-! ### reach -/
/-! ### has, gap -/
/-! ### taking away -/
/-! ### spans; sets of raw runs -/
def spanL (s : List Rn) (f t : Nat) : List Rn := if t < f then s else unionL s [(f, t)]
theorem one_ok {f t : Nat} (h : f ≤ t) (hf : f < two64) (ht : t < two64) : Okl [(f, t)] := ⟨Canon.one h, fun q hq => by rw [List.mem_singleton] at hq; subst hq; exact ⟨hf, ht⟩⟩
theorem span_ok {s : List Rn} {f t : Nat} (hs : Okl s) (hf : f < two64) (ht : t < two64) : Okl (spanL s f t) := by
  unfold spanL
  split
  · exact hs
  · exact union_ok hs (one_ok (by omega) hf ht)
theorem span_mem {s : List Rn} {f t : Nat} (hs : Okl s) (hf : f < two64) (ht : t < two64) (x : Nat) : memR (spanL s f t) x ↔ memR s x ∨ (f ≤ x ∧ x ≤ t) := by
  unfold spanL
  split
  · constructor
    · exact .inl
    · rintro (h | h)
      · exact h
      · omega
  · rw [union_mem hs (one_ok (by omega) hf ht), memR_one]
theorem span_len {s : List Rn} {f t : Nat} (hs : Okl s) (hf : f < two64) (ht : t < two64) : (spanL s f t).length ≤ s.length + 1 := by
  unfold spanL
  split
  · omega
  · have := union_len hs (one_ok (f := f) (t := t) (by omega) hf ht)
    simpa using this
def setL (l : List Rn) : List Rn := l.foldl (fun s r => spanL s r.1 r.2) []
theorem set_go (l : List Rn) : ∀ s : List Rn, Okl s → (∀ q ∈ l, q.1 < two64 ∧ q.2 < two64) →
    Okl (l.foldl (fun s r => spanL s r.1 r.2) s) ∧ (∀ x, memR (l.foldl (fun s r => spanL s r.1 r.2) s) x ↔ memR s x ∨ memR l x) ∧ (l.foldl (fun s r => spanL s r.1 r.2) s).length ≤ s.length + l.length := by
  induction l with
  | nil => intro s hs _; exact ⟨hs, fun x => by simp [memR_nil], by simp⟩
  | cons r l ih =>
    intro s hs h
    obtain ⟨hf, ht⟩ := h r List.mem_cons_self
    obtain ⟨h1, h2, h3⟩ := ih (spanL s r.1 r.2) (span_ok hs hf ht) (fun q hq => h q (List.mem_cons_of_mem _ hq))
    rw [List.foldl_cons]
    refine ⟨h1, fun x => ?_, ?_⟩
    · rw [h2, span_mem hs hf ht, memR_cons, or_assoc]
    · have := span_len hs hf ht
      simp only [List.length_cons]
      omega
theorem set_spec (l : List Rn) (h : ∀ q ∈ l, q.1 < two64 ∧ q.2 < two64) : Okl (setL l) ∧ (∀ x, memR (setL l) x ↔ memR l x) ∧ (setL l).length ≤ l.length := by
  obtain ⟨h1, h2, h3⟩ := set_go l [] Okl.nil h
  unfold setL
  exact ⟨h1, fun x => by have := h2 x; simpa [memR_nil] using this, by simpa using h3⟩
end Go.Proofs.YtlkcnpmgafckoaaDoor

/-! ## RunsOne -/
namespace Go.Proofs.YtlkcnpmgafckoaaDoor
open Go.RowKit

def rv (r : Rn) : List Value := [.int .u64 (r.1 : Int), .int .u64 (r.2 : Int)]
def rvs (L : List Rn) : List Value := L.flatMap rv
theorem rvs_len (L : List Rn) : (rvs L).length = L.length * 2 := by
  induction L with
  | nil => rfl
  | cons a L ih => unfold rvs at *; rw [List.flatMap_cons, List.length_append, ih, List.length_cons]; simp [rv]; omega
theorem rvs_app (L M : List Rn) : rvs (L ++ M) = rvs L ++ rvs M := by unfold rvs; rw [List.flatMap_append]
theorem rvs_cons (a : Rn) (L : List Rn) : rvs (a :: L) = rv a ++ rvs L := rfl
theorem rvs_one1 (a : Rn) : rvs [a] = rv a := by simp [rvs]
theorem rvs_one (L : List Rn) : ∀ u ∈ rvs L, u.oneCell' = true := by
  intro u hu
  obtain ⟨r, _, h⟩ := List.mem_flatMap.1 hu
  simp only [rv, List.mem_cons, List.not_mem_nil, or_false] at h
  rcases h with rfl | rfl <;> rfl
theorem rvs_at {L : List Rn} {j : Nat} {r : Rn} (h : L[j]? = some r) : (rvs L)[j * 2]? = some (.int .u64 (r.1 : Int)) ∧ (rvs L)[j * 2 + 1]? = some (.int .u64 (r.2 : Int)) := by
  induction L generalizing j with
  | nil => simp at h
  | cons a L ih =>
    rw [rvs_cons]
    rcases j with _ | j
    · simp at h
      subst h
      exact ⟨rfl, rfl⟩
    · have := ih (j := j) (by simpa using h)
      have hl : (rv a).length = 2 := rfl
      rw [List.getElem?_append_right (by omega), List.getElem?_append_right (by omega), show (j + 1) * 2 - (rv a).length = j * 2 from by omega, show (j + 1) * 2 + 1 - (rv a).length = j * 2 + 1 from by omega]
      exact this
theorem rvs_take (L : List Rn) (m : Nat) : (rvs L).take (m * 2) = rvs (L.take m) := by
  induction L generalizing m with
  | nil => simp [rvs]
  | cons a L ih =>
    rcases m with _ | m
    · simp [rvs]
    · rw [List.take_succ_cons, rvs_cons, rvs_cons, ← ih, show (m + 1) * 2 = 2 + m * 2 from by omega]
      simp [rv, show 2 + m * 2 = m * 2 + 1 + 1 from by omega]
theorem rvs_drop (L : List Rn) (m : Nat) : (rvs L).drop (m * 2) = rvs (L.drop m) := by
  induction L generalizing m with
  | nil => simp [rvs]
  | cons a L ih =>
    rcases m with _ | m
    · simp
    · rw [List.drop_succ_cons, rvs_cons, ← ih, show (m + 1) * 2 = m * 2 + 1 + 1 from by omega]
      simp [rv]

/-- A slice of runs reads as this list, below block B. -/
structure Rs (w : World) (B : Nat) (A : Option Addr) (n c : Nat) (L : List Rn) : Prop where
  sn : Sn w B A n c 2 (rvs L)
  lt : ∀ q ∈ L, q.1 < two64 ∧ q.2 < two64
section
variable {w w' : World} {B B' : Nat} {A : Option Addr} {n c : Nat} {L : List Rn}
theorem Rs.len (h : Rs w B A n c L) : L.length = n := by have := h.sn.len; rw [rvs_len] at this; omega
theorem Rs.more (h : Rs w B A n c L) (hB : B ≤ B') : Rs w B' A n c L := ⟨h.sn.more hB, h.lt⟩
theorem Rs.below (h : Rs w B A n c L) (hb : Below B' w w') (hB : B ≤ B') : Rs w' B A n c L := ⟨h.sn.below hb hB, h.lt⟩
theorem Rs.on (h : Rs w B A n c L) (hb : Below w.heap.size w w') (hB : B ≤ w.heap.size) : Rs w' w'.heap.size A n c L := ⟨h.sn.on hb hB, h.lt⟩
theorem Rs.onA (h : Rs w w.heap.size A n c L) (o : Obj) : Rs (w.alloc o) (w.alloc o).heap.size A n c L := ⟨h.sn.onA o, h.lt⟩
theorem Rs.onD (h : Rs w w.heap.size A n c L) (q : Nat) : Rs (w.drewN q) (w.drewN q).heap.size A n c L := ⟨h.sn.onD q, h.lt⟩
theorem Rs.drewN (h : Rs w B A n c L) (q : Nat) : Rs (w.drewN q) B A n c L := ⟨h.sn.drewN q, h.lt⟩
theorem Rs.alloc (h : Rs w B A n c L) (hB : B ≤ w.heap.size) (o : Obj) : Rs (w.alloc o) B A n c L := ⟨h.sn.alloc hB o, h.lt⟩
theorem Rs.nil_ (w : World) (B : Nat) (A : Option Addr) (c : Nat) (hc : c ≤ maxLen) : Rs w B A 0 c [] := ⟨Sn.nil_ w B A c 2 hc, fun q hq => by cases hq⟩
theorem Rs.of_own {base : Nat} {e : TypeId} (h : w.ownsRow base e 2 (.slice A n c) n (rvs L)) (hl : ∀ q ∈ L, q.1 < two64 ∧ q.2 < two64) : Rs w w.heap.size A n c L := ⟨Sn.of_own h, hl⟩
theorem Rs.at_ {j : Nat} (h : Rs w B A n c L) (hj : j < n) : ∃ b o r, A = some ⟨b, o, none⟩ ∧ b < B ∧ L[j]? = some r ∧ w.cell? ⟨b, o + j * 2, none⟩ = some (.int .u64 (r.1 : Int)) ∧ w.cell? ⟨b, o + j * 2 + 1, none⟩ = some (.int .u64 (r.2 : Int)) ∧ r.1 < two64 ∧ r.2 < two64 := by
  have hl : j < L.length := by rw [h.len]; exact hj
  have hr := List.getElem?_eq_getElem hl
  obtain ⟨b, o, e, hb, hc⟩ := h.sn.cell (by omega)
  obtain ⟨h0, h1⟩ := rvs_at hr
  obtain ⟨k0, k1⟩ := h.lt _ (List.getElem_mem hl)
  exact ⟨b, o, L[j], e, hb, hr, hc _ _ h0, by rw [Nat.add_assoc]; exact hc _ _ h1, k0, k1⟩
theorem Rs.take (h : Rs w B A n c L) {m d : Nat} (hm : m ≤ n) (hmd : m ≤ d) (hd : d ≤ c) : Rs w B A m d (L.take m) :=
  ⟨by have := h.sn.take hm hmd hd; rwa [rvs_take] at this, fun q hq => h.lt q (List.mem_of_mem_take hq)⟩
theorem Rs.drop (h : Rs w B A n c L) {m : Nat} (hm : m ≤ n) : Rs w B (if c = m then A else A.map (·.add (m * 2))) (n - m) (c - m) (L.drop m) :=
  ⟨by have := h.sn.drop hm; rwa [rvs_drop] at this, fun q hq => h.lt q (List.mem_of_mem_drop hq)⟩
end

/-- A run, a set, as values. -/
def rnv (r : Rn) : Value := .agg #[.int .u64 (r.1 : Int), .int .u64 (r.2 : Int)]
/-- A slice of runs is handed back; nothing that was there has turned. -/
def SaysR (w : World) (L : List Rn) (e : Ending) (w' : World) : Prop := ∃ A n c, e = .returned (.slice A n c) ∧ Rs w' w'.heap.size A n c L ∧ Below w.heap.size w w'
/-- A set's row: it reads as this list, and wherever it lies, it lies below B. -/
structure St (w : World) (B : Nat) (A : Option Addr) (n c : Nat) (L : List Rn) : Prop where
  rs : Rs w B A n c L
  lies : ∀ b o, A = some ⟨b, o, none⟩ → b < B
theorem St.below {w w' : World} {B B' : Nat} {A : Option Addr} {n c : Nat} {L : List Rn} (h : St w B A n c L) (hb : Below B' w w') (hB : B ≤ B') : St w' B A n c L := ⟨h.rs.below hb hB, h.lies⟩
theorem St.more {w : World} {B B' : Nat} {A : Option Addr} {n c : Nat} {L : List Rn} (h : St w B A n c L) (hB : B ≤ B') : St w B' A n c L := ⟨h.rs.more hB, fun b o e => Nat.lt_of_lt_of_le (h.lies b o e) hB⟩
theorem St.on {w w' : World} {B : Nat} {A : Option Addr} {n c : Nat} {L : List Rn} (h : St w B A n c L) (hb : Below w.heap.size w w') (hB : B ≤ w.heap.size) : St w' w'.heap.size A n c L := (h.below hb hB).more (Nat.le_trans hB hb.size)
theorem St.of_own {w : World} {base : Nat} {e : TypeId} {A : Option Addr} {n c : Nat} {L : List Rn} (h : w.ownsRow base e 2 (.slice A n c) n (rvs L)) (hl : ∀ q ∈ L, q.1 < two64 ∧ q.2 < two64) : St w w.heap.size A n c L :=
  ⟨Rs.of_own h hl, fun b o e => (h.lt b (by rw [e]; rfl)).2⟩
theorem St.nil_ (w : World) (B : Nat) : St w B none 0 0 [] := ⟨Rs.nil_ w B none 0 (Nat.zero_le _), fun b o e => by cases e⟩
/-- A row stays where another block is written to. -/
theorem Rs.off {w : World} {B : Nat} {A : Option Addr} {n c : Nat} {L : List Rn} {p : Addr} (h : Rs w B A n c L) (hp : ∀ b o, A = some ⟨b, o, none⟩ → b ≠ p.block) (u : Value) : Rs (w.setCell p u) B A n c L :=
  ⟨⟨h.sn.len, h.sn.le, h.sn.max, fun hn => by
    obtain ⟨b, o, e, hb, hc⟩ := h.sn.cell hn
    refine ⟨b, o, e, hb, fun j x hx => ?_⟩
    rw [World.cell?_setCell_other w p ⟨b, o + j, none⟩ u (fun e' => hp b o e (by rw [e']))]
    exact hc j x hx⟩, h.lt⟩
theorem Rs.block {w : World} {B b o : Nat} {n c : Nat} {L : List Rn} (h : Rs w B (some ⟨b, o, none⟩) n c L) (hn : 0 < n) : b < B := by
  obtain ⟨b', o', e, hb, _⟩ := h.sn.cell (by omega)
  injection e with e
  injection e with e
  omega

set_option maxHeartbeats 400000 in
theorem apart_any (w : World) (a b : Rn) (ha : a.1 < two64 ∧ a.2 < two64) (hb : b.1 < two64 ∧ b.2 < two64) :
    Calls Tryd.prog 93 #[rnv a, rnv b] w (Says w (.bool (apartB a b))) := by
  obtain ⟨a1, a2⟩ := a
  obtain ⟨b1, b2⟩ := b
  unfold two64 at ha hb
  unfold rnv
  simp only at ha hb ⊢
  go_enter Tryd.func93, Tryd.ntmps93
  go_wp2
  all_goals (go_ret; refine ⟨congrArg (fun b => Ending.returned (.bool b)) ?_, (below_box w _).alloc (by simp) _⟩; rw [Bool.eq_iff_iff]; simp [apartB]; try omega)
end Go.Proofs.YtlkcnpmgafckoaaDoor

/-! ## RunsJoin -/
namespace Go.Proofs.YtlkcnpmgafckoaaDoor
open Go.RowKit

theorem run_info : (Tryd.prog.info? 77).map (fun i => (i.zero, i.size, i.bytes)) = some (some (.agg #[.int .u64 0, .int .u64 0]), 2, 16) := by kernel_rfl
/-- A row of runs of one's own. -/
def Own (w : World) (base : Nat) (A : Option Addr) (n c : Nat) (L : List Rn) : Prop := w.ownsRow base 77 2 (.slice A n c) n (rvs L)
def SaysOwn (w : World) (base : Nat) (L : List Rn) (e : Ending) (w' : World) : Prop := ∃ A n c, e = .returned (.slice A n c) ∧ Own w' base A n c L ∧ Below base w w'

theorem rv_one (r : Rn) : ∀ u ∈ rv r, u.oneCell' = true := by have := rvs_one [r]; rwa [rvs_one1] at this

theorem only_below' {a b : World} (h : Below a.heap.size a b) : a.grownBy b none := ⟨h.os, h.tape, h.output, h.size, fun i hi _ => h.block i hi⟩

/-! ### slices.Grow -/
/-! ### Union -/
theorem frz_row {w : World} {r i : Nat} {cs : Array Value} {t : TypeId} (h : w.heap[r]? = some (.cells cs t (0, 0))) : w.frozen? ⟨r, i, none⟩ = false := by simp [World.frozen?, h]
theorem set_grown (w : World) (g i : Nat) (u : Value) : w.grownBy (w.setCell ⟨g, i, none⟩ u) (some g) :=
  ⟨rfl, rfl, rfl, by simp [World.setCell], fun k _ hne => Below.heap_setCell w ⟨g, i, none⟩ u k (fun e => hne (by rw [e]))⟩
theorem Rs.first {w : World} {B : Nat} {A : Option Addr} {n c : Nat} {L : List Rn} (h : Rs w B A n c L) (hn : 0 < n) :
    ∃ b o x X, A = some ⟨b, o, none⟩ ∧ b < B ∧ L = x :: X ∧ w.cell? ⟨b, o, none⟩ = some (.int .u64 (x.1 : Int)) ∧ w.cell? ⟨b, o + 1, none⟩ = some (.int .u64 (x.2 : Int)) ∧ x.1 < two64 ∧ x.2 < two64 := by
  obtain ⟨b, o, r, e, hb, hr, h0, h1, h2, h3⟩ := h.at_ hn
  rcases L with _ | ⟨x, X⟩
  · simp at hr
  · simp at hr
    subst hr
    exact ⟨b, o, x, X, e, hb, rfl, by simpa using h0, by simpa using h1, h2, h3⟩
theorem Rs.rest {w : World} {B b o n c : Nat} {x : Rn} {X : List Rn} (h : Rs w B (some ⟨b, o, none⟩) n c (x :: X)) (hn : 0 < n) (hc : c ≠ 1) : Rs w B (some ⟨b, o + 2, none⟩) (n - 1) (c - 1) X := by
  have := h.drop (m := 1) hn
  rw [if_neg hc] at this
  simpa [add_plain] using this
end Go.Proofs.YtlkcnpmgafckoaaDoor

/-! ## RunsSpan -/
namespace Go.Proofs.YtlkcnpmgafckoaaDoor
open Go.RowKit

end Go.Proofs.YtlkcnpmgafckoaaDoor

/-! ## RunsReach -/
namespace Go.Proofs.YtlkcnpmgafckoaaDoor
open Go.RowKit

/-! ### Has, Gap -/
end Go.Proofs.YtlkcnpmgafckoaaDoor

/-! ## RunsLess -/
namespace Go.Proofs.YtlkcnpmgafckoaaDoor
open Go.RowKit

/-- A row lies in another block than this. -/
def Far (X : Nat) (A : Option Addr) : Prop := ∀ p, A = some p → p.block ≠ X
theorem Far.of_own {w : World} {base X : Nat} {A : Option Addr} {n c : Nat} {L : List Rn} (h : Own w base A n c L) (hX : w.heap.size ≤ X) : Far X A := by
  intro p e
  subst e
  rcases h.2 with ⟨hv, _⟩ | ⟨g', cap, cur, hv, hbg, hg, hnc, hcm, hcs, ht⟩
  · cases hv
  · have := (h.lt p.block (by simp [Value.ownBlock])).2
    omega
theorem Far.own {X : Nat} {A : Option Addr} {n c : Nat} (h : Far X A) : (Value.slice A n c).ownBlock = none ∨ (Value.slice A n c).ownBlock ≠ some X := by
  refine .inr fun hv => ?_
  rcases A with _ | p
  · simp [Value.ownBlock] at hv
  · exact h p rfl (by simpa [Value.ownBlock] using hv)
theorem grown_keep {w w3 : World} {X nl cl : Nat} {Al : Option Addr} (h5 : w.grownBy w3 (if nl = cl then none else (Value.slice Al nl cl).ownBlock)) (hX : X < w.heap.size) (hf : Far X Al) : w3.heap[X]? = w.heap[X]? := by
  refine h5.block X hX fun e => ?_
  split at e
  · cases e
  · rcases hf.own (n := nl) (c := cl) with hf | hf
    · rw [hf] at e; cases e
    · exact hf e.symm
structure OutSt (w : World) (X B base : Nat) (Ah : Option Addr) (nh ch : Nat) (H : List Rn) (Al : Option Addr) (nl cl : Nat) (acc : List Rn) (r : Rn) (wr : World) : Prop where
  own : Own wr base Al nl cl acc
  far : Far X Al
  box : wr.heap[X]? = some (.cells #[.int .u64 (r.1 : Int), .int .u64 (r.2 : Int)] 77 (0, 0))
  bel : Below base w wr
  rs : Rs wr B Ah nh ch H
  hB : B ≤ base
  hX : base ≤ X
section
variable {w : World} {X B base : Nat} {Ah : Option Addr} {nh ch : Nat} {H : List Rn} {Al : Option Addr} {nl cl : Nat} {acc : List Rn} {r : Rn} {wr : World}
theorem OutSt.c0 (h : OutSt w X B base Ah nh ch H Al nl cl acc r wr) : wr.cell? ⟨X, 0, none⟩ = some (.int .u64 (r.1 : Int)) := by rw [cell_of_row wr _ 0 _ _ _ h.box]; rfl
theorem OutSt.c1 (h : OutSt w X B base Ah nh ch H Al nl cl acc r wr) : wr.cell? ⟨X, 1, none⟩ = some (.int .u64 (r.2 : Int)) := by rw [cell_of_row wr _ 1 _ _ _ h.box]; rfl
theorem OutSt.lt (h : OutSt w X B base Ah nh ch H Al nl cl acc r wr) : X < wr.heap.size := World.block_lt_of_cell? wr _ h.c0
theorem OutSt.alloc (h : OutSt w X B base Ah nh ch H Al nl cl acc r wr) (o : Obj) : OutSt w X B base Ah nh ch H Al nl cl acc r (wr.alloc o) := by
  have hz : base ≤ wr.heap.size := Nat.le_trans h.hX (Nat.le_of_lt h.lt)
  have hb : Below base wr (wr.alloc o) := (below_box wr o).mono hz
  exact ⟨h.own.alloc o, h.far, ((below_box wr o).block _ h.lt).trans h.box, h.bel.trans hb, h.rs.below hb h.hB, h.hB, h.hX⟩
theorem OutSt.set (h : OutSt w X B base Ah nh ch H Al nl cl acc r wr) (v : Nat) : OutSt w X B base Ah nh ch H Al nl cl acc (v, r.2) (wr.setCell ⟨X, 0, none⟩ (.int .u64 (v : Int))) := by
  have hb : Below base wr (wr.setCell ⟨X, 0, none⟩ (.int .u64 (v : Int))) := (Below.refl base wr).setCell h.hX _
  refine ⟨h.own.kept (set_grown wr X 0 _) h.far.own, h.far, ?_, h.bel.trans hb, h.rs.below hb h.hB, h.hB, h.hX⟩
  simp [World.setCell, Array.getElem?_modify, h.box]
end
/-! ### how many runs Less answers -/
end Go.Proofs.YtlkcnpmgafckoaaDoor

/-! ## RunsCut -/
namespace Go.Proofs.YtlkcnpmgafckoaaDoor
open Go.RowKit

end Go.Proofs.YtlkcnpmgafckoaaDoor

/-! ## RunsFacts -/
namespace Go.Proofs.YtlkcnpmgafckoaaDoor
theorem okl_ext {L M : List Rn} (hL : Okl L) (hM : Okl M) (h : ∀ x, memR L x ↔ memR M x) : L = M := canon_ext L M hL.can hM.can h
/-! ### gaps -/
end Go.Proofs.YtlkcnpmgafckoaaDoor

/-! ## RunsEq -/
namespace Go.Proofs.YtlkcnpmgafckoaaDoor
open Go.RowKit

def sameR (L M : List Rn) : Bool := decide (L = M)
theorem take_eq_succR {l m : List Rn} {j : Nat} {x : Rn} (h1 : l[j]? = some x) (h2 : m[j]? = some x) (h : l.take j = m.take j) : l.take (j + 1) = m.take (j + 1) := by
  rw [List.take_add_one, List.take_add_one, h, h1, h2]
def SameRelR (w : World) (l m : List Rn) (k : Nat) (i : Value) (wr : World) : Prop :=
  ∃ (j q : Nat), k + j = l.length ∧ i = .int .i64 (j : Int) ∧ wr = w.drewN q ∧ l.take j = m.take j

theorem eqIn_eqR (a b : Rn) (w : World) : (Op.equalIn 10000 77 (.agg #[.int .u64 (a.1 : Int), .int .u64 (a.2 : Int)]) (.agg #[.int .u64 (b.1 : Int), .int .u64 (b.2 : Int)])).run Tryd.prog w = .ok (decide (a = b)) w := by
  have hS : Tryd.prog.underlying 77 = some (.struct (Tryd.prog.fieldsOf 77)) := by kernel_rfl
  have hp : Tryd.prog.stoodInHeld 77 = false := by kernel_rfl
  have u3 := Tryd.underlying22
  have a3 := Tryd.isAgg22
  have z3 := Tryd.sizeOf22
  rw [show (10000 : Nat) = 9999 + 1 from rfl, run_equalIn_agg w 9999 77 _ _ hS hp]
  simp only [Program.fieldsOf, Tryd.underlying77]
  go_simp
  obtain ⟨a1, a2⟩ := a
  obtain ⟨b1, b2⟩ := b
  by_cases h1 : a1 = b1 <;> by_cases h2 : a2 = b2 <;> simp [h1, h2] <;> omega
theorem guard_eqR : Tryd.prog.eqGuardType Tryd.prog.depth 77 = false := by kernel_rfl
set_option maxRecDepth 100000 in
set_option maxHeartbeats 400000 in
theorem eqR_any (w : World) (B : Nat) (A A' : Option Addr) (n c n' c' : Nat) (l l' : List Rn) (hs : Rs w B A n c l) (hs' : Rs w B A' n' c' l') :
    Calls Tryd.prog 31 #[.slice A n c, .slice A' n' c'] w fun e w' => e = .returned (.bool (sameR l l')) ∧ ∃ q, w' = w.drewN q := by
  have hle := hs.sn.le
  have hmax := hs.sn.max
  have hle' := hs'.sn.le
  have hmax' := hs'.sn.max
  unfold maxLen at hmax hmax'
  have hlen := Lib.hid hs.len
  have hlen' := Lib.hid hs'.len
  have hG := guard_eqR
  by_cases hnn : n = n'
  · subst hnn
    have HS := Lib.hid hs; clear hs
    have HS' := Lib.hid hs'; clear hs'
    have hne : ((n : Int) != (n : Int)) = false := by simp
    go_enter Tryd.func31, Tryd.ntmps31
    go_wp2
    go_loopg [13] n (fun k i wr => SameRelR w l l' k i wr)
    case atStart => exact ⟨0, 0, by have := hlen.out; omega, rfl, rfl, rfl⟩
    case round =>
      obtain ⟨j, q, hj, rfl, rfl, hq⟩ := hrel
      have HJ := Lib.hid hj; clear hj
      have HQ := Lib.hid hq; clear hq
      by_cases hlt : j < n
      · obtain ⟨b, o, x, rfl, _, hx, hc0, hc1, _, _⟩ := HS.out.at_ hlt
        obtain ⟨b', o', x', rfl, _, hx', hc0', hc1', _, _⟩ := HS'.out.at_ hlt
        have HX := Lib.hid hx; clear hx
        have HX' := Lib.hid hx'; clear hx'
        have hj0 : (0 : Int) ≤ (j : Int) := by omega
        have hjn : (j : Int) < (n : Int) := by omega
        have he := eqIn_eqR x x'
        by_cases hxx : x = x'
        · rw [decide_eq_true hxx] at he
          have HXX := Lib.hid hxx; clear hxx
          go_wp2
          go_quiet (fail)
          go_wp2
          go_roundg (gk - 1)
          case measure => have := HJ.out; have := hlen.out; omega
          case rel => exact ⟨j + 1, _, by have := HJ.out; have := hlen.out; omega, by go_num, rfl, take_eq_succR HX.out (by rw [HX'.out, HXX.out]) HQ.out⟩
        · rw [decide_eq_false hxx] at he
          have HXX := Lib.hid hxx; clear hxx
          go_wp2
          go_quiet (fail)
          go_wp2
          go_ret
          have : sameR l l' = false := by
            unfold sameR
            rw [decide_eq_false_iff_not]
            rintro rfl
            have h1 := HX.out
            rw [HX'.out] at h1
            injection h1 with h1
            exact HXX.out h1.symm
          exact ⟨by rw [this]; rfl, _, World.drewN_drewN ..⟩
      · have hjj : j = n := by have := HJ.out; have := hlen.out; omega
        have : sameR l l' = true := by
          have h1 := HQ.out
          rw [List.take_of_length_le (by have := hlen.out; omega), List.take_of_length_le (by have := hlen'.out; omega)] at h1
          unfold sameR
          rw [h1]
          simp
        have HT := Lib.hid this
        clear this hjj
        go_wp2
        go_ret
        exact ⟨by rw [HT.out]; rfl, _, rfl⟩
  · have hne : ((n : Int) != (n' : Int)) = true := by simp; omega
    go_enter Tryd.func31, Tryd.ntmps31
    go_wp2
    go_ret
    have : sameR l l' = false := by
      unfold sameR
      rw [decide_eq_false_iff_not]
      rintro rfl
      exact hnn (hlen.out.symm.trans hlen'.out)
    exact ⟨by rw [this]; rfl, 0, rfl⟩

theorem eqIn_refSameR (a b : Rn) (w : World) : (Op.equalIn 10000 76 (.agg #[.int .u64 (a.1 : Int), .int .u64 (a.2 : Int)]) (.agg #[.int .u64 (b.1 : Int), .int .u64 (b.2 : Int)])).run Tryd.prog w = .ok (decide (a = b)) w := by
  have hS : Tryd.prog.underlying 76 = some (.struct (Tryd.prog.fieldsOf 76)) := by kernel_rfl
  have hp : Tryd.prog.stoodInHeld 76 = false := by kernel_rfl
  have u3 := Tryd.underlying22
  have a3 := Tryd.isAgg22
  have z3 := Tryd.sizeOf22
  rw [show (10000 : Nat) = 9999 + 1 from rfl, run_equalIn_agg w 9999 76 _ _ hS hp]
  simp only [Program.fieldsOf, Tryd.underlying76]
  go_simp
  obtain ⟨a1, a2⟩ := a
  obtain ⟨b1, b2⟩ := b
  by_cases h1 : a1 = b1 <;> by_cases h2 : a2 = b2 <;> simp [h1, h2] <;> omega
theorem guard_refSameR : Tryd.prog.eqGuardType Tryd.prog.depth 76 = false := by kernel_rfl
set_option maxRecDepth 100000 in
set_option maxHeartbeats 400000 in
theorem refSameR_any (w : World) (B : Nat) (A A' : Option Addr) (n c n' c' : Nat) (l l' : List Rn) (hs : Rs w B A n c l) (hs' : Rs w B A' n' c' l') :
    Calls Tryd.prog 28 #[.slice A n c, .slice A' n' c'] w fun e w' => e = .returned (.bool (sameR l l')) ∧ ∃ q, w' = w.drewN q := by
  have hle := hs.sn.le
  have hmax := hs.sn.max
  have hle' := hs'.sn.le
  have hmax' := hs'.sn.max
  unfold maxLen at hmax hmax'
  have hlen := Lib.hid hs.len
  have hlen' := Lib.hid hs'.len
  have hG := guard_refSameR
  by_cases hnn : n = n'
  · subst hnn
    have HS := Lib.hid hs; clear hs
    have HS' := Lib.hid hs'; clear hs'
    have hne : ((n : Int) != (n : Int)) = false := by simp
    go_enter Tryd.func28, Tryd.ntmps28
    go_wp2
    go_loopg [13] n (fun k i wr => SameRelR w l l' k i wr)
    case atStart => exact ⟨0, 0, by have := hlen.out; omega, rfl, rfl, rfl⟩
    case round =>
      obtain ⟨j, q, hj, rfl, rfl, hq⟩ := hrel
      have HJ := Lib.hid hj; clear hj
      have HQ := Lib.hid hq; clear hq
      by_cases hlt : j < n
      · obtain ⟨b, o, x, rfl, _, hx, hc0, hc1, _, _⟩ := HS.out.at_ hlt
        obtain ⟨b', o', x', rfl, _, hx', hc0', hc1', _, _⟩ := HS'.out.at_ hlt
        have HX := Lib.hid hx; clear hx
        have HX' := Lib.hid hx'; clear hx'
        have hj0 : (0 : Int) ≤ (j : Int) := by omega
        have hjn : (j : Int) < (n : Int) := by omega
        have he := eqIn_refSameR x x'
        by_cases hxx : x = x'
        · rw [decide_eq_true hxx] at he
          have HXX := Lib.hid hxx; clear hxx
          go_wp2
          go_quiet (fail)
          go_wp2
          go_roundg (gk - 1)
          case measure => have := HJ.out; have := hlen.out; omega
          case rel => exact ⟨j + 1, _, by have := HJ.out; have := hlen.out; omega, by go_num, rfl, take_eq_succR HX.out (by rw [HX'.out, HXX.out]) HQ.out⟩
        · rw [decide_eq_false hxx] at he
          have HXX := Lib.hid hxx; clear hxx
          go_wp2
          go_quiet (fail)
          go_wp2
          go_ret
          have : sameR l l' = false := by
            unfold sameR
            rw [decide_eq_false_iff_not]
            rintro rfl
            have h1 := HX.out
            rw [HX'.out] at h1
            injection h1 with h1
            exact HXX.out h1.symm
          exact ⟨by rw [this]; rfl, _, World.drewN_drewN ..⟩
      · have hjj : j = n := by have := HJ.out; have := hlen.out; omega
        have : sameR l l' = true := by
          have h1 := HQ.out
          rw [List.take_of_length_le (by have := hlen.out; omega), List.take_of_length_le (by have := hlen'.out; omega)] at h1
          unfold sameR
          rw [h1]
          simp
        have HT := Lib.hid this
        clear this hjj
        go_wp2
        go_ret
        exact ⟨by rw [HT.out]; rfl, _, rfl⟩
  · have hne : ((n : Int) != (n' : Int)) = true := by simp; omega
    go_enter Tryd.func28, Tryd.ntmps28
    go_wp2
    go_ret
    have : sameR l l' = false := by
      unfold sameR
      rw [decide_eq_false_iff_not]
      rintro rfl
      exact hnn (hlen.out.symm.trans hlen'.out)
    exact ⟨by rw [this]; rfl, 0, rfl⟩

theorem below_drewN' (w : World) (q : Nat) : Below w.heap.size w (w.drewN q) := below_drewN (Below.refl _ _) q
theorem refSameR_says (w : World) (A A' : Option Addr) (n c n' c' : Nat) (l l' : List Rn) (hs : Rs w w.heap.size A n c l) (hs' : Rs w w.heap.size A' n' c' l') :
    Calls Tryd.prog 28 #[.slice A n c, .slice A' n' c'] w (Says w (.bool (sameR l l'))) :=
  (refSameR_any w w.heap.size A A' n c n' c' l l' hs hs').mono fun _ _ ⟨he, q, hw⟩ => ⟨he, hw ▸ below_drewN' w q⟩
/-! ### Clone, Runs -/
theorem SaysOwn.of {w w1 w' : World} {L : List Rn} {e : Ending} (h : SaysOwn w1 w1.heap.size L e w') (hb : Below w.heap.size w w1) : SaysOwn w w.heap.size L e w' := by
  obtain ⟨A, n, c, he, hown, hbel⟩ := h
  have hz := hb.size
  refine ⟨A, n, c, he, ⟨hown.1, ?_⟩, hb.trans (hbel.mono hz)⟩
  rcases hown.2 with hn | ⟨g, cap, cur, hv, hbg, rest⟩
  · exact .inl hn
  · exact .inr ⟨g, cap, cur, hv, Nat.le_trans hz hbg, rest⟩
end Go.Proofs.YtlkcnpmgafckoaaDoor

/-! ## RunsMake -/
namespace Go.Proofs.YtlkcnpmgafckoaaDoor
open Go.RowKit

/-- The set that has just these runs, or none. -/
def SaysMake (w : World) (l : List Rn) (e : Ending) (w' : World) : Prop :=
  (Canon l ∧ ∃ A n c, e = .returned (.tuple #[.agg #[.slice A n c], .bool true]) ∧ St w' w'.heap.size A n c l ∧ (∀ b o, A = some ⟨b, o, none⟩ → w.heap.size < b) ∧ Below w.heap.size w w') ∨
  (¬ Canon l ∧ e = .returned (.tuple #[.agg #[.slice none 0 0], .bool false]) ∧ Below w.heap.size w w')
theorem canon_one_more {l : List Rn} {k : Nat} {r : Rn} (h : Canon (l.take k)) (hr : l[k]? = some r) (ho : r.1 ≤ r.2) (hp : ∀ q, k ≠ 0 → l[k - 1]? = some q → q.2 + 1 < r.1) : Canon (l.take (k + 1)) := by
  rw [List.take_add_one, hr]
  refine canon_snoc h ho fun q hq => ?_
  rcases Nat.eq_zero_or_pos k with h0 | h0
  · subst h0; simp at hq
  · obtain ⟨m, rfl⟩ : ∃ m, k = m + 1 := ⟨k - 1, by omega⟩
    obtain ⟨hk, _⟩ := List.getElem?_eq_some_iff.1 hr
    have hl : l[m]? = some l[m] := List.getElem?_eq_getElem (by omega)
    have h1 := hp l[m] (by omega) (by simp)
    rw [List.take_add_one, hl] at h hq
    obtain ⟨_, hf, hok⟩ := canon_init h
    rcases List.mem_append.1 hq with hq | hq
    · have := hf q hq
      omega
    · simp at hq
      subst hq
      exact h1
def MakeRel (w : World) (l : List Rn) (gk : Nat) (vi : Value) (wr : World) : Prop :=
  ∃ k : Nat, gk + k = l.length ∧ vi = .int .i64 (k : Int) ∧ Canon (l.take k) ∧ Below w.heap.size w wr
set_option maxRecDepth 100000 in
set_option maxHeartbeats 2000000 in
theorem make_any (w : World) (A : Option Addr) (n c : Nat) (l : List Rn) (hs : Rs w w.heap.size A n c l) (hn : n ≤ 100000) :
    Calls Tryd.prog 88 #[.slice A n c] w (SaysMake w l) := by
  obtain ⟨i0, hi0, hz0, hz1, hz2⟩ := info_parts run_info
  have H := Lib.hid hs
  have HLEN : Hid (l.length = n) := hs.len
  have HLT := Lib.hid hs.lt
  clear hs
  go_enter Tryd.func88, Tryd.ntmps88
  go_wp2
  have hb1 := below_box w (.cells #[.slice none 0 0] 131)
  have hR : (w.alloc (.cells #[.slice none 0 0] 131)).heap[w.heap.size]? = some (.cells #[.slice none 0 0] 131 (0, 0)) := heap_alloc_new w _
  have hz : w.heap.size < (w.alloc (.cells #[.slice none 0 0] 131)).heap.size := by simp
  have H1 := Lib.hid (H.out.alloc (Nat.le_refl _) (.cells #[.slice none 0 0] 131))
  generalize w.alloc (.cells #[.slice none 0 0] 131) = w1 at *
  have HR := Lib.hid hR
  clear hR
  go_loopg [8] n (fun gk vi wr => MakeRel w1 l gk vi wr)
  case atStart => exact ⟨0, by have := HLEN.out; omega, rfl, ⟨List.Pairwise.nil, fun q hq => (by cases hq)⟩, Below.refl _ _⟩
  case round =>
    obtain ⟨k, hg, rfl, hcan, hbel⟩ := hrel
    have HG := Lib.hid hg
    have HC := Lib.hid hcan
    have HBW : Hid (Below w.heap.size w wr) := hb1.trans (hbel.mono (by omega))
    have hrr := (hbel.block w.heap.size hz).trans HR.out
    have hcr : wr.cell? ⟨w.heap.size, 0, none⟩ = some (.slice none 0 0) := by rw [cell_of_row wr _ 0 _ _ _ hrr]; rfl
    have hfr := frz_row (i := 0) hrr
    have hzr : w.heap.size < wr.heap.size := Nat.lt_of_lt_of_le hz hbel.size
    have hzle : w.heap.size ≤ w1.heap.size := Nat.le_of_lt hz
    clear hg hcan hrr
    have hsr := H1.out.below hbel hzle
    have HSR := Lib.hid hsr
    by_cases hk : k < n
    · have hkI : (k : Int) < (n : Int) := by omega
      have hk0 : (0 : Int) ≤ (k : Int) := by omega
      obtain ⟨b, o, r, rfl, hbB, hx, hq0, hq1, h1, h2⟩ := hsr.at_ hk
      have HX := Lib.hid hx
      have HB2 : Hid (Below w1.heap.size w1 (wr.alloc (.cells #[.int .u64 (r.1 : Int), .int .u64 (r.2 : Int)] 77))) := hbel.trans ((below_box wr _).mono hbel.size)
      have HB3 : Hid (Below w.heap.size w (wr.alloc (.cells #[.int .u64 (r.1 : Int), .int .u64 (r.2 : Int)] 77))) := HBW.out.trans ((below_box wr _).mono HBW.out.size)
      have HC6 : Hid (∀ wx, Below wr.heap.size wr wx → (wx.setCell ⟨w.heap.size, 0, none⟩ (.slice none 0 0)).cell? ⟨w.heap.size, 0, none⟩ = some (.slice none 0 0)) := fun wx hw => World.cell?_setCell_same _ _ _ ((hw.cell (p := ⟨w.heap.size, 0, none⟩) hzr).trans hcr)
      clear hx hsr
      by_cases h3 : r.2 < r.1
      · have h3I : (r.2 : Int) < (r.1 : Int) := by omega
        have HNC : Hid (¬ Canon l) := fun h => by have := h.ok r (List.mem_of_getElem? HX.out); omega
        go_wp2_with fail
        go_quiet (fail)
        go_wp2
        have hc6 := HC6.out _ (below_drewN (below_box wr (.cells #[.int .u64 (r.1 : Int), .int .u64 (r.2 : Int)] 77)) nq)
        refine bodyPost_ret (v := .tuple #[.agg #[.slice none 0 0], .bool false]) (by simp [results, Tryd.results88, go_sem, hc6]) rfl ?_
        exact .inr ⟨HNC.out, rfl, (below_drewN HB3.out nq).setCell (Nat.le_refl _) _⟩
      · have h3I : decide ((r.2 : Int) < (r.1 : Int)) = false := by simp; omega
        have h3N : decide (r.2 < r.1) = false := by simp; omega
        rcases Nat.eq_zero_or_pos k with h0 | h0
        · have h0I : decide ((0 : Int) < (k : Int)) = false := by simp; omega
          have h0N : decide (0 < k) = false := by simp; omega
          have HK0 := Lib.hid h0
          clear h0
          go_wp2_with fail
          go_quiet (fail)
          go_wp2
          go_roundg (gk - 1)
          case measure => have := HG.out; have := HLEN.out; omega
          case rel => exact ⟨k + 1, by have := HG.out; have := HLEN.out; omega, by go_num, canon_one_more HC.out HX.out (by omega) (fun q h => absurd HK0.out h), below_drewN HB2.out _⟩
        · obtain ⟨m, hm⟩ : ∃ m, k = m + 1 := ⟨k - 1, by omega⟩
          have h0I : (0 : Int) < (k : Int) := by omega
          have hwm : IntKind.i64.wrap ((k : Int) - 1) = (m : Int) := by rw [IntKind.wrap_i64]; omega
          have hm0 : (0 : Int) ≤ (m : Int) := by omega
          have hmn : (m : Int) < (n : Int) := by omega
          obtain ⟨b2, o2, q, e2, _, hxq, hp0, hp1, hq1', hq2'⟩ := HSR.out.at_ (show m < n by omega)
          injection e2 with e2
          injection e2 with e3 e4
          subst e3 e4
          have HXQ := Lib.hid hxq
          have HKM := Lib.hid hm
          clear hxq hm
          have hbw : b < wr.heap.size := Nat.lt_of_lt_of_le hbB (Nat.le_of_lt hzr)
          have hE : Ever (fun w' => (w'.cell? ⟨b, o + m * 2, none⟩ = some (.int .u64 (q.1 : Int)) ∧ w'.cell? ⟨b, o + m * 2 + 1, none⟩ = some (.int .u64 (q.2 : Int)) ∧ w'.cell? ⟨wr.heap.size, 0, none⟩ = some (.int .u64 (r.1 : Int)) ∧ w'.cell? ⟨wr.heap.size, 1, none⟩ = some (.int .u64 (r.2 : Int))) ∧ Below wr.heap.size wr w') (wr.alloc (.cells #[.int .u64 (r.1 : Int), .int .u64 (r.2 : Int)] 77)) := by
            intro w' hw
            have hb : Below wr.heap.size wr w' := (below_box wr (.cells #[.int .u64 (r.1 : Int), .int .u64 (r.2 : Int)] 77)).trans (hw.mono (by simp))
            exact ⟨⟨(hb.cell (p := ⟨b, o + m * 2, none⟩) hbw).trans hp0, (hb.cell (p := ⟨b, o + m * 2 + 1, none⟩) hbw).trans hp1, ever_cell (cell_last wr _ _ _ 0 rfl) _ hw, ever_cell (cell_last wr _ _ _ 1 rfl) _ hw⟩, hb⟩
          obtain ⟨Ps, HP⟩ : ∃ Ps : World → Prop, Hid (Ps = fun w' => (w'.cell? ⟨b, o + m * 2, none⟩ = some (.int .u64 (q.1 : Int)) ∧ w'.cell? ⟨b, o + m * 2 + 1, none⟩ = some (.int .u64 (q.2 : Int)) ∧ w'.cell? ⟨wr.heap.size, 0, none⟩ = some (.int .u64 (r.1 : Int)) ∧ w'.cell? ⟨wr.heap.size, 1, none⟩ = some (.int .u64 (r.2 : Int))) ∧ Below wr.heap.size wr w') := ⟨_, rfl⟩
          have HN : Hid (∀ w', Ps w' → (w'.cell? ⟨b, o + m * 2, none⟩ = some (.int .u64 (q.1 : Int)) ∧ w'.cell? ⟨b, o + m * 2 + 1, none⟩ = some (.int .u64 (q.2 : Int)) ∧ w'.cell? ⟨wr.heap.size, 0, none⟩ = some (.int .u64 (r.1 : Int)) ∧ w'.cell? ⟨wr.heap.size, 1, none⟩ = some (.int .u64 (r.2 : Int))) ∧ Below wr.heap.size wr w') := by rw [HP.out]; exact fun _ h => h
          replace hE : Ever Ps (wr.alloc (.cells #[.int .u64 (r.1 : Int), .int .u64 (r.2 : Int)] 77)) := by rw [HP.out]; exact hE
          have HA : Hid (∀ w', Ps w' → Calls Tryd.prog 93 #[.agg #[.int .u64 (q.1 : Int), .int .u64 (q.2 : Int)], .agg #[.int .u64 (r.1 : Int), .int .u64 (r.2 : Int)]] w' (Says w' (.bool (apartB q r)))) := fun w' _ => apart_any w' q r ⟨hq1', hq2'⟩ ⟨h1, h2⟩
          by_cases hap : q.2 + 1 < r.1
          · rw [show apartB q r = true from by simp [apartB, hap]] at HA
            go_wp2_with fail
            have hE2 := hE.drewN 1
            clear hE HP hp0 hp1 hq0 hq1
            generalize wr.alloc (.cells #[.int .u64 (r.1 : Int), .int .u64 (r.2 : Int)] 77) = wb at *
            go_region_held3 (fun w' => (w'.cell? ⟨b, o + m * 2, none⟩ = some (.int .u64 (q.1 : Int)) ∧ w'.cell? ⟨b, o + m * 2 + 1, none⟩ = some (.int .u64 (q.2 : Int)) ∧ w'.cell? ⟨wr.heap.size, 0, none⟩ = some (.int .u64 (r.1 : Int)) ∧ w'.cell? ⟨wr.heap.size, 1, none⟩ = some (.int .u64 (r.2 : Int))) ∧ Ever Ps w') (first | exact ⟨(HN.out _ hE2.now).1, hE2⟩) (first
              | (go_at_call 93; with_reducible refine calls_ever (Ps := Ps) (by assumption) HA.out ?_; clear hE2; intro w2 hE2))
            have HBB := Lib.hid (HN.out _ hE2.now).2
            clear hE2
            go_wp2
            go_roundg (gk - 1)
            case measure => have := HG.out; have := HLEN.out; omega
            case rel => exact ⟨k + 1, by have := HG.out; have := HLEN.out; omega, by go_num, canon_one_more HC.out HX.out (by omega) (fun p h hp => by rw [HKM.out] at hp; have := HXQ.out; simp only [Nat.add_sub_cancel] at hp; rw [this] at hp; injection hp with hp; subst hp; exact hap), hbel.trans (HBB.out.mono hbel.size)⟩
          · rw [show apartB q r = false from by simp [apartB]; omega] at HA
            have HNC : Hid (¬ Canon l) := fun h => by
              have h5 := List.pairwise_iff_getElem.1 h.far m k (by have := HLEN.out; omega) (by have := HLEN.out; omega) (by have := HKM.out; omega)
              have e5 := HXQ.out
              have e6 := HX.out
              rw [List.getElem?_eq_getElem (by have := HLEN.out; omega)] at e5 e6
              injection e5 with e5
              injection e6 with e6
              rw [e5, e6] at h5
              exact hap h5
            go_wp2_with fail
            have hE2 := hE.drewN 1
            clear hE HP hp0 hp1 hq0 hq1
            generalize wr.alloc (.cells #[.int .u64 (r.1 : Int), .int .u64 (r.2 : Int)] 77) = wb at *
            go_region_held3 (fun w' => (w'.cell? ⟨b, o + m * 2, none⟩ = some (.int .u64 (q.1 : Int)) ∧ w'.cell? ⟨b, o + m * 2 + 1, none⟩ = some (.int .u64 (q.2 : Int)) ∧ w'.cell? ⟨wr.heap.size, 0, none⟩ = some (.int .u64 (r.1 : Int)) ∧ w'.cell? ⟨wr.heap.size, 1, none⟩ = some (.int .u64 (r.2 : Int))) ∧ Ever Ps w') (first | exact ⟨(HN.out _ hE2.now).1, hE2⟩) (first
              | (go_at_call 93; with_reducible refine calls_ever (Ps := Ps) (by assumption) HA.out ?_; clear hE2; intro w2 hE2))
            have HBB := Lib.hid (HN.out _ hE2.now).2
            have hc2 : w2.cell? ⟨w.heap.size, 0, none⟩ = some (.slice none 0 0) := (HBB.out.cell (p := ⟨w.heap.size, 0, none⟩) hzr).trans hcr
            have hf2 : w2.frozen? ⟨w.heap.size, 0, none⟩ = false := (HBB.out.frozen (p := ⟨w.heap.size, 0, none⟩) hzr).trans hfr
            have hc6 := HC6.out _ HBB.out
            clear hE2
            go_wp2
            refine bodyPost_ret (v := .tuple #[.agg #[.slice none 0 0], .bool false]) (by simp [results, Tryd.results88, go_sem, hc6]) rfl ?_
            exact .inr ⟨HNC.out, rfl, (HBW.out.trans (HBB.out.mono HBW.out.size)).setCell (Nat.le_refl _) _⟩
    · have hkI : ¬ (k : Int) < (n : Int) := by omega
      have HE : Hid (l.take k = l) := List.take_of_length_le (by have := HLEN.out; omega)
      have HS2 := Lib.hid (hsr.more (Nat.le_of_lt hzr))
      clear hsr
      go_wp2_with (at_builtin; refine wpList_append_dstN _ rfl (.const (.slice none 0 0)) (.tmp 34) 23 23 rfl wr.heap.size 77 i0 _ 2 16 Tryd.underlying23 hi0 hz0 hz1 hz2 rfl none 0 0 (rvs []) rfl (.inr ⟨rfl, .inl ⟨rfl, rfl⟩⟩) _ n (rvs l) rfl (HS2.out.sn.src Tryd.underlying23 (rvs_one l)) (by omega) (by omega) (Nat.le_refl _) ?_; intro A3 c3 w3 h1 h2 h3 h4 h5 h6; have hr3 := ((h4.block w.heap.size hzr).trans (hbel.block w.heap.size hz)).trans HR.out; have hc3 : w3.cell? ⟨w.heap.size, 0, none⟩ = some (.slice none 0 0) := (by rw [cell_of_row w3 _ 0 _ _ _ hr3]; rfl); have hf3 := frz_row (i := 0) hr3; have HO3 := Lib.hid (h3 ⟨rfl, .inl ⟨rfl, rfl⟩⟩); have HB3 := Lib.hid h4; clear h1 h2 h3 h4 h5 h6 hr3)
      have hc6 : (w3.setCell ⟨w.heap.size, 0, none⟩ (.slice A3 n c3)).cell? ⟨w.heap.size, 0, none⟩ = some (.slice A3 n c3) := World.cell?_setCell_same _ _ _ hc3
      refine bodyPost_ret (v := .tuple #[.agg #[.slice A3 n c3], .bool true]) (by simp [results, Tryd.results88, go_sem, hc6]) rfl ?_
      have hown := HO3.out
      rw [show rvs [] ++ rvs l = rvs l from rfl, Nat.zero_add] at hown
      have hcn := HC.out
      rw [HE.out] at hcn
      have hst := St.of_own hown HLT.out
      have hlow : ∀ b o, A3 = some ⟨b, o, none⟩ → wr.heap.size ≤ b := fun b o e => (hown.lt b (by rw [e]; rfl)).1
      refine .inl ⟨hcn, A3, n, c3, rfl, ?_, fun b o e => by have := hlow b o e; omega, (HBW.out.trans (HB3.out.mono (Nat.le_of_lt hzr))).setCell (Nat.le_refl _) _⟩
      have hz3 : w3.heap.size ≤ (w3.setCell ⟨w.heap.size, 0, none⟩ (.slice A3 n c3)).heap.size := by simp [World.setCell]
      exact ⟨(hst.rs.off (p := ⟨w.heap.size, 0, none⟩) (fun b o e => by have := hlow b o e; show b ≠ w.heap.size; omega) _).more hz3, fun b o e => Nat.lt_of_lt_of_le (hst.lies b o e) hz3⟩
end Go.Proofs.YtlkcnpmgafckoaaDoor

/-! ## RunsHelp -/
namespace Go.Proofs.YtlkcnpmgafckoaaDoor
open Go.RowKit

theorem rrun_info : (Tryd.prog.info? 76).map (fun i => (i.zero, i.size, i.bytes)) = some (some (.agg #[.int .u64 0, .int .u64 0]), 2, 16) := by kernel_rfl
/-! ### Count -/
/-! ### set -/
end Go.Proofs.YtlkcnpmgafckoaaDoor

/-! ## RunsCard -/
namespace Go.Proofs.YtlkcnpmgafckoaaDoor
/-! ### counting by membership -/
end Go.Proofs.YtlkcnpmgafckoaaDoor

/-! ## RefRuns -/
namespace Go.Proofs.YtlkcnpmgafckoaaDoor
open Go.RowKit

/-! ### lower -/
def okR (v : Nat) (r : Rn) : Prop := r.1 ≤ r.2 ∧ v ≤ r.2
/-- The best of the first k so far. -/
def Best (l : List Rn) (v k : Nat) (z : Int) : Prop :=
  (z = -1 ∧ ∀ j r, j < k → l[j]? = some r → ¬ okR v r) ∨ ∃ (b : Nat) (q : Rn), z = (b : Int) ∧ b < k ∧ l[b]? = some q ∧ okR v q ∧ ∀ j r, j < k → l[j]? = some r → okR v r → q.1 ≤ r.1
theorem Best.skip {l : List Rn} {v k : Nat} {z : Int} {r : Rn} (h : Best l v k z) (hr : l[k]? = some r) (hn : ¬ okR v r) : Best l v (k + 1) z := by
  rcases h with ⟨hz, h⟩ | ⟨b, q, hz, hb, hq, ho, h⟩
  · refine .inl ⟨hz, fun j r' hj hr' => ?_⟩
    rcases Nat.lt_or_ge j k with hjk | hjk
    · exact h j r' hjk hr'
    · obtain rfl : j = k := by omega
      rw [hr] at hr'
      injection hr' with hr'
      subst hr'
      exact hn
  · refine .inr ⟨b, q, hz, by omega, hq, ho, fun j r' hj hr' hok => ?_⟩
    rcases Nat.lt_or_ge j k with hjk | hjk
    · exact h j r' hjk hr' hok
    · obtain rfl : j = k := by omega
      rw [hr] at hr'
      injection hr' with hr'
      subst hr'
      exact absurd hok hn
theorem Best.first {l : List Rn} {v k : Nat} {r : Rn} (h : Best l v k (-1)) (hr : l[k]? = some r) (ho : okR v r) : Best l v (k + 1) (k : Int) := by
  rcases h with ⟨_, h⟩ | ⟨b, q, hz, hb, hq, ho', h⟩
  · refine .inr ⟨k, r, rfl, by omega, hr, ho, fun j r' hj hr' hok => ?_⟩
    rcases Nat.lt_or_ge j k with hjk | hjk
    · exact absurd hok (h j r' hjk hr')
    · obtain rfl : j = k := by omega
      rw [hr] at hr'
      injection hr' with hr'
      subst hr'
      exact Nat.le_refl _
  · omega
theorem Best.better {l : List Rn} {v k b : Nat} {q r : Rn} (h : Best l v k (b : Int)) (hq : l[b]? = some q) (hr : l[k]? = some r) (ho : okR v r) (hlt : r.1 < q.1) : Best l v (k + 1) (k : Int) := by
  rcases h with ⟨hz, h⟩ | ⟨b', q', hz, hb, hq', ho', h⟩
  · omega
  · obtain rfl : b = b' := by omega
    rw [hq] at hq'
    injection hq' with hq'
    subst hq'
    refine .inr ⟨k, r, rfl, by omega, hr, ho, fun j r' hj hr' hok => ?_⟩
    rcases Nat.lt_or_ge j k with hjk | hjk
    · have := h j r' hjk hr' hok
      omega
    · obtain rfl : j = k := by omega
      rw [hr] at hr'
      injection hr' with hr'
      subst hr'
      exact Nat.le_refl _
theorem Best.stay {l : List Rn} {v k b : Nat} {q r : Rn} (h : Best l v k (b : Int)) (hq : l[b]? = some q) (hr : l[k]? = some r) (hlt : ¬ r.1 < q.1) : Best l v (k + 1) (b : Int) := by
  rcases h with ⟨hz, h⟩ | ⟨b', q', hz, hb, hq', ho', h⟩
  · omega
  · obtain rfl : b = b' := by omega
    rw [hq] at hq'
    injection hq' with hq'
    subst hq'
    refine .inr ⟨b, q, rfl, by omega, hq, ho', fun j r' hj hr' hok => ?_⟩
    rcases Nat.lt_or_ge j k with hjk | hjk
    · exact h j r' hjk hr' hok
    · obtain rfl : j = k := by omega
      rw [hr] at hr'
      injection hr' with hr'
      subst hr'
      omega
def LowRel (w : World) (l : List Rn) (v gk : Nat) (vb vi : Value) (wr : World) : Prop :=
  ∃ (k : Nat) (z : Int), gk + k = l.length ∧ vb = .int .i64 z ∧ vi = .int .i64 (k : Int) ∧ Best l v k z ∧ Below w.heap.size w wr
def SaysLow (w : World) (l : List Rn) (v : Nat) (e : Ending) (w' : World) : Prop := ∃ z : Int, e = .returned (.int .i64 z) ∧ Best l v l.length z ∧ Below w.heap.size w w'
set_option maxRecDepth 100000 in
set_option maxHeartbeats 1000000 in
theorem lower_any (w : World) (A : Option Addr) (n c v : Nat) (l : List Rn) (hs : Rs w w.heap.size A n c l) :
    Calls Tryd.prog 59 #[.slice A n c, .int .u64 (v : Int)] w (SaysLow w l v) := by
  have H := Lib.hid hs
  have HLEN : Hid (l.length = n) := hs.len
  have hmax := hs.sn.max
  have hle := hs.sn.le
  unfold maxLen at hmax
  clear hs
  go_enter Tryd.func59, Tryd.ntmps59
  go_wp2
  go_loopg [5, 10] n (fun gk vb vi wr => LowRel w l v gk vb vi wr)
  case atStart => exact ⟨0, -1, by have := HLEN.out; omega, rfl, rfl, .inl ⟨rfl, fun j r hj => by omega⟩, Below.refl _ _⟩
  case round =>
    obtain ⟨k, z, hg, rfl, rfl, hbest, hbel⟩ := hrel
    have HG := Lib.hid hg
    have HBS := Lib.hid hbest
    clear hg hbest
    have hsr := H.out.below hbel (Nat.le_refl _)
    have HSR := Lib.hid hsr
    by_cases hk : k < n
    · have hkI : (k : Int) < (n : Int) := by omega
      have hk0 : (0 : Int) ≤ (k : Int) := by omega
      obtain ⟨b, o, r, rfl, hbB, hx, hq0, hq1, h1, h2⟩ := hsr.at_ hk
      have HX := Lib.hid hx
      clear hx hsr
      have HB2 : Hid (Below w.heap.size w (wr.alloc (.cells #[.int .u64 (r.1 : Int), .int .u64 (r.2 : Int)] 76))) := hbel.trans ((below_box wr _).mono hbel.size)
      by_cases h3 : r.1 ≤ r.2
      · have h3I : (r.1 : Int) ≤ (r.2 : Int) := by omega
        by_cases h4 : v ≤ r.2
        · have h4I : (v : Int) ≤ (r.2 : Int) := by omega
          rcases (show z = -1 ∨ ∃ b q, z = ((b : Nat) : Int) ∧ b < n ∧ l[b]? = some q from by
            rcases HBS.out with ⟨hz, _⟩ | ⟨b, q, hz, hb, hq, _⟩
            · exact .inl hz
            · exact .inr ⟨b, q, hz, by omega, hq⟩) with rfl | ⟨p, q, rfl, hp, hq⟩
          · go_wp2_with fail
            go_quiet (fail)
            go_wp2
            go_roundg (gk - 1)
            case measure => have := HG.out; have := HLEN.out; omega
            case rel => exact ⟨k + 1, k, by have := HG.out; have := HLEN.out; omega, rfl, by go_num, HBS.out.first HX.out ⟨h3, h4⟩, below_drewN HB2.out _⟩
          · have hp0 : (0 : Int) ≤ (p : Int) := by omega
            have hpn : (p : Int) < (n : Int) := by omega
            have hpd : decide ((p : Int) < 0) = false := by simp
            have hbw : b < wr.heap.size := Nat.lt_of_lt_of_le hbB hbel.size
            obtain ⟨b2, o2, q2, e2, _, hx2, hc0, _, _, _⟩ := HSR.out.at_ hp
            injection e2 with e2
            injection e2 with e3 e4
            subst e3 e4
            rw [hq] at hx2
            injection hx2 with hx2
            subst hx2
            have HQ := Lib.hid hq
            clear hq
            by_cases h5 : r.1 < q.1
            · have h5I : (r.1 : Int) < (q.1 : Int) := by omega
              go_wp2_with fail
              go_quiet (fail)
              go_wp2
              go_roundg (gk - 1)
              case measure => have := HG.out; have := HLEN.out; omega
              case rel => exact ⟨k + 1, k, by have := HG.out; have := HLEN.out; omega, rfl, by go_num, HBS.out.better HQ.out HX.out ⟨h3, h4⟩ h5, below_drewN HB2.out _⟩
            · have h5I : ¬ (r.1 : Int) < (q.1 : Int) := by omega
              go_wp2_with fail
              go_quiet (fail)
              go_wp2
              go_roundg (gk - 1)
              case measure => have := HG.out; have := HLEN.out; omega
              case rel => exact ⟨k + 1, p, by have := HG.out; have := HLEN.out; omega, rfl, by go_num, HBS.out.stay HQ.out HX.out h5, below_drewN HB2.out _⟩
        · have h4I : decide ((v : Int) ≤ (r.2 : Int)) = false := by simp; omega
          have h4N : decide (v ≤ r.2) = false := by simp; omega
          go_wp2_with fail
          go_quiet (fail)
          go_wp2
          go_roundg (gk - 1)
          case measure => have := HG.out; have := HLEN.out; omega
          case rel => exact ⟨k + 1, z, by have := HG.out; have := HLEN.out; omega, rfl, by go_num, HBS.out.skip HX.out (fun h => h4 h.2), below_drewN HB2.out _⟩
      · have h3I : decide ((r.1 : Int) ≤ (r.2 : Int)) = false := by simp; omega
        have h3N : decide (r.1 ≤ r.2) = false := by simp; omega
        go_wp2_with fail
        go_quiet (fail)
        go_wp2
        go_roundg (gk - 1)
        case measure => have := HG.out; have := HLEN.out; omega
        case rel => exact ⟨k + 1, z, by have := HG.out; have := HLEN.out; omega, rfl, by go_num, HBS.out.skip HX.out (fun h => h3 h.1), below_drewN HB2.out _⟩
    · have hkI : ¬ (k : Int) < (n : Int) := by omega
      have HK : Hid (k = l.length) := by have := HG.out; have := HLEN.out; show _ = _; omega
      clear hsr
      go_wp2
      go_ret
      exact ⟨z, rfl, HK.out ▸ HBS.out, hbel⟩
end Go.Proofs.YtlkcnpmgafckoaaDoor

/-! ## PlainMath -/
namespace Go.Proofs.YtlkcnpmgafckoaaDoor

/-- How many runs reach up to a number. -/
def left (l : List Rn) (a : Nat) : Nat := l.countP fun r => decide (a ≤ r.2)
theorem left_mono (l : List Rn) {a b : Nat} (h : a ≤ b) : left l b ≤ left l a := by
  unfold left
  refine List.countP_mono_left fun r _ hr => ?_
  simp at hr ⊢
  omega
theorem left_lt {l : List Rn} {a b : Nat} {q : Rn} (hq : q ∈ l) (h : a ≤ b) (ha : a ≤ q.2) (hb : q.2 < b) : left l b < left l a := by
  induction l with
  | nil => cases hq
  | cons r s ih =>
    have hm := left_mono s h
    unfold left at *
    rw [List.countP_cons, List.countP_cons]
    rcases List.mem_cons.1 hq with rfl | hq
    · simp [ha, Nat.not_le.2 hb]
      omega
    · have := ih hq
      by_cases h1 : b ≤ r.2
      · simp [h1, Nat.le_trans h h1]
        omega
      · simp [h1]
        split <;> omega
structure PlainSt (l : List Rn) (a : Nat) (P : List Rn) : Prop where
  lt : a < two64
  ok : Okl P
  mem : ∀ x, memR P x ↔ memR l x ∧ x < a
  low : ∀ r ∈ P, r.2 < a
  gap : P = [] ∨ ¬ memR l a
theorem PlainSt.start (l : List Rn) : PlainSt l 0 [] := ⟨by unfold two64; omega, Okl.nil, fun x => (by simp [memR_nil]), fun r hr => (by cases hr), .inl rfl⟩
theorem PlainSt.done {l P : List Rn} {a : Nat} (h : PlainSt l a P) (hl : ∀ q ∈ l, q.1 < two64 ∧ q.2 < two64) (hb : ∀ r ∈ l, ¬ okR a r) : P = setL l := by
  obtain ⟨h1, h2, _⟩ := set_spec l hl
  refine okl_ext h.ok h1 fun x => ?_
  rw [h.mem, h2]
  constructor
  · exact fun h => h.1
  · rintro ⟨r, hr, h3, h4⟩
    refine ⟨⟨r, hr, h3, h4⟩, ?_⟩
    rcases Nat.lt_or_ge x a with hx | hx
    · exact hx
    · exact absurd ⟨by omega, by omega⟩ (hb r hr)
/-- What may make a run longer. -/
def ext (x : Rn) (t : Nat) : Prop := x.1 ≤ x.2 ∧ t < x.2 ∧ (x.1 ≤ t ∨ x.1 = t + 1)
structure GrowSt (l : List Rn) (a f t : Nat) : Prop where
  le : f ≤ t
  lt : t < two64
  from_ : a ≤ f
  all : ∀ x, f ≤ x → x ≤ t → memR l x
  none_ : ∀ x, a ≤ x → x < f → ¬ memR l x
theorem grow_start {l : List Rn} {a : Nat} {q : Rn} (hq : q ∈ l) (ho : okR a q) (hm : ∀ r ∈ l, okR a r → q.1 ≤ r.1) (hl : ∀ q ∈ l, q.1 < two64 ∧ q.2 < two64) : GrowSt l a (max q.1 a) q.2 where
  le := by have := ho.1; have := ho.2; omega
  lt := (hl q hq).2
  from_ := by omega
  all := fun x h1 h2 => ⟨q, hq, by omega, h2⟩
  none_ := fun x h1 h2 => by
    rintro ⟨r, hr, h3, h4⟩
    have := hm r hr ⟨by omega, by omega⟩
    omega
theorem GrowSt.grow {l : List Rn} {a f t : Nat} (h : GrowSt l a f t) {x : Rn} (hx : x ∈ l) (hl : ∀ q ∈ l, q.1 < two64 ∧ q.2 < two64) (he : ext x t) : GrowSt l a f x.2 where
  le := by have := h.le; have := he.2.1; omega
  lt := (hl x hx).2
  from_ := h.from_
  all := fun y h1 h2 => by
    rcases Nat.lt_or_ge t y with hy | hy
    · have := he.2.2
      exact ⟨x, hx, by omega, h2⟩
    · exact h.all y h1 hy
  none_ := h.none_
def closed3 (l : List Rn) (t : Nat) : Prop := ∀ x ∈ l, ¬ ext x t
theorem closed_not {l : List Rn} {t : Nat} (h : closed3 l t) : ¬ memR l (t + 1) := by
  rintro ⟨r, hr, h1, h2⟩
  exact h r hr ⟨by omega, by omega, by omega⟩
theorem PlainSt.step {l P : List Rn} {a f t : Nat} (h : PlainSt l a P) (hg : GrowSt l a f t) :
    Okl (P ++ [(f, t)]) ∧ (∀ x, memR (P ++ [(f, t)]) x ↔ memR l x ∧ x ≤ t) := by
  have hle := hg.le
  have hlt := hg.lt
  have hfr := hg.from_
  refine ⟨⟨canon_snoc h.ok.can hg.le (fun p hp => ?_), fun q hq => ?_⟩, fun x => ?_⟩
  · have h1 := h.low p hp
    show p.2 + 1 < f
    rcases h.gap with hP | hP
    · rw [hP] at hp; cases hp
    · have h2 := hg.all f (Nat.le_refl _) hg.le
      have : f ≠ a := fun e => hP (e ▸ h2)
      omega
  · rcases List.mem_append.1 hq with hq | hq
    · exact h.ok.lt q hq
    · rw [List.mem_singleton] at hq
      subst hq
      exact ⟨by show f < two64; omega, hg.lt⟩
  · rw [memR_app, memR_one, h.mem]
    constructor
    · rintro (⟨h1, h2⟩ | ⟨h1, h2⟩)
      · exact ⟨h1, by omega⟩
      · exact ⟨hg.all x h1 h2, h2⟩
    · rintro ⟨h1, h2⟩
      rcases Nat.lt_or_ge x a with hx | hx
      · exact .inl ⟨h1, hx⟩
      · right
        refine ⟨?_, h2⟩
        rcases Nat.lt_or_ge x f with hxf | hxf
        · exact absurd h1 (hg.none_ x hx hxf)
        · exact hxf
theorem PlainSt.next {l P : List Rn} {a f t : Nat} (h : PlainSt l a P) (hg : GrowSt l a f t) (hc : closed3 l t) (ht : t + 1 < two64) : PlainSt l (t + 1) (P ++ [(f, t)]) := by
  obtain ⟨h1, h2⟩ := h.step hg
  have := hg.from_
  have := hg.le
  refine ⟨ht, h1, fun x => by rw [h2]; constructor <;> (rintro ⟨h3, h4⟩; exact ⟨h3, by omega⟩), fun r hr => ?_, .inr (closed_not hc)⟩
  rcases List.mem_append.1 hr with hr | hr
  · have := h.low r hr; omega
  · rw [List.mem_singleton] at hr
    subst hr
    show t < t + 1
    omega
theorem PlainSt.last {l P : List Rn} {a f t : Nat} (h : PlainSt l a P) (hl : ∀ q ∈ l, q.1 < two64 ∧ q.2 < two64) (hg : GrowSt l a f t) (ht : t = two64 - 1) : P ++ [(f, t)] = setL l := by
  obtain ⟨h1, h2⟩ := h.step hg
  obtain ⟨k1, k2, _⟩ := set_spec l hl
  refine okl_ext h1 k1 fun x => ?_
  rw [h2, k2]
  constructor
  · exact fun h => h.1
  · rintro ⟨r, hr, h3, h4⟩
    have := (hl r hr).2
    exact ⟨⟨r, hr, h3, h4⟩, by omega⟩
end Go.Proofs.YtlkcnpmgafckoaaDoor

/-! ## RefPlain -/
namespace Go.Proofs.YtlkcnpmgafckoaaDoor
open Go.RowKit

def OwnP (w : World) (base : Nat) (A : Option Addr) (n c : Nat) (L : List Rn) : Prop := w.ownsRow base 76 2 (.slice A n c) n (rvs L)
def PlainRel (w : World) (l : List Rn) (gk : Nat) (vo va : Value) (wr : World) : Prop :=
  ∃ (A : Option Addr) (n c a : Nat) (P : List Rn), vo = .slice A n c ∧ va = .int .u64 (a : Int) ∧ OwnP wr w.heap.size A n c P ∧ PlainSt l a P ∧ left l a ≤ gk ∧ n + left l a ≤ l.length ∧ Below w.heap.size w wr
/-- While a run grows: its cell is block Y; below Y nothing has turned since wp. -/
def GrowRel (wp : World) (Y : Nat) (l : List Rn) (a f t1 gk : Nat) (vg : Value) (wr : World) : Prop :=
  ∃ (t : Nat) (g : Bool), vg = .bool g ∧ wr.heap[Y]? = some (.cells #[.int .u64 (f : Int), .int .u64 (t : Int)] 76 (0, 0)) ∧ GrowSt l a f t ∧ t1 ≤ t ∧ (g = false → closed3 l t) ∧ left l (t + 1) + (if g = true then 1 else 0) ≤ gk ∧ Below Y wp wr
def PassRel (wp : World) (Y : Nat) (l : List Rn) (a f t0 gk : Nat) (vg vi : Value) (wr : World) : Prop :=
  ∃ (k t : Nat) (g : Bool), gk + k = l.length ∧ vg = .bool g ∧ vi = .int .i64 (k : Int) ∧ wr.heap[Y]? = some (.cells #[.int .u64 (f : Int), .int .u64 (t : Int)] 76 (0, 0)) ∧ GrowSt l a f t ∧ t0 ≤ t ∧
    (g = false → t = t0 ∧ ∀ j x, j < k → l[j]? = some x → ¬ ext x t) ∧ (g = true → t0 < t ∧ ∃ x ∈ l, x.2 = t) ∧ Below Y wp wr

theorem Far.of_ownP {w : World} {base X : Nat} {A : Option Addr} {n c : Nat} {L : List Rn} (h : OwnP w base A n c L) (hX : w.heap.size ≤ X) : Far X A := by
  intro p e
  subst e
  have := (h.lt p.block (by simp [Value.ownBlock])).2
  omega
theorem setCell1_row (w : World) (X : Nat) (t : TypeId) (a u v : Value) (h : w.heap[X]? = some (.cells #[a, u] t (0, 0))) : (w.setCell ⟨X, 1, none⟩ v).heap[X]? = some (.cells #[a, v] t (0, 0)) := by
  simp [World.setCell, Array.getElem?_modify, h]

set_option maxRecDepth 100000 in
set_option maxHeartbeats 4000000 in
theorem plain_any (w : World) (A : Option Addr) (n c : Nat) (l : List Rn) (hs : Rs w w.heap.size A n c l) (hn : n ≤ 100000) :
    Calls Tryd.prog 29 #[.slice A n c] w (SaysR w (setL l)) := by
  obtain ⟨i0, hi0, hz0, hz1, hz2⟩ := info_parts rrun_info
  have H := Lib.hid hs
  have HLEN : Hid (l.length = n) := hs.len
  have HLT := Lib.hid hs.lt
  have HOK := Lib.hid (set_spec l hs.lt).1
  clear hs
  obtain ⟨R, HR⟩ : ∃ R, Hid (R = setL l) := ⟨_, rfl⟩
  rw [← HR.out]
  go_enter Tryd.func29, Tryd.ntmps29
  go_wp2
  go_loopg [3, 4] n (fun gk vo va wr => PlainRel w l gk vo va wr)
  case atStart => exact ⟨none, 0, 0, 0, [], rfl, rfl, ⟨rfl, .inl ⟨rfl, rfl⟩⟩, PlainSt.start l, by rw [← HLEN.out]; exact List.countP_le_length, by rw [Nat.zero_add]; exact List.countP_le_length, Below.refl _ _⟩
  case round =>
    obtain ⟨A2, n2, c2, a, P, rfl, rfl, hown, hst, hgk, hnl, hbel⟩ := hrel
    have HOWN := Lib.hid hown
    have HST := Lib.hid hst
    have HGK := Lib.hid hgk
    have HNL := Lib.hid hnl
    clear hown hst hgk hnl
    have hsr := H.out.below hbel (Nat.le_refl _)
    have HSR := Lib.hid (hsr.more hbel.size)
    clear hsr
    go_wp2_with fail
    refine (lower_any wr A n c a l HSR.out).mono ?_
    rintro e wp ⟨z, rfl, hbest, hbp⟩
    have HOP : Hid (OwnP wp w.heap.size A2 n2 c2 P) := HOWN.out.kept (only_below' hbp) (by cases (Value.slice A2 n2 c2).ownBlock <;> simp)
    have hbw : Below w.heap.size w wp := hbel.trans (hbp.mono hbel.size)
    have HSP := Lib.hid (HSR.out.on hbp (Nat.le_refl _))
    clear hbp hbel HOWN HSR
    rcases hbest with ⟨rfl, hnone⟩ | ⟨p, q, rfl, hp, hq, ho, hmin⟩
    · have HE : Hid (P = R) := by
        show _ = _
        rw [HR.out]
        refine HST.out.done HLT.out fun r hr => ?_
        obtain ⟨j, hj, hjr⟩ := List.getElem_of_mem hr
        exact hnone j r hj (by rw [List.getElem?_eq_getElem hj, hjr])
      clear hnone
      go_wp2
      go_ret
      have h := HOP.out
      rw [HE.out] at h
      exact ⟨A2, n2, c2, rfl, Rs.of_own h (by rw [HR.out]; exact HOK.out.lt), hbw⟩
    · have hpn : p < n := by have := HLEN.out; omega
      have hp0 : (0 : Int) ≤ (p : Int) := by omega
      have hpI : (p : Int) < (n : Int) := by omega
      have hpd : ¬ (p : Int) < 0 := by omega
      obtain ⟨b, o, q', rfl, hbB, hx, hq0, hq1, h1, h2⟩ := HSP.out.at_ hpn
      rw [hq] at hx
      injection hx with hx
      subst hx
      have HGS := Lib.hid (grow_start (List.mem_of_getElem? hq) ho (fun r hr hok => by
        obtain ⟨j, hj, hjr⟩ := List.getElem_of_mem hr
        exact hmin j r hj (by rw [List.getElem?_eq_getElem hj, hjr]) hok) HLT.out)
      have HLF : Hid (left l (q.2 + 1) < left l a) := left_lt (List.mem_of_getElem? hq) (by have := ho.2; omega) ho.2 (by omega)
      clear hmin hq
      have hmx : (if q.1 < a then (a : Int) else (q.1 : Int)) = ((max q.1 a : Nat) : Int) := by split <;> omega
      have HMX := Lib.hid hmx
      clear hmx
      go_wp2_with fail
      go_region
      rw [HMX.out]
      obtain ⟨t1, ht1⟩ : ∃ t1, t1 = q.2 := ⟨_, rfl⟩
      rw [← ht1] at HGS HLF ⊢
      clear ht1 HMX
      generalize max q.1 a = f at *
      have hb6 : Below wp.heap.size wp (wp.alloc (.cells #[.int .u64 (f : Int), .int .u64 (t1 : Int)] 76)).drew := (below_box wp _).drew
      have hY6 : (wp.alloc (.cells #[.int .u64 (f : Int), .int .u64 (t1 : Int)] 76)).drew.heap[wp.heap.size]? = some (.cells #[.int .u64 (f : Int), .int .u64 (t1 : Int)] 76 (0, 0)) := heap_alloc_new wp _
      generalize (wp.alloc (.cells #[.int .u64 (f : Int), .int .u64 (t1 : Int)] 76)).drew = w6 at *
      obtain ⟨Y, HY⟩ : ∃ Y, Hid (Y = wp.heap.size) := ⟨_, rfl⟩
      rw [← HY.out] at hb6 hY6 ⊢
      have HB6 := Lib.hid hb6
      have HY6 := Lib.hid hY6
      clear hb6 hY6 hq0 hq1 ho h1 h2
      go_wp2_with fail
      go_loopg [7] (left l (t1 + 1) + 1) (fun gk vg wr => GrowRel wp Y l a f t1 gk vg wr)
      case atStart => exact ⟨t1, true, rfl, HY6.out, HGS.out, Nat.le_refl _, fun h => (by cases h), by simp, HB6.out⟩
      case round =>
        obtain ⟨t, g, rfl, hY, hgs, ht1, hcl, hgk, hbel⟩ := hrel
        have HT1 := Lib.hid ht1
        have HYr := Lib.hid hY
        have HGR := Lib.hid hgs
        have HCL := Lib.hid hcl
        have HGK2 := Lib.hid hgk
        have HBL := Lib.hid hbel
        clear hY hgs hcl hgk hbel ht1
        cases g
        · have hYr := HYr.out
          have hbl := HBL.out
          have hcY0 : wr.cell? ⟨Y, 0, none⟩ = some (.int .u64 (f : Int)) := by rw [cell_of_row wr _ 0 _ _ _ hYr]; rfl
          have hcY1 : wr.cell? ⟨Y, 1, none⟩ = some (.int .u64 (t : Int)) := by rw [cell_of_row wr _ 1 _ _ _ hYr]; rfl
          have hYlt : Y < wr.heap.size := World.block_lt_of_cell? wr _ hcY0
          have HOR : Hid (OwnP wr w.heap.size A2 n2 c2 P) := HOP.out.kept (only_below' (by rw [← HY.out]; exact hbl)) (by cases (Value.slice A2 n2 c2).ownBlock <;> simp)
          have HBW : Hid (Below w.heap.size w wr) := hbw.trans (hbl.mono (by rw [HY.out]; exact hbw.size))
          have hwY : w.heap.size ≤ Y := by rw [HY.out]; exact hbw.size
          have hwz : w.heap.size ≤ wr.heap.size := HBW.out.size
          have HC := Lib.hid (HCL.out rfl)
          have HTL : Hid (t < 18446744073709551616) := HGR.out.lt
          have HN2 : Hid (n2 + 1 ≤ 100000) := by have := HNL.out; have := HLF.out; have := HLEN.out; show _ ≤ _; omega
          have hD : DstN (wr.alloc (.cells #[.int .u64 (f : Int), .int .u64 (t : Int)] 76)) w.heap.size 76 A2 n2 c2 2 (rvs P) := DstN.alloc (.inr HOR.out) _
          have HD := Lib.hid hD
          have HFAR : Hid (Far Y A2) := Far.of_ownP HOP.out (by rw [HY.out]; exact Nat.le_refl _)
          clear hYr hbl hD hbw
          have HP2 : Hid (rvs P ++ rv (f, t) = rvs (P ++ [(f, t)])) := by show _ = _; rw [rvs_app, rvs_one1]
          by_cases hm : t = 18446744073709551615
          · have hmI : ((t : Int) == 18446744073709551615) = true := by simp; omega
            have HE : Hid (P ++ [(f, t)] = R) := by show _ = _; rw [HR.out]; exact HST.out.last HLT.out HGR.out (by rw [hm]; rfl)
            clear hm
            go_wp2_with (at_builtin; refine wpList_append_dstN _ rfl (.tmp 67) (.tmp 69) 30 30 rfl w.heap.size 76 i0 _ 2 16 Tryd.underlying30 hi0 hz0 hz1 hz2 rfl A2 n2 c2 (rvs P) rfl HD.out _ 1 (rv (f, t)) rfl ((lit_sn wr 76 (rv (f, t)) 1 2 rfl (by unfold maxLen; omega)).src Tryd.underlying30 (rv_one (f, t))) (by have := HN2.out; omega) (by have := HN2.out; omega) (by simp; omega) ?_; intro A3 c3 w3 h1 h2 h3 h4 h5 h6; have HY3 := Lib.hid ((grown_keep (X := Y) h5 (by simp; omega) HFAR.out).trans ((Below.heap_alloc _ _ _ hYlt).trans HYr.out)); have hd1 : w3.cell? ⟨Y, 1, none⟩ = some (.int .u64 (t : Int)) := (by rw [cell_of_row w3 _ 1 _ _ _ HY3.out]; rfl); have HO3 := Lib.hid (h2 (by omega)); have HB3 := Lib.hid h4; clear h1 h2 h3 h4 h5 h6)
            go_ret
            have ho := HO3.out
            rw [HP2.out, HE.out] at ho
            exact ⟨A3, n2 + 1, c3, rfl, Rs.of_own ho (by rw [HR.out]; exact HOK.out.lt), HBW.out.trans (((below_box wr _).mono hwz).trans HB3.out)⟩
          · have hmI : ((t : Int) == 18446744073709551615) = false := by simp; omega
            have ht1I : (t : Int) + 1 < 18446744073709551616 := by have := HTL.out; omega
            have HNX := Lib.hid (HST.out.next HGR.out HC.out (by have := HTL.out; unfold two64; omega))
            have HLL : Hid (left l (t + 1) < left l a) := by have := left_mono l (show t1 + 1 ≤ t + 1 from by have := HT1.out; omega); have := HLF.out; show _ < _; omega
            clear hm
            go_wp2_with (at_builtin; refine wpList_append_dstN _ rfl (.tmp 67) (.tmp 69) 30 30 rfl w.heap.size 76 i0 _ 2 16 Tryd.underlying30 hi0 hz0 hz1 hz2 rfl A2 n2 c2 (rvs P) rfl HD.out _ 1 (rv (f, t)) rfl ((lit_sn wr 76 (rv (f, t)) 1 2 rfl (by unfold maxLen; omega)).src Tryd.underlying30 (rv_one (f, t))) (by have := HN2.out; omega) (by have := HN2.out; omega) (by simp; omega) ?_; intro A3 c3 w3 h1 h2 h3 h4 h5 h6; have HY3 := Lib.hid ((grown_keep (X := Y) h5 (by simp; omega) HFAR.out).trans ((Below.heap_alloc _ _ _ hYlt).trans HYr.out)); have hd1 : w3.cell? ⟨Y, 1, none⟩ = some (.int .u64 (t : Int)) := (by rw [cell_of_row w3 _ 1 _ _ _ HY3.out]; rfl); have HO3 := Lib.hid (h2 (by omega)); have HB3 := Lib.hid h4; clear h1 h2 h3 h4 h5 h6)
            go_roundg (left l (t + 1))
            case measure => have := HLL.out; have := HGK.out; omega
            case rel =>
              have ho := HO3.out
              rw [HP2.out] at ho
              exact ⟨A3, n2 + 1, c3, t + 1, _, rfl, by go_num, ho, HNX.out, Nat.le_refl _, by have := HLL.out; have := HNL.out; omega, HBW.out.trans (((below_box wr _).mono hwz).trans HB3.out)⟩
        · go_wp2_with fail
          go_loopg [7, 32] n (fun gk vg vi wr => PassRel wp Y l a f t gk vg vi wr)
          case atStart => exact ⟨0, t, false, by have := HLEN.out; omega, rfl, rfl, HYr.out, HGR.out, Nat.le_refl _, fun _ => ⟨rfl, fun j x hj => by omega⟩, fun h => (by cases h), HBL.out⟩
          case round =>
            obtain ⟨k, t2, g2, hg, rfl, rfl, hY, hgs, htt, hf, htr, hbel⟩ := hrel
            have HG := Lib.hid hg
            have HY2 := Lib.hid hY
            have HG2 := Lib.hid hgs
            have HF2 := Lib.hid hf
            have HT2 := Lib.hid htr
            have HTT := Lib.hid htt
            have hcY0 : wr.cell? ⟨Y, 0, none⟩ = some (.int .u64 (f : Int)) := by rw [cell_of_row wr _ 0 _ _ _ hY]; rfl
            have hcY1 : wr.cell? ⟨Y, 1, none⟩ = some (.int .u64 (t2 : Int)) := by rw [cell_of_row wr _ 1 _ _ _ hY]; rfl
            have hfY1 := frz_row (i := 1) hY
            have hYlt : Y < wr.heap.size := World.block_lt_of_cell? wr _ hcY0
            have hYw : wp.heap.size ≤ Y := by rw [HY.out]; exact Nat.le_refl _
            clear hg hY hgs hf htr htt
            have hsr := HSP.out.below (hbel.mono hYw) (Nat.le_refl _)
            by_cases hk : k < n
            · have hkI : (k : Int) < (n : Int) := by omega
              have hk0 : (0 : Int) ≤ (k : Int) := by omega
              obtain ⟨b', o', x, e', hbB', hx, hq0, hq1, h1, h2⟩ := hsr.at_ hk
              injection e' with e'
              injection e' with e1 e2
              subst e1 e2
              have HX := Lib.hid hx
              unfold two64 at h1 h2
              clear hx hsr
              have hbx := below_box wr (.cells #[.int .u64 (x.1 : Int), .int .u64 (x.2 : Int)] 76)
              have HYx := Lib.hid ((hbx.block _ hYlt).trans HY2.out)
              have HBx : Hid (Below Y wp (wr.alloc (.cells #[.int .u64 (x.1 : Int), .int .u64 (x.2 : Int)] 76))) := hbel.trans (hbx.mono (Nat.le_of_lt hYlt))
              have HNO : Hid (¬ ext x t2 → PassRel wp Y l a f t (gk - 1) (.bool g2) (.int .i64 ((k : Int) + 1)) (wr.alloc (.cells #[.int .u64 (x.1 : Int), .int .u64 (x.2 : Int)] 76))) := fun hne =>
                ⟨k + 1, t2, g2, by have := HG.out; have := HLEN.out; omega, rfl, by go_num, HYx.out, HG2.out, HTT.out, fun hg => ⟨(HF2.out hg).1, fun j y hj hy => by
                  rcases Nat.lt_or_ge j k with hjk | hjk
                  · exact (HF2.out hg).2 j y hjk hy
                  · obtain rfl : j = k := by omega
                    rw [HX.out] at hy
                    injection hy with hy
                    subst hy
                    exact hne⟩, HT2.out, HBx.out⟩
              have HYES : Hid (ext x t2 → PassRel wp Y l a f t (gk - 1) (.bool true) (.int .i64 ((k : Int) + 1)) ((wr.setCell ⟨Y, 1, none⟩ (.int .u64 (x.2 : Int))).alloc (.cells #[.int .u64 (x.1 : Int), .int .u64 (x.2 : Int)] 76))) := fun he =>
                ⟨k + 1, x.2, true, by have := HG.out; have := HLEN.out; omega, rfl, by go_num, (Below.heap_alloc _ _ _ (by simpa [World.setCell] using hYlt)).trans (setCell1_row _ _ _ _ _ _ HY2.out), HG2.out.grow (List.mem_of_getElem? HX.out) HLT.out he, by have := HTT.out; have := he.2.1; omega, fun hg => (by cases hg),
                  fun _ => ⟨by have := HTT.out; have := he.2.1; omega, x, List.mem_of_getElem? HX.out, rfl⟩, (hbel.setCell (p := ⟨Y, 1, none⟩) (Nat.le_refl _) _).alloc (by simpa [World.setCell] using Nat.le_of_lt hYlt) _⟩
              clear hbx
              by_cases h3 : x.1 ≤ x.2
              · have h3I : (x.1 : Int) ≤ (x.2 : Int) := by omega
                by_cases h4 : t2 < x.2
                · have h4I : (t2 : Int) < (x.2 : Int) := by omega
                  by_cases h5 : x.1 ≤ t2
                  · have h5I : (x.1 : Int) ≤ (t2 : Int) := by omega
                    go_wp2
                    go_roundg (gk - 1)
                    case measure => have := HG.out; have := HLEN.out; omega
                    case rel => exact HYES.out ⟨h3, h4, .inl h5⟩
                  · have h5I : ¬ (x.1 : Int) ≤ (t2 : Int) := by omega
                    have h1x : (1 : Int) ≤ (x.1 : Int) := by omega
                    by_cases h6 : x.1 = t2 + 1
                    · have h6I : ((x.1 : Int) - 1 == (t2 : Int)) = true := by simp; omega
                      have H6 := Lib.hid h6
                      clear h6
                      go_wp2
                      go_roundg (gk - 1)
                      case measure => have := HG.out; have := HLEN.out; omega
                      case rel => exact HYES.out ⟨h3, h4, .inr H6.out⟩
                    · have h6I : ((x.1 : Int) - 1 == (t2 : Int)) = false := by simp; omega
                      go_wp2
                      go_roundg (gk - 1)
                      case measure => have := HG.out; have := HLEN.out; omega
                      case rel => exact HNO.out (fun h => by have := h.2.2; omega)
                · have h4I : ¬ (t2 : Int) < (x.2 : Int) := by omega
                  go_wp2
                  go_roundg (gk - 1)
                  case measure => have := HG.out; have := HLEN.out; omega
                  case rel => exact HNO.out (fun h => h4 h.2.1)
              · have h3I : ¬ (x.1 : Int) ≤ (x.2 : Int) := by omega
                go_wp2
                go_roundg (gk - 1)
                case measure => have := HG.out; have := HLEN.out; omega
                case rel => exact HNO.out (fun h => h3 h.1)
            · have hkI : ¬ (k : Int) < (n : Int) := by omega
              have HGKN : Hid (left l (t2 + 1) + (if g2 = true then 1 else 0) < left l (t + 1) + 1) := by
                show _ < _
                cases g2
                · have := (HF2.out rfl).1
                  subst this
                  simp
                · obtain ⟨h7, y, hy, hy2⟩ := HT2.out rfl
                  have := left_lt (a := t + 1) (b := t2 + 1) hy (by omega) (by omega) (by omega)
                  simp
                  omega
              clear hsr
              go_wp2
              go_roundg (left l (t2 + 1) + (if g2 = true then 1 else 0))
              case measure => have := HGKN.out; have := HGK2.out; simp at this ⊢; omega
              case rel => exact ⟨t2, g2, rfl, HY2.out, HG2.out, by have := HT1.out; have := HTT.out; omega, fun hg x hx => by
                obtain ⟨j, hj, hjx⟩ := List.getElem_of_mem hx
                exact (HF2.out hg).2 j x (by have := HG.out; have := HLEN.out; omega) (by rw [List.getElem?_eq_getElem hj, hjx]), Nat.le_refl _, hbel⟩
end Go.Proofs.YtlkcnpmgafckoaaDoor

/-! ## CameRuns -/
namespace Go.Proofs.YtlkcnpmgafckoaaDoor
open Go.ChangeShapes Go.WideShapes Go.ChangeAt Go.RowKit

end Go.Proofs.YtlkcnpmgafckoaaDoor
