/-
  MATHEMATICS of frames: what a frame is, which may be.
  No statement is proved here.
-/
import Derived.Test.YtlkcnpmgafckoaaDoorFrBaseB
namespace Go.Proofs.YtlkcnpmgafckoaaDoor
open Go.RowKit

/-- A proposition, told as a bool. -/
noncomputable def decP (p : Prop) : Bool := @decide p (Classical.propDecidable p)
theorem decP_iff {p : Prop} : decP p = true ↔ p := by unfold decP; exact @decide_eq_true_iff p (Classical.propDecidable p)
theorem decP_yes {p : Prop} (h : p) : decP p = true := decP_iff.2 h
theorem decP_no {p : Prop} (h : ¬ p) : decP p = false := by
  cases hb : decP p with
  | false => rfl
  | true => exact absurd (decP_iff.1 hb) h
theorem decP_congr {p q : Prop} (h : p ↔ q) : decP p = decP q := by rw [Bool.eq_iff_iff, decP_iff, decP_iff]; exact h
theorem eq_decP {b : Bool} {p : Prop} (h : b = true ↔ p) : b = decP p := by rw [Bool.eq_iff_iff, decP_iff]; exact h

/-- A frame. -/
structure Fm where
  kd : Nat
  ag : Int
  ep : Nat
  ic : Nat
  ba : Nat
  cu : Nat
  li : Nat
  L : List Rn
  its : List It
def NoAnsP (m : Fm) : Prop := m.cu = 0 ∧ m.li = 0 ∧ m.L = []
def RunsP (m : Fm) : Prop := m.L = [] ∨ (m.L.length ≤ 32 ∧ Canon m.L ∧ (∀ r, m.L[0]? = some r → m.cu + 2 ≤ r.1) ∧ ∀ r, m.L[m.L.length - 1]? = some r → r.2 ≤ m.li)
def ItemOk (ba : Nat) (its : List It) (j : Nat) (x : It) : Prop := rightB x.C x.b.length = true ∧ ba ≤ x.N ∧ ∀ y, 0 < j → its[j - 1]? = some y → y.N < x.N
def ItemsP (m : Fm) : Prop := m.its.length ≤ 64 ∧ ∀ j x, m.its[j]? = some x → ItemOk m.ba m.its j x
def HelloP (m : Fm) : Prop := 1 ≤ m.ba ∧ m.ic = 0 ∧ m.its = [] ∧ NoAnsP m
def AnswerP (m : Fm) : Prop := m.ba = 0 ∧ m.its = [] ∧ m.cu ≤ m.li ∧ RunsP m
def BatchP (m : Fm) : Prop := 1 ≤ m.ba ∧ NoAnsP m ∧ ItemsP m
def PartsP (m : Fm) : Prop := (m.kd = 1 ∧ HelloP m) ∨ ((m.kd = 2 ∨ m.kd = 4) ∧ AnswerP m) ∨ (m.kd = 3 ∧ BatchP m)
def RightP (m : Fm) : Prop := 0 ≤ m.ag ∧ m.ag < 16 ∧ 1 ≤ m.ep ∧ PartsP m

/-- A frame as it lies in memory. -/
structure Fv where
  kd : Nat
  ag : Int
  ep : Nat
  ic : Nat
  ba : Nat
  cu : Nat
  li : Nat
  Ar : Option Addr
  nr : Nat
  cr : Nat
  L : List Rn
  Ai : Option Addr
  ni : Nat
  ci : Nat
  ks : List Ik
def Fv.m (f : Fv) : Fm := ⟨f.kd, f.ag, f.ep, f.ic, f.ba, f.cu, f.li, f.L, f.ks.map Ik.it⟩
/-- The program's frame, the reference's. -/
def Fv.v (f : Fv) : Value := .agg #[.int .u8 (f.kd : Int), .int .i64 f.ag, .int .u64 (f.ep : Int), .int .u64 (f.ic : Int), .int .u64 (f.ba : Int), .int .u64 (f.cu : Int), .int .u64 (f.li : Int), .slice f.Ar f.nr f.cr, .slice f.Ai f.ni f.ci]
def Fv.r (f : Fv) : Value := .agg #[.int .i64 (f.kd : Int), .int .i64 f.ag, .int .u64 (f.ep : Int), .int .u64 (f.ic : Int), .int .u64 (f.ba : Int), .int .u64 (f.cu : Int), .int .u64 (f.li : Int), .slice f.Ar f.nr f.cr, .slice f.Ai f.ni f.ci]
theorem Itms.below {w w' : World} {B B' : Nat} {A : Option Addr} {n c : Nat} {ks : List Ik} (h : Itms w B A n c ks) (hb : Below B' w w') (hB : B ≤ B') : Itms w' B A n c ks :=
  ⟨h.len, h.le, h.max, fun hn => by
    obtain ⟨b, o, e, hbb, hc⟩ := h.cell hn
    refine ⟨b, o, e, hbb, fun j k hk => ?_⟩
    obtain ⟨h0, h1, h2⟩ := hc j k hk
    exact ⟨(hb.cell (p := ⟨b, o + j * 3, none⟩) (by show b < B'; omega)).trans h0, (hb.cell (p := ⟨b, o + j * 3 + 1, none⟩) (by show b < B'; omega)).trans h1, (hb.cell (p := ⟨b, o + j * 3 + 2, none⟩) (by show b < B'; omega)).trans h2⟩, fun k hk => ⟨(h.sl k hk).1.below hb hB, (h.sl k hk).2⟩⟩
theorem Itms.more {w : World} {B B' : Nat} {A : Option Addr} {n c : Nat} {ks : List Ik} (h : Itms w B A n c ks) (hB : B ≤ B') : Itms w B' A n c ks :=
  ⟨h.len, h.le, h.max, fun hn => by
    obtain ⟨b, o, e, hbb, hc⟩ := h.cell hn
    exact ⟨b, o, e, by omega, hc⟩, fun k hk => ⟨(h.sl k hk).1.more hB, (h.sl k hk).2⟩⟩
theorem Itms.on {w w' : World} {A : Option Addr} {n c : Nat} {ks : List Ik} (h : Itms w w.heap.size A n c ks) (hb : Below w.heap.size w w') : Itms w' w'.heap.size A n c ks := (h.below hb (Nat.le_refl _)).more hb.size
structure FrAt (w : World) (f : Fv) : Prop where
  rs : Rs w w.heap.size f.Ar f.nr f.cr f.L
  it : Itms w w.heap.size f.Ai f.ni f.ci f.ks
  kd : f.kd < 256
  ag : -9223372036854775808 ≤ f.ag ∧ f.ag ≤ 9223372036854775807
  ep : f.ep < two64
  ic : f.ic < two64
  ba : f.ba < two64
  cu : f.cu < two64
  li : f.li < two64
theorem FrAt.on {w w' : World} {f : Fv} (h : FrAt w f) (hb : Below w.heap.size w w') : FrAt w' f := ⟨h.rs.on hb (Nat.le_refl _), h.it.on hb, h.kd, h.ag, h.ep, h.ic, h.ba, h.cu, h.li⟩
theorem FrAt.drewN {w : World} {f : Fv} (h : FrAt w f) (k : Nat) : FrAt (w.drewN k) f := h.on (below_drewN (Below.refl _ _) k)
theorem FrAt.onA {w : World} {f : Fv} (h : FrAt w f) (o : Obj) : FrAt (w.alloc o) f := h.on (below_box w o)
theorem FrAt.runs0 {w : World} {f : Fv} (h : FrAt w f) : f.L = [] ↔ f.nr = 0 := by
  have := h.rs.len
  constructor
  · intro e; rw [e] at this; simpa using this.symm
  · intro e; exact List.eq_nil_of_length_eq_zero (by omega)
theorem FrAt.items0 {w : World} {f : Fv} (h : FrAt w f) : f.ks.map Ik.it = [] ↔ f.ni = 0 := by
  have := h.it.len
  rw [List.map_eq_nil_iff]
  constructor
  · intro e; rw [e] at this; simpa using this.symm
  · intro e; exact List.eq_nil_of_length_eq_zero (by omega)
/-- A frame's cells, all laid anew. -/
def set9 (w : World) (r : Nat) (u0 u1 u2 u3 u4 u5 u6 u7 u8 : Value) : World := (((((((((w.setCell ⟨r, 0, none⟩ u0).setCell ⟨r, 1, none⟩ u1).setCell ⟨r, 2, none⟩ u2).setCell ⟨r, 3, none⟩ u3).setCell ⟨r, 4, none⟩ u4).setCell ⟨r, 5, none⟩ u5).setCell ⟨r, 6, none⟩ u6).setCell ⟨r, 7, none⟩ u7).setCell ⟨r, 8, none⟩ u8)
theorem set9_heap {w : World} {r : Nat} {t : TypeId} {a0 a1 a2 a3 a4 a5 a6 a7 a8 : Value} (u0 u1 u2 u3 u4 u5 u6 u7 u8 : Value) (h : w.heap[r]? = some (.cells #[a0, a1, a2, a3, a4, a5, a6, a7, a8] t (0, 0))) : (set9 w r u0 u1 u2 u3 u4 u5 u6 u7 u8).heap[r]? = some (.cells #[u0, u1, u2, u3, u4, u5, u6, u7, u8] t (0, 0)) := by
  have h0 : (w.setCell ⟨r, 0, none⟩ u0).heap[r]? = some (.cells #[u0, a1, a2, a3, a4, a5, a6, a7, a8] t (0, 0)) := by have e := heap_setCell_same _ r 0 _ t u0 h; simpa using e
  have h1 : ((w.setCell ⟨r, 0, none⟩ u0).setCell ⟨r, 1, none⟩ u1).heap[r]? = some (.cells #[u0, u1, a2, a3, a4, a5, a6, a7, a8] t (0, 0)) := by have e := heap_setCell_same _ r 1 _ t u1 h0; simpa using e
  have h2 : (((w.setCell ⟨r, 0, none⟩ u0).setCell ⟨r, 1, none⟩ u1).setCell ⟨r, 2, none⟩ u2).heap[r]? = some (.cells #[u0, u1, u2, a3, a4, a5, a6, a7, a8] t (0, 0)) := by have e := heap_setCell_same _ r 2 _ t u2 h1; simpa using e
  have h3 : ((((w.setCell ⟨r, 0, none⟩ u0).setCell ⟨r, 1, none⟩ u1).setCell ⟨r, 2, none⟩ u2).setCell ⟨r, 3, none⟩ u3).heap[r]? = some (.cells #[u0, u1, u2, u3, a4, a5, a6, a7, a8] t (0, 0)) := by have e := heap_setCell_same _ r 3 _ t u3 h2; simpa using e
  have h4 : (((((w.setCell ⟨r, 0, none⟩ u0).setCell ⟨r, 1, none⟩ u1).setCell ⟨r, 2, none⟩ u2).setCell ⟨r, 3, none⟩ u3).setCell ⟨r, 4, none⟩ u4).heap[r]? = some (.cells #[u0, u1, u2, u3, u4, a5, a6, a7, a8] t (0, 0)) := by have e := heap_setCell_same _ r 4 _ t u4 h3; simpa using e
  have h5 : ((((((w.setCell ⟨r, 0, none⟩ u0).setCell ⟨r, 1, none⟩ u1).setCell ⟨r, 2, none⟩ u2).setCell ⟨r, 3, none⟩ u3).setCell ⟨r, 4, none⟩ u4).setCell ⟨r, 5, none⟩ u5).heap[r]? = some (.cells #[u0, u1, u2, u3, u4, u5, a6, a7, a8] t (0, 0)) := by have e := heap_setCell_same _ r 5 _ t u5 h4; simpa using e
  have h6 : (((((((w.setCell ⟨r, 0, none⟩ u0).setCell ⟨r, 1, none⟩ u1).setCell ⟨r, 2, none⟩ u2).setCell ⟨r, 3, none⟩ u3).setCell ⟨r, 4, none⟩ u4).setCell ⟨r, 5, none⟩ u5).setCell ⟨r, 6, none⟩ u6).heap[r]? = some (.cells #[u0, u1, u2, u3, u4, u5, u6, a7, a8] t (0, 0)) := by have e := heap_setCell_same _ r 6 _ t u6 h5; simpa using e
  have h7 : ((((((((w.setCell ⟨r, 0, none⟩ u0).setCell ⟨r, 1, none⟩ u1).setCell ⟨r, 2, none⟩ u2).setCell ⟨r, 3, none⟩ u3).setCell ⟨r, 4, none⟩ u4).setCell ⟨r, 5, none⟩ u5).setCell ⟨r, 6, none⟩ u6).setCell ⟨r, 7, none⟩ u7).heap[r]? = some (.cells #[u0, u1, u2, u3, u4, u5, u6, u7, a8] t (0, 0)) := by have e := heap_setCell_same _ r 7 _ t u7 h6; simpa using e
  have h8 : (((((((((w.setCell ⟨r, 0, none⟩ u0).setCell ⟨r, 1, none⟩ u1).setCell ⟨r, 2, none⟩ u2).setCell ⟨r, 3, none⟩ u3).setCell ⟨r, 4, none⟩ u4).setCell ⟨r, 5, none⟩ u5).setCell ⟨r, 6, none⟩ u6).setCell ⟨r, 7, none⟩ u7).setCell ⟨r, 8, none⟩ u8).heap[r]? = some (.cells #[u0, u1, u2, u3, u4, u5, u6, u7, u8] t (0, 0)) := by have e := heap_setCell_same _ r 8 _ t u8 h7; simpa using e
  exact h8
theorem set9_below {w w0 : World} {B r : Nat} (u0 u1 u2 u3 u4 u5 u6 u7 u8 : Value) (h : Below B w0 w) (hr : B ≤ r) : Below B w0 (set9 w r u0 u1 u2 u3 u4 u5 u6 u7 u8) :=
  ((((((((h.setCell (p := ⟨r, 0, none⟩) hr u0).setCell (p := ⟨r, 1, none⟩) hr u1).setCell (p := ⟨r, 2, none⟩) hr u2).setCell (p := ⟨r, 3, none⟩) hr u3).setCell (p := ⟨r, 4, none⟩) hr u4).setCell (p := ⟨r, 5, none⟩) hr u5).setCell (p := ⟨r, 6, none⟩) hr u6).setCell (p := ⟨r, 7, none⟩) hr u7).setCell (p := ⟨r, 8, none⟩) hr u8
end Go.Proofs.YtlkcnpmgafckoaaDoor
