/-
  MATHEMATICS of frames: what a frame is, which may be.
  No statement is proved here.
-/
import Derived.Test.YtlkcnpmgafckoaaDoorRowsKept
import Derived.Test.YtlkcnpmgafckoaaDoorRunsMake
namespace Go.Proofs.YtlkcnpmgafckoaaDoor
open Go.RowKit

/-- A proposition, told as a bool. -/
noncomputable def decP (p : Prop) : Bool := @decide p (Classical.propDecidable p)
theorem decP_iff {p : Prop} : decP p = true ↔ p := by unfold decP; exact @decide_eq_true_iff p (Classical.propDecidable p)
theorem decP_yes {p : Prop} (h : p) : decP p = true := decP_iff.2 h
theorem decP_no {p : Prop} (h : ¬ p) : decP p = false := by
  cases hb : decP p with
  | false => rfl
  | true => exact absurd (decP_iff.1 hb) h
theorem decP_congr {p q : Prop} (h : p ↔ q) : decP p = decP q := by rw [Bool.eq_iff_iff, decP_iff, decP_iff]; exact h
theorem eq_decP {b : Bool} {p : Prop} (h : b = true ↔ p) : b = decP p := by rw [Bool.eq_iff_iff, decP_iff]; exact h

/-- A frame. -/
structure Fm where
  kd : Nat
  ag : Int
  ep : Nat
  ic : Nat
  ba : Nat
  cu : Nat
  li : Nat
  L : List Rn
  its : List It
def NoAnsP (m : Fm) : Prop := m.cu = 0 ∧ m.li = 0 ∧ m.L = []
def RunsP (m : Fm) : Prop := m.L = [] ∨ (m.L.length ≤ 32 ∧ Canon m.L ∧ (∀ r, m.L[0]? = some r → m.cu + 2 ≤ r.1) ∧ ∀ r, m.L[m.L.length - 1]? = some r → r.2 ≤ m.li)
def ItemOk (ba : Nat) (its : List It) (j : Nat) (x : It) : Prop := rightB x.C x.b.length = true ∧ ba ≤ x.N ∧ ∀ y, 0 < j → its[j - 1]? = some y → y.N < x.N
def ItemsP (m : Fm) : Prop := m.its.length ≤ 64 ∧ ∀ j x, m.its[j]? = some x → ItemOk m.ba m.its j x
def HelloP (m : Fm) : Prop := 1 ≤ m.ba ∧ m.ic = 0 ∧ m.its = [] ∧ NoAnsP m
def AnswerP (m : Fm) : Prop := m.ba = 0 ∧ m.its = [] ∧ m.cu ≤ m.li ∧ RunsP m
def BatchP (m : Fm) : Prop := 1 ≤ m.ba ∧ NoAnsP m ∧ ItemsP m
def PartsP (m : Fm) : Prop := (m.kd = 1 ∧ HelloP m) ∨ ((m.kd = 2 ∨ m.kd = 4) ∧ AnswerP m) ∨ (m.kd = 3 ∧ BatchP m)
def RightP (m : Fm) : Prop := 0 ≤ m.ag ∧ m.ag < 16 ∧ 1 ≤ m.ep ∧ PartsP m

/-- A frame as it lies in memory. -/
structure Fv where
  kd : Nat
  ag : Int
  ep : Nat
  ic : Nat
  ba : Nat
  cu : Nat
  li : Nat
  Ar : Option Addr
  nr : Nat
  cr : Nat
  L : List Rn
  Ai : Option Addr
  ni : Nat
  ci : Nat
  ks : List Ik
def Fv.m (f : Fv) : Fm := ⟨f.kd, f.ag, f.ep, f.ic, f.ba, f.cu, f.li, f.L, f.ks.map Ik.it⟩
/-- The program's frame, the reference's. -/
def Fv.v (f : Fv) : Value := .agg #[.int .u8 (f.kd : Int), .int .i64 f.ag, .int .u64 (f.ep : Int), .int .u64 (f.ic : Int), .int .u64 (f.ba : Int), .int .u64 (f.cu : Int), .int .u64 (f.li : Int), .slice f.Ar f.nr f.cr, .slice f.Ai f.ni f.ci]
def Fv.r (f : Fv) : Value := .agg #[.int .i64 (f.kd : Int), .int .i64 f.ag, .int .u64 (f.ep : Int), .int .u64 (f.ic : Int), .int .u64 (f.ba : Int), .int .u64 (f.cu : Int), .int .u64 (f.li : Int), .slice f.Ar f.nr f.cr, .slice f.Ai f.ni f.ci]
theorem Itms.below {w w' : World} {B B' : Nat} {A : Option Addr} {n c : Nat} {ks : List Ik} (h : Itms w B A n c ks) (hb : Below B' w w') (hB : B ≤ B') : Itms w' B A n c ks :=
  ⟨h.len, h.le, h.max, fun hn => by
    obtain ⟨b, o, e, hbb, hc⟩ := h.cell hn
    refine ⟨b, o, e, hbb, fun j k hk => ?_⟩
    obtain ⟨h0, h1, h2⟩ := hc j k hk
    exact ⟨(hb.cell (p := ⟨b, o + j * 3, none⟩) (by show b < B'; omega)).trans h0, (hb.cell (p := ⟨b, o + j * 3 + 1, none⟩) (by show b < B'; omega)).trans h1, (hb.cell (p := ⟨b, o + j * 3 + 2, none⟩) (by show b < B'; omega)).trans h2⟩, fun k hk => ⟨(h.sl k hk).1.below hb hB, (h.sl k hk).2⟩⟩
theorem Itms.more {w : World} {B B' : Nat} {A : Option Addr} {n c : Nat} {ks : List Ik} (h : Itms w B A n c ks) (hB : B ≤ B') : Itms w B' A n c ks :=
  ⟨h.len, h.le, h.max, fun hn => by
    obtain ⟨b, o, e, hbb, hc⟩ := h.cell hn
    exact ⟨b, o, e, by omega, hc⟩, fun k hk => ⟨(h.sl k hk).1.more hB, (h.sl k hk).2⟩⟩
theorem Itms.on {w w' : World} {A : Option Addr} {n c : Nat} {ks : List Ik} (h : Itms w w.heap.size A n c ks) (hb : Below w.heap.size w w') : Itms w' w'.heap.size A n c ks := (h.below hb (Nat.le_refl _)).more hb.size
structure FrAt (w : World) (f : Fv) : Prop where
  rs : Rs w w.heap.size f.Ar f.nr f.cr f.L
  it : Itms w w.heap.size f.Ai f.ni f.ci f.ks
  kd : f.kd < 256
  ag : -9223372036854775808 ≤ f.ag ∧ f.ag ≤ 9223372036854775807
  ep : f.ep < two64
  ic : f.ic < two64
  ba : f.ba < two64
  cu : f.cu < two64
  li : f.li < two64
theorem FrAt.on {w w' : World} {f : Fv} (h : FrAt w f) (hb : Below w.heap.size w w') : FrAt w' f := ⟨h.rs.on hb (Nat.le_refl _), h.it.on hb, h.kd, h.ag, h.ep, h.ic, h.ba, h.cu, h.li⟩
theorem ever_fr {w : World} {f : Fv} (h : FrAt w f) : Ever (fun w2 => FrAt w2 f) w := fun _ hb => h.on hb
theorem FrAt.drewN {w : World} {f : Fv} (h : FrAt w f) (k : Nat) : FrAt (w.drewN k) f := h.on (below_drewN (Below.refl _ _) k)
theorem FrAt.onA {w : World} {f : Fv} (h : FrAt w f) (o : Obj) : FrAt (w.alloc o) f := h.on (below_box w o)
theorem FrAt.runs0 {w : World} {f : Fv} (h : FrAt w f) : f.L = [] ↔ f.nr = 0 := by
  have := h.rs.len
  constructor
  · intro e; rw [e] at this; simpa using this.symm
  · intro e; exact List.eq_nil_of_length_eq_zero (by omega)
theorem FrAt.items0 {w : World} {f : Fv} (h : FrAt w f) : f.ks.map Ik.it = [] ↔ f.ni = 0 := by
  have := h.it.len
  rw [List.map_eq_nil_iff]
  constructor
  · intro e; rw [e] at this; simpa using this.symm
  · intro e; exact List.eq_nil_of_length_eq_zero (by omega)
end Go.Proofs.YtlkcnpmgafckoaaDoor
