/-
  CONTRACT of the statements' own small, whole.
  No statement is proved here.
-/
import Derived.Test.YtfmfamnngfanfaaShareMx
namespace Go.Proofs.Ytfmfamnngfanfaa
open Go.RowKit Go.Sort

structure Uc where
  A : Option Addr
  n : Nat
  c : Nat
  L : List Nat
structure Uqs (w : World) (B : Nat) (A : Option Addr) (n c : Nat) (P : List Uc) : Prop where
  sn : Sn w B A n c 1 (P.map fun x => Value.slice x.A x.n x.c)
  each : ∀ x ∈ P, Us .u16 65536 w B x.A x.n x.c x.L
theorem Uqs.below {w w' : World} {B B' : Nat} {A : Option Addr} {n c : Nat} {P : List Uc} (h : Uqs w B A n c P) (hb : RowKit.Below B' w w') (hB : B ≤ B') : Uqs w' B A n c P := ⟨h.sn.below hb hB, fun x hx => (h.each x hx).below hb hB⟩
theorem Uqs.on {w w' : World} {B : Nat} {A : Option Addr} {n c : Nat} {P : List Uc} (h : Uqs w B A n c P) (hb : RowKit.Below w.heap.size w w') (hB : B ≤ w.heap.size) : Uqs w' w'.heap.size A n c P := ⟨h.sn.on hb hB, fun x hx => (h.each x hx).on hb hB⟩
theorem Uqs.at_ {w : World} {B : Nat} {A : Option Addr} {n c j : Nat} {P : List Uc} (h : Uqs w B A n c P) (hj : j < n) : ∃ b o x, A = some ⟨b, o, none⟩ ∧ b < B ∧ P[j]? = some x ∧ w.cell? ⟨b, o + j, none⟩ = some (.slice x.A x.n x.c) ∧ Us .u16 65536 w B x.A x.n x.c x.L := by
  have hl : j < P.length := by have := h.sn.len; simp at this; omega
  have hr := List.getElem?_eq_getElem hl
  obtain ⟨b, o, e, hb, hc⟩ := h.sn.cell (by omega)
  exact ⟨b, o, P[j], e, hb, hr, hc _ _ (by simp [hr]), h.each _ (List.getElem_mem hl)⟩
theorem few_start (n : Nat) : Few (List.replicate n ⟨none, 0, 0, []⟩) 0 0 := fun j x hx => by
  obtain rfl := (List.mem_replicate.1 (List.mem_of_getElem? hx)).2
  exact ⟨fun s hs => (by cases hs), by simp, fun _ => Nat.le_refl _, fun _ => rfl⟩
theorem mx_start {w : World} {base qb n : Nat} {x0 : Ic} (h0 : w.ownsRow base 3 1 (icv x0) x0.n (ivs x0.L)) (hq : w.ownsRow base 22 1 (.slice (some ⟨qb, 0, none⟩) n n) n (madeCells (Value.slice none 0 0).cells (n * 1)).toList) (hne : ∀ b, x0.blk = some b → b ≠ qb) : Mx w base qb n x0 (List.replicate n ⟨none, 0, 0, []⟩) := by
  have e : (madeCells (Value.slice none 0 0).cells (n * 1)).toList = icvs (List.replicate n ⟨none, 0, 0, []⟩) := by
    have h1 : (Value.slice none 0 0).cells = #[Value.slice none 0 0] := rfl
    rw [h1, Nat.mul_one, toList_madeCells_one]
    simp [icvs, icv]
  rw [e] at hq
  refine ⟨fun x hx => ?_, hq, fun x hx e => ?_, fun i j x y hij hx hy => ?_⟩
  · rcases List.mem_cons.1 hx with rfl | hx
    · exact h0
    · obtain rfl := (List.mem_replicate.1 hx).2
      exact World.ownsRow_nil _ _ _ _
  · rcases List.mem_cons.1 hx with rfl | hx
    · exact hne qb e rfl
    · obtain rfl := (List.mem_replicate.1 hx).2
      cases e
  · have nil : ∀ (k : Nat) (z : Ic), k ≠ 0 → (x0 :: List.replicate n ⟨none, 0, 0, []⟩)[k]? = some z → z.blk = none := fun k z hk hz => by
      rcases k with _ | k
      · omega
      · simp only [List.getElem?_cons_succ] at hz
        obtain rfl := (List.mem_replicate.1 (List.mem_of_getElem? hz)).2
        rfl
    by_cases hi : i = 0
    · have := nil j y (by omega) hy
      rw [this]
      cases x.blk <;> simp
    · exact .inl (nil i x hi hx)
/-- The same, where a block was laid ahead. -/
theorem Mx.alloc {w : World} {base qb K : Nat} {x0 : Ic} {R : List Ic} (h : Mx w base qb K x0 R) (o : Obj) : Mx (w.alloc o) base qb K x0 R := ⟨fun x hx => (h.own x hx).alloc o, h.q.alloc o, h.off, h.sep⟩
theorem Mx.put2 {w w2 : World} {base qb K i : Nat} {x0 x : Ic} {R : List Ic} {A2 : Option Addr} {c2 : Nat} {v : Int} {o : Obj} (h : Mx w base qb K x0 R) (hx : R[i]? = some x)
    (ho : w2.ownsRow base 3 1 (.slice A2 (x.n + 1) c2) (x.n + 1) (ivs x.L ++ ivs [v])) (hg : (w.alloc o).grownBy w2 (if x.n = x.c then none else (Value.slice x.A x.n x.c).ownBlock)) (hn : A2 = x.A ∨ ∃ b, A2 = some ⟨b, 0, none⟩ ∧ (w.alloc o).heap.size ≤ b) :
    w2.cell? ⟨qb, i, none⟩ = some (.slice x.A x.n x.c) ∧ w2.frozen? ⟨qb, i, none⟩ = false ∧ Mx (w2.setCell ⟨qb, i, none⟩ (.slice A2 (x.n + 1) c2)) base qb K x0 (R.set i ⟨A2, x.n + 1, c2, x.L ++ [v]⟩) := (h.alloc o).put hx ho hg hn
def S2Rel (w : World) (qb K : Nat) (x0 : Ic) (np gk : Nat) (vi : Value) (wr : World) : Prop :=
  ∃ (i : Nat) (R : List Ic), gk + i = np ∧ vi = .int .i64 (i : Int) ∧ Mx wr w.heap.size qb K x0 R ∧ Few R i 0 ∧ RowKit.Below w.heap.size w wr
def S3Rel (w : World) (qb K : Nat) (x0 : Ic) (i m gk : Nat) (vi : Value) (wr : World) : Prop :=
  ∃ (k : Nat) (R : List Ic), gk + k = m ∧ vi = .int .i64 (k : Int) ∧ Mx wr w.heap.size qb K x0 R ∧ Few R i k ∧ RowKit.Below w.heap.size w wr
theorem made_big {w wr : World} {U : List Nat} {A : Option Addr} {n c qb i : Nat} {R : List Ic} {cap : Int} {cl sz : Nat} (nd : Nat) (h : Mx wr w.heap.size qb n ⟨A, n, c, wOf U⟩ R) (hf : Few R i 0) (hb : RowKit.Below w.heap.size w wr) (hn : 0 < n) (hsz : sz < 65536) :
    Made w U (wrap64 ((sz : Int) + (wrap64 (cap.tmod 100000 + 100000)).tmod 100000)) A n c (some ⟨qb, 0, none⟩) n n R (cl % n) sz (wr.drewN nd) := by
  have hfx : ∀ x ∈ R, (∀ s ∈ x.L, 0 ≤ s ∧ s ≤ 65535) ∧ x.n ≤ 30 := fun x hx => by
    obtain ⟨j, hj, e⟩ := List.getElem_of_mem hx
    have := hf j x (by rw [List.getElem?_eq_getElem hj, e])
    exact ⟨this.1, this.2.1⟩
  have t1 := Int.tmod_lt_of_pos cap (show (0 : Int) < 100000 by omega)
  have t2 := Int.lt_tmod_of_pos cap (show (0 : Int) < 100000 by omega)
  have t3 : wrap64 (cap.tmod 100000 + 100000) = cap.tmod 100000 + 100000 := w64 (by omega)
  have t4 := Int.tmod_lt_of_pos (cap.tmod 100000 + 100000) (show (0 : Int) < 100000 by omega)
  have t5 := Int.tmod_nonneg (a := cap.tmod 100000 + 100000) 100000 (by omega)
  rw [t3, w64 (by omega)]
  exact ⟨⟨(Sn.of_own (h.own _ List.mem_cons_self)).drewN nd, wOf_rng U⟩, ⟨(Sn.of_own h.q).drewN nd, fun x hx => ⟨(Sn.of_own (h.own x (List.mem_cons_of_mem _ hx))).drewN nd, fun s hs => by have := (hfx x hx).1 s hs; unfold I64; omega⟩⟩, rfl, Nat.mod_lt _ hn, hsz, by omega, hfx, below_drewN hb nd⟩
end Go.Proofs.Ytfmfamnngfanfaa
