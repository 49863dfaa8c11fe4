/-
  CONTRACTS of the reference of layer 5: a frame on its way; most.
  No statement is proved here.
-/
import Derived.Test.YtlkcnpmgafckoaaDoorFrameGet5
import Derived.Test.YtlkcnpmgafckoaaDoorRefRight
namespace Go.Proofs.YtlkcnpmgafckoaaDoor
open Go.RowKit

def Fv.rbox (k : Fv) : Obj := .cells #[.int .i64 (k.kd : Int), .int .i64 k.ag, .int .u64 (k.ep : Int), .int .u64 (k.ic : Int), .int .u64 (k.ba : Int), .int .u64 (k.cu : Int), .int .u64 (k.li : Int), .slice k.Ar k.nr k.cr, .slice k.Ai k.ni k.ci] 33
/-- A frame that the reference reads into block F, from its reader in block g. -/
structure Gr (w0 w : World) (g F : Nat) (k : Fv) (l : List UInt8) (er : Nat) : Prop where
  inn : ∃ A n c a p, RefAt w g A n c a er p ∧ p.drop a = l
  blk : w.heap[F]? = some k.rbox
  lt : g < w0.heap.size
  le : w0.heap.size ≤ F
  gr : w0.grownBy w (some g)
  rs : w.ownsRow (F + 1) 76 2 (.slice k.Ar k.nr k.cr) k.nr (rvs k.L)
  its : w.ownsRow (F + 1) 73 3 (.slice k.Ai k.ni k.ci) k.ni (itvs k.ks)
  sl : ∀ x ∈ k.ks, w.ownsRow (F + 1) 5 1 (.slice x.q.A x.q.n x.q.c) x.q.n (cbs x.q.l) ∧ x.N < two64
  L : ∀ q ∈ k.L, q.1 < two64 ∧ q.2 < two64
  kd : k.kd < 256
  ag : -9223372036854775808 ≤ k.ag ∧ k.ag ≤ 9223372036854775807
  ep : k.ep < two64
  ic : k.ic < two64
  ba : k.ba < two64
  cu : k.cu < two64
  li : k.li < two64
theorem Gr.fl {w0 w : World} {g F : Nat} {k : Fv} {l : List UInt8} {er : Nat} (h : Gr w0 w g F k l er) : F < w.heap.size := (Array.getElem?_eq_some_iff.1 h.blk).1
theorem Gr.fr {w0 w : World} {g F : Nat} {k : Fv} {l : List UInt8} {er : Nat} (h : Gr w0 w g F k l er) : FrAt w k := ⟨⟨Sn.of_own h.rs, h.L⟩, Itms.of_own h.its (fun x hx => ⟨Sl.of_own (h.sl x hx).1, (h.sl x hx).2⟩), h.kd, h.ag, h.ep, h.ic, h.ba, h.cu, h.li⟩
theorem Gr.frSet {w0 w : World} {g F r : Nat} {k : Fv} {l : List UInt8} {er : Nat} (h : Gr w0 w g F k l er) (hr : r < F) (u0 u1 u2 u3 u4 u5 u6 u7 u8 : Value) : FrAt (set9 w r u0 u1 u2 u3 u4 u5 u6 u7 u8) k :=
  have hr' : r < F + 1 := by omega
  ⟨⟨Sn.of_own (set9_own u0 u1 u2 u3 u4 u5 u6 u7 u8 h.rs hr'), h.L⟩, Itms.of_own (set9_own u0 u1 u2 u3 u4 u5 u6 u7 u8 h.its hr') (fun x hx => ⟨Sl.of_own (set9_own u0 u1 u2 u3 u4 u5 u6 u7 u8 (h.sl x hx).1 hr'), (h.sl x hx).2⟩), h.kd, h.ag, h.ep, h.ic, h.ba, h.cu, h.li⟩
/-- The reader goes on. -/
theorem Gr.next {w0 w w' : World} {g F : Nat} {k : Fv} {l l' : List UInt8} {er er' : Nat} {A : Option Addr} {n c a : Nat} {p : List UInt8} (h : Gr w0 w g F k l er) (hin : RefAt w' g A n c a er' p) (hd : p.drop a = l') (hg : w.grownBy w' (some g)) : Gr w0 w' g F k l' er' :=
  have hgF : g < F + 1 := by have := h.lt; have := h.le; omega
  ⟨⟨A, n, c, a, p, hin, hd⟩, only_block hg h.blk (fun e => by injection e with e; have := h.lt; have := h.le; omega), h.lt, h.le, only_trans h.gr hg, own_g h.rs hg hgF, own_g h.its hg hgF, fun x hx => ⟨own_g (h.sl x hx).1 hg hgF, (h.sl x hx).2⟩, h.L, h.kd, h.ag, h.ep, h.ic, h.ba, h.cu, h.li⟩
/-- A cell of the frame is written anew, one that holds no list. -/
theorem Gr.set {w0 w : World} {g F : Nat} {k : Fv} {l : List UInt8} {er : Nat} (h : Gr w0 w g F k l er) (i : Nat) (v : Value) (k' : Fv) (hb : (w.setCell ⟨F, i, none⟩ v).heap[F]? = some k'.rbox)
    (e1 : k'.Ar = k.Ar ∧ k'.nr = k.nr ∧ k'.cr = k.cr ∧ k'.L = k.L) (e2 : k'.Ai = k.Ai ∧ k'.ni = k.ni ∧ k'.ci = k.ci ∧ k'.ks = k.ks) (hkd : k'.kd < 256) (hag : -9223372036854775808 ≤ k'.ag ∧ k'.ag ≤ 9223372036854775807)
    (hep : k'.ep < two64) (hic : k'.ic < two64) (hba : k'.ba < two64) (hcu : k'.cu < two64) (hli : k'.li < two64) : Gr w0 (w.setCell ⟨F, i, none⟩ v) g F k' l er := by
  obtain ⟨A, n, c, a, p, hin, hd⟩ := h.inn
  have hgF : g < F := by have := h.lt; have := h.le; omega
  refine ⟨⟨A, n, c, a, p, hin.kept (only_set w F i v) (fun k hk => by injection hk; omega), hd⟩, hb, h.lt, h.le, only_new h.gr h.le rfl, ?_, ?_, ?_, ?_, hkd, hag, hep, hic, hba, hcu, hli⟩
  · rw [e1.1, e1.2.1, e1.2.2.1, e1.2.2.2]; exact own_otherN v h.rs (show F < F + 1 by omega)
  · rw [e2.1, e2.2.1, e2.2.2.1, e2.2.2.2]; exact own_otherN v h.its (show F < F + 1 by omega)
  · rw [e2.2.2.2]; exact fun x hx => ⟨own_otherN v (h.sl x hx).1 (show F < F + 1 by omega), (h.sl x hx).2⟩
  · rw [e1.2.2.2]; exact h.L
theorem Gr.set_ag {w0 w : World} {g F : Nat} {k : Fv} {l : List UInt8} {er : Nat} (h : Gr w0 w g F k l er) (v : Nat) (hv : v ≤ 64) : Gr w0 (w.setCell ⟨F, 1, none⟩ (.int .i64 (v : Int))) g F { k with ag := (v : Int) } l er :=
  h.set 1 _ _ (by have e := heap_setCell_same _ F 1 _ _ (.int .i64 (v : Int)) h.blk; simpa [Fv.rbox] using e) ⟨rfl, rfl, rfl, rfl⟩ ⟨rfl, rfl, rfl, rfl⟩ h.kd ⟨by show _ ≤ (v : Int); omega, by show (v : Int) ≤ _; omega⟩ h.ep h.ic h.ba h.cu h.li
theorem Gr.set_ep {w0 w : World} {g F : Nat} {k : Fv} {l : List UInt8} {er : Nat} (h : Gr w0 w g F k l er) (v : Nat) (hv : v < two64) : Gr w0 (w.setCell ⟨F, 2, none⟩ (.int .u64 (v : Int))) g F { k with ep := v } l er :=
  h.set 2 _ _ (by have e := heap_setCell_same _ F 2 _ _ (.int .u64 (v : Int)) h.blk; simpa [Fv.rbox] using e) ⟨rfl, rfl, rfl, rfl⟩ ⟨rfl, rfl, rfl, rfl⟩ h.kd h.ag hv h.ic h.ba h.cu h.li
theorem Gr.set_ic {w0 w : World} {g F : Nat} {k : Fv} {l : List UInt8} {er : Nat} (h : Gr w0 w g F k l er) (v : Nat) (hv : v < two64) : Gr w0 (w.setCell ⟨F, 3, none⟩ (.int .u64 (v : Int))) g F { k with ic := v } l er :=
  h.set 3 _ _ (by have e := heap_setCell_same _ F 3 _ _ (.int .u64 (v : Int)) h.blk; simpa [Fv.rbox] using e) ⟨rfl, rfl, rfl, rfl⟩ ⟨rfl, rfl, rfl, rfl⟩ h.kd h.ag h.ep hv h.ba h.cu h.li
theorem Gr.set_ba {w0 w : World} {g F : Nat} {k : Fv} {l : List UInt8} {er : Nat} (h : Gr w0 w g F k l er) (v : Nat) (hv : v < two64) : Gr w0 (w.setCell ⟨F, 4, none⟩ (.int .u64 (v : Int))) g F { k with ba := v } l er :=
  h.set 4 _ _ (by have e := heap_setCell_same _ F 4 _ _ (.int .u64 (v : Int)) h.blk; simpa [Fv.rbox] using e) ⟨rfl, rfl, rfl, rfl⟩ ⟨rfl, rfl, rfl, rfl⟩ h.kd h.ag h.ep h.ic hv h.cu h.li
theorem Gr.set_cu {w0 w : World} {g F : Nat} {k : Fv} {l : List UInt8} {er : Nat} (h : Gr w0 w g F k l er) (v : Nat) (hv : v < two64) : Gr w0 (w.setCell ⟨F, 5, none⟩ (.int .u64 (v : Int))) g F { k with cu := v } l er :=
  h.set 5 _ _ (by have e := heap_setCell_same _ F 5 _ _ (.int .u64 (v : Int)) h.blk; simpa [Fv.rbox] using e) ⟨rfl, rfl, rfl, rfl⟩ ⟨rfl, rfl, rfl, rfl⟩ h.kd h.ag h.ep h.ic h.ba hv h.li
theorem Gr.set_li {w0 w : World} {g F : Nat} {k : Fv} {l : List UInt8} {er : Nat} (h : Gr w0 w g F k l er) (v : Nat) (hv : v < two64) : Gr w0 (w.setCell ⟨F, 6, none⟩ (.int .u64 (v : Int))) g F { k with li := v } l er :=
  h.set 6 _ _ (by have e := heap_setCell_same _ F 6 _ _ (.int .u64 (v : Int)) h.blk; simpa [Fv.rbox] using e) ⟨rfl, rfl, rfl, rfl⟩ ⟨rfl, rfl, rfl, rfl⟩ h.kd h.ag h.ep h.ic h.ba h.cu hv
theorem Gr.cellAt {w0 w : World} {g F : Nat} {k : Fv} {l : List UInt8} {er : Nat} (h : Gr w0 w g F k l er) (i : Nat) : w.cell? ⟨F, i, none⟩ = (#[Value.int .i64 (k.kd : Int), .int .i64 k.ag, .int .u64 (k.ep : Int), .int .u64 (k.ic : Int), .int .u64 (k.ba : Int), .int .u64 (k.cu : Int), .int .u64 (k.li : Int), .slice k.Ar k.nr k.cr, .slice k.Ai k.ni k.ci] : Array Value)[i]? := cell_of_row w _ i _ _ _ h.blk
theorem Gr.frz {w0 w : World} {g F : Nat} {k : Fv} {l : List UInt8} {er : Nat} (h : Gr w0 w g F k l er) (i : Nat) : w.frozen? ⟨F, i, none⟩ = false := frz_block (i := i) h.blk
theorem Gr.on {w0 w w' : World} {g F : Nat} {k : Fv} {l : List UInt8} {er : Nat} (h : Gr w0 w g F k l er) (hb : Below w.heap.size w w') : Gr w0 w' g F k l er := by
  obtain ⟨A, n, c, a, p, hin, hd⟩ := h.inn
  exact h.next (hin.below hb hin.lt) hd (only_below hb (some g))
theorem Gr.drewN {w0 w : World} {g F : Nat} {k : Fv} {l : List UInt8} {er : Nat} (h : Gr w0 w g F k l er) (q : Nat) : Gr w0 (w.drewN q) g F k l er := h.on (below_drewN (Below.refl _ _) q)
theorem Gr.onA {w0 w : World} {g F : Nat} {k : Fv} {l : List UInt8} {er : Nat} (h : Gr w0 w g F k l er) (o : Obj) : Gr w0 (w.alloc o) g F k l er := h.on (below_box w o)
/-- A run comes behind the others. -/
theorem Gr.run {w0 w w4 : World} {g F : Nat} {k : Fv} {l : List UInt8} {er : Nat} {A4 : Option Addr} {c4 : Nat} {r : Rn} (h : Gr w0 w g F k l er) (hb : Below (F + 1) w w4) (ho : w4.ownsRow (F + 1) 76 2 (.slice A4 (k.nr + 1) c4) (k.nr + 1) (rvs k.L ++ rv r))
    (hr : r.1 < two64 ∧ r.2 < two64) (hks : k.Ai = none ∧ k.ni = 0 ∧ k.ci = 0 ∧ k.ks = []) : Gr w0 (w4.setCell ⟨F, 7, none⟩ (.slice A4 (k.nr + 1) c4)) g F { k with Ar := A4, nr := k.nr + 1, cr := c4, L := k.L ++ [r] } l er := by
  obtain ⟨A, n, c, a, p, hin, hd⟩ := h.inn
  have hgF : g < F := by have := h.lt; have := h.le; omega
  have hblk := (hb.block F (by omega)).trans h.blk
  have hsz := hb.size
  refine ⟨⟨A, n, c, a, p, (hin.below hb (by omega)).kept (only_set w4 F 7 _) (fun k hk => by injection hk; omega), hd⟩, by have e := heap_setCell_same _ F 7 _ _ (.slice A4 (k.nr + 1) c4) hblk; simpa [Fv.rbox] using e, h.lt, h.le, ?_, ?_, ?_, ?_, ?_, h.kd, h.ag, h.ep, h.ic, h.ba, h.cu, h.li⟩
  · have hle := h.le
    have hg : w0.grownBy w4 (some g) := ⟨hb.os.trans h.gr.os, hb.tape.trans h.gr.tape, hb.output.trans h.gr.output, Nat.le_trans hle (Nat.le_of_lt (Array.getElem?_eq_some_iff.1 hblk).1), fun i hi hne => (hb.block i (by omega)).trans (h.gr.block i hi hne)⟩
    exact only_new hg h.le rfl
  · show (w4.setCell ⟨F, 7, none⟩ (.slice A4 (k.nr + 1) c4)).ownsRow (F + 1) 76 2 (.slice A4 (k.nr + 1) c4) (k.nr + 1) (rvs (k.L ++ [r]))
    rw [rvs_app, rvs_one1]
    exact own_otherN _ ho (show F < F + 1 by omega)
  · show World.ownsRow _ (F + 1) 73 3 (.slice k.Ai k.ni k.ci) k.ni (itvs k.ks)
    rw [hks.1, hks.2.1, hks.2.2.1, hks.2.2.2]
    exact ⟨rfl, .inl ⟨rfl, rfl⟩⟩
  · show ∀ x ∈ k.ks, _
    rw [hks.2.2.2]
    exact fun x hx => absurd hx List.not_mem_nil
  · intro q hq
    rcases List.mem_append.1 hq with h1 | h1
    · exact h.L q h1
    · rw [List.mem_singleton.1 h1]; exact hr
/-- An item comes behind the others. -/
theorem Gr.item {w0 w w4 : World} {g F : Nat} {k : Fv} {l : List UInt8} {er : Nat} {A4 : Option Addr} {c4 : Nat} {x : Ik} (h : Gr w0 w g F k l er) (hb : Below (F + 1) w w4) (hg : w.grownBy w4 (if k.ni = k.ci then none else (Value.slice k.Ai k.ni k.ci).ownBlock)) (ho : w4.ownsRow (F + 1) 73 3 (.slice A4 (k.ni + 1) c4) (k.ni + 1) (itvs k.ks ++ x.v))
    (hx : w.ownsRow (F + 1) 5 1 (.slice x.q.A x.q.n x.q.c) x.q.n (cbs x.q.l) ∧ x.N < two64) (hL : k.Ar = none ∧ k.nr = 0 ∧ k.cr = 0 ∧ k.L = []) : Gr w0 (w4.setCell ⟨F, 8, none⟩ (.slice A4 (k.ni + 1) c4)) g F { k with Ai := A4, ni := k.ni + 1, ci := c4, ks := k.ks ++ [x] } l er := by
  obtain ⟨A, n, c, a, p, hin, hd⟩ := h.inn
  have hgF : g < F := by have := h.lt; have := h.le; omega
  have hblk := (hb.block F (by omega)).trans h.blk
  have hsz := hb.size
  have keep : ∀ (y : Ik), w.ownsRow (F + 1) 5 1 (.slice y.q.A y.q.n y.q.c) y.q.n (cbs y.q.l) → (w4.setCell ⟨F, 8, none⟩ (.slice A4 (k.ni + 1) c4)).ownsRow (F + 1) 5 1 (.slice y.q.A y.q.n y.q.c) y.q.n (cbs y.q.l) := fun y hy => by
    refine own_otherN _ (hy.kept hg ?_) (show F < F + 1 by omega)
    split
    · cases (Value.slice y.q.A y.q.n y.q.c).ownBlock <;> simp
    · exact own_typed hy h.its (by decide)
  refine ⟨⟨A, n, c, a, p, (hin.below hb (by omega)).kept (only_set w4 F 8 _) (fun k hk => by injection hk; omega), hd⟩, by have e := heap_setCell_same _ F 8 _ _ (.slice A4 (k.ni + 1) c4) hblk; simpa [Fv.rbox] using e, h.lt, h.le, ?_, ?_, ?_, ?_, h.L, h.kd, h.ag, h.ep, h.ic, h.ba, h.cu, h.li⟩
  · have hle := h.le
    have hg : w0.grownBy w4 (some g) := ⟨hb.os.trans h.gr.os, hb.tape.trans h.gr.tape, hb.output.trans h.gr.output, Nat.le_trans hle (Nat.le_of_lt (Array.getElem?_eq_some_iff.1 hblk).1), fun i hi hne => (hb.block i (by omega)).trans (h.gr.block i hi hne)⟩
    exact only_new hg h.le rfl
  · show World.ownsRow _ (F + 1) 76 2 (.slice k.Ar k.nr k.cr) k.nr (rvs k.L)
    rw [hL.1, hL.2.1, hL.2.2.1, hL.2.2.2]
    exact ⟨rfl, .inl ⟨rfl, rfl⟩⟩
  · show (w4.setCell ⟨F, 8, none⟩ (.slice A4 (k.ni + 1) c4)).ownsRow (F + 1) 73 3 (.slice A4 (k.ni + 1) c4) (k.ni + 1) (itvs (k.ks ++ [x]))
    have e : itvs (k.ks ++ [x]) = itvs k.ks ++ x.v := by simp [itvs]
    rw [e]
    exact own_otherN _ ho (show F < F + 1 by omega)
  · intro y hy
    rcases List.mem_append.1 hy with h1 | h1
    · exact ⟨keep y (h.sl y h1).1, (h.sl y h1).2⟩
    · rw [List.mem_singleton.1 h1]; exact ⟨keep x hx.1, hx.2⟩
theorem gr_start {w1 w2 : World} {g : Nat} {l : List UInt8} {er kd : Nat} {A : Option Addr} {n c a : Nat} {p : List UInt8} (hin : RefAt w2 g A n c a er p) (hd : p.drop a = l) (hgr : w1.grownBy w2 (some g)) (hg : g < w1.heap.size) (hk : kd < 256) : Gr w1 (w2.alloc (headF kd 0 0).rbox) g w2.heap.size (headF kd 0 0) l er where
  inn := ⟨A, n, c, a, p, hin.below (below_box w2 _) hin.lt, hd⟩
  blk := heap_alloc_new w2 _
  lt := hg
  le := hgr.size
  gr := only_trans hgr (only_below (below_box w2 _) (some g))
  rs := ⟨rfl, .inl ⟨rfl, rfl⟩⟩
  its := ⟨rfl, .inl ⟨rfl, rfl⟩⟩
  sl := fun x hx => absurd hx List.not_mem_nil
  L := fun x hx => absurd hx List.not_mem_nil
  kd := hk
  ag := ⟨by show (-9223372036854775808 : Int) ≤ 0; decide, by show (0 : Int) ≤ 9223372036854775807; decide⟩
  ep := (by show 0 < two64; decide)
  ic := (by show 0 < two64; decide)
  ba := (by show 0 < two64; decide)
  cu := (by show 0 < two64; decide)
  li := (by show 0 < two64; decide)
theorem stNum_bad {l l1 : List UInt8} {er v e1 : Nat} (h : stNum l er = (v, l1, e1)) (he : e1 ≠ 0) : v = 0 := by
  unfold stNum at h
  split at h
  · split at h
    · injection h with h1 h2
      injection h2 with h2 h3
      omega
    · injection h with h1 h2; exact h1.symm
  · injection h with h1 h2; exact h1.symm

set_option maxHeartbeats 1000000 in
theorem refMost_any {w : World} {g : Nat} {A : Option Addr} {n c a er : Nat} {p : List UInt8} (h : RefAt w g A n c a er p) (most : Nat) (hm : most ≤ 64) :
    Calls Tryd.prog 43 #[.pointer (some ⟨g, 0, none⟩), .int .u64 (most : Int)] w (RefTold w g A n c p (.int .i64 ((stMost (p.drop a) er most).1 : Nat)) (stMost (p.drop a) er most).2.1 (stMost (p.drop a) er most).2.2) := by
  obtain ⟨⟨v, l1, e1⟩, hst⟩ : ∃ x, stNum (p.drop a) er = x := ⟨_, rfl⟩
  have c1 := refNumber_any h
  rw [hst] at c1
  have C1 := Lib.hid c1
  have hbad := stNum_bad hst
  by_cases he : e1 = 0
  · subst he
    by_cases hgt : most < v
    · have hs2 : stMost (p.drop a) er most = (0, l1, 2) := by unfold stMost; rw [hst, if_pos hgt]; rfl
      rw [hs2]
      have hI : (most : Int) < (v : Int) := by omega
      clear hst c1 hs2 hgt h hbad
      go_enter Tryd.func43, Tryd.ntmps43
      go_wp2_with fail
      refine C1.out.mono ?_
      rintro e w2 ⟨a2, rfl, hin2, hd2, hgr2⟩
      have k2 : w2.cell? ⟨g, 2, none⟩ = some (.int .i64 0) := hin2.cell2
      have f2 := hin2.frz 2
      have HI2 := Lib.hid (hin2.setErr 2)
      have HG2 := Lib.hid (only_trans hgr2 (only_set w2 g 2 (.int .i64 2)))
      have HD2 := Lib.hid hd2
      clear hin2 hgr2 C1 hd2
      go_wp2
      go_ret
      exact ⟨a2, rfl, HI2.out, HD2.out, HG2.out⟩
    · have hs2 : stMost (p.drop a) er most = (v, l1, 0) := by unfold stMost; rw [hst, if_neg hgt]
      rw [hs2]
      have hI : ¬ (most : Int) < (v : Int) := by omega
      have hwk : IntKind.i64.wrap (v : Int) = (v : Int) := by rw [IntKind.wrap_i64]; omega
      clear hst c1 hs2 hgt h hbad
      go_enter Tryd.func43, Tryd.ntmps43
      go_wp2_with fail
      refine C1.out.mono ?_
      rintro e w2 ⟨a2, rfl, hin2, hd2, hgr2⟩
      have k2 : w2.cell? ⟨g, 2, none⟩ = some (.int .i64 0) := hin2.cell2
      have HI2 := Lib.hid hin2
      have HG2 := Lib.hid hgr2
      have HD2 := Lib.hid hd2
      clear hin2 hgr2 C1 hd2
      go_wp2
      go_ret
      exact ⟨a2, rfl, HI2.out, HD2.out, HG2.out⟩
  · obtain rfl := hbad he
    have hs2 : stMost (p.drop a) er most = (0, l1, e1) := by unfold stMost; rw [hst, if_neg (by omega)]
    rw [hs2]
    have hE : ((e1 : Int) == 0) = false := by simp; omega
    have hN : ((e1 : Int) != 0) = true := by simp; omega
    clear hst c1 hs2 h hbad he
    go_enter Tryd.func43, Tryd.ntmps43
    go_wp2_with fail
    refine C1.out.mono ?_
    rintro e w2 ⟨a2, rfl, hin2, hd2, hgr2⟩
    have k2 := hin2.cell2
    have HI2 := Lib.hid hin2
    have HG2 := Lib.hid hgr2
    have HD2 := Lib.hid hd2
    clear hin2 hgr2 C1 hd2
    go_wp2
    go_ret
    exact ⟨a2, rfl, HI2.out, HD2.out, HG2.out⟩
end Go.Proofs.YtlkcnpmgafckoaaDoor
