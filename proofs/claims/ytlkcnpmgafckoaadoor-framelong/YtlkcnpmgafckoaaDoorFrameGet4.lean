/-
  CONTRACT of layer 5: a frame is read, up to the first error: get.
  No statement is proved here.
-/
import Derived.Test.YtlkcnpmgafckoaaDoorFrameGet3
import Derived.Test.YtlkcnpmgafckoaaDoorLawTurned
namespace Go.Proofs.YtlkcnpmgafckoaaDoor
open Go.RowKit

theorem set9_only (w : World) (r : Nat) (u0 u1 u2 u3 u4 u5 u6 u7 u8 : Value) : w.grownBy (set9 w r u0 u1 u2 u3 u4 u5 u6 u7 u8) (some r) := by
  unfold set9
  exact only_trans (only_trans (only_trans (only_trans (only_trans (only_trans (only_trans (only_trans (only_set _ r 0 _) (only_set _ r 1 _)) (only_set _ r 2 _)) (only_set _ r 3 _)) (only_set _ r 4 _)) (only_set _ r 5 _)) (only_set _ r 6 _)) (only_set _ r 7 _)) (only_set _ r 8 _)
/-- A frame whose lists are its own, all made behind B. -/
structure Nw (w : World) (B : Nat) (k : Fv) : Prop where
  rs : w.ownsRow B 77 2 (.slice k.Ar k.nr k.cr) k.nr (rvs k.L)
  its : w.ownsRow B 58 3 (.slice k.Ai k.ni k.ci) k.ni (itvs k.ks)
  sl : ∀ x ∈ k.ks, w.ownsRow B 5 1 (.slice x.q.A x.q.n x.q.c) x.q.n (cbs x.q.l) ∧ x.N < two64
  L : ∀ q ∈ k.L, q.1 < two64 ∧ q.2 < two64
  kd : k.kd < 256
  ag : -9223372036854775808 ≤ k.ag ∧ k.ag ≤ 9223372036854775807
  ep : k.ep < two64
  ic : k.ic < two64
  ba : k.ba < two64
  cu : k.cu < two64
  li : k.li < two64
theorem Gt.nw {w0 w : World} {g F : Nat} {k : Fv} {l : List UInt8} {er : Nat} (h : Gt w0 w g F k l er) : Nw w (F + 1) k := ⟨h.rs, h.its, h.sl, h.L, h.kd, h.ag, h.ep, h.ic, h.ba, h.cu, h.li⟩
theorem Nw.zero (w : World) (B : Nat) : Nw w B zeroF where
  rs := ⟨rfl, .inl ⟨rfl, rfl⟩⟩
  its := ⟨rfl, .inl ⟨rfl, rfl⟩⟩
  sl := fun x hx => absurd hx List.not_mem_nil
  L := fun x hx => absurd hx List.not_mem_nil
  kd := by decide
  ag := by decide
  ep := by decide
  ic := by decide
  ba := by decide
  cu := by decide
  li := by decide
theorem Nw.fr {w : World} {B : Nat} {k : Fv} (h : Nw w B k) : FrAt w k := ⟨⟨Sn.of_own h.rs, h.L⟩, Itms.of_own h.its (fun x hx => ⟨Sl.of_own (h.sl x hx).1, (h.sl x hx).2⟩), h.kd, h.ag, h.ep, h.ic, h.ba, h.cu, h.li⟩
theorem Nw.kept {w w' : World} {B g : Nat} {k : Fv} (h : Nw w B k) (hg : w.grownBy w' (some g)) (hlt : g < B) : Nw w' B k := ⟨own_g h.rs hg hlt, own_g h.its hg hlt, fun x hx => ⟨own_g (h.sl x hx).1 hg hlt, (h.sl x hx).2⟩, h.L, h.kd, h.ag, h.ep, h.ic, h.ba, h.cu, h.li⟩
theorem Nw.set9 {w : World} {B r : Nat} {k : Fv} (h : Nw w B k) (hr : r < B) (u0 u1 u2 u3 u4 u5 u6 u7 u8 : Value) : Nw (set9 w r u0 u1 u2 u3 u4 u5 u6 u7 u8) B k := h.kept (set9_only w r u0 u1 u2 u3 u4 u5 u6 u7 u8) hr
/-- A frame is handed back; the reader has gone on. -/
def GotF (w : World) (g : Nat) (x : Fm × List UInt8 × Nat) (e : Ending) (w' : World) : Prop :=
  ∃ k : Fv, e = .returned k.v ∧ k.m = x.1 ∧ Nw w' w.heap.size k ∧ (∃ A n c, InAt w' g A n c x.2.2 x.2.1) ∧ w.grownBy w' (some g)
theorem gt_start {w1 w2 : World} {g : Nat} {l : List UInt8} {er kd : Nat} {A : Option Addr} {n c : Nat} (hin : InAt w2 g A n c er l) (hgr : w1.grownBy w2 (some g)) (hg : g < w1.heap.size) (hk : kd < 256) : Gt w1 (w2.alloc (headF kd 0 0).box) g w2.heap.size (headF kd 0 0) l er where
  inn := ⟨A, n, c, hin.below (below_box w2 _) hin.lt⟩
  blk := heap_alloc_new w2 _
  lt := hg
  le := hgr.size
  gr := only_trans hgr (only_below (below_box w2 _) (some g))
  rs := ⟨rfl, .inl ⟨rfl, rfl⟩⟩
  its := ⟨rfl, .inl ⟨rfl, rfl⟩⟩
  sl := fun x hx => absurd hx List.not_mem_nil
  L := fun x hx => absurd hx List.not_mem_nil
  kd := hk
  ag := ⟨by show (-9223372036854775808 : Int) ≤ 0; decide, by show (0 : Int) ≤ 9223372036854775807; decide⟩
  ep := (by show 0 < two64; decide)
  ic := (by show 0 < two64; decide)
  ba := (by show 0 < two64; decide)
  cu := (by show 0 < two64; decide)
  li := (by show 0 < two64; decide)
/-- What was read is a frame, also behind a block's cells are written. -/
theorem own_down {w : World} {b b2 : Nat} {e : TypeId} {s : Nat} {v : Value} {n : Nat} {xs : List Value} (h : w.ownsRow b e s v n xs) (hle : b2 ≤ b) : w.ownsRow b2 e s v n xs := by
  obtain ⟨h1, h2⟩ := h
  refine ⟨h1, h2.imp id ?_⟩
  rintro ⟨g, cap, cur, hv, hb, h3⟩
  exact ⟨g, cap, cur, hv, Nat.le_trans hle hb, h3⟩
theorem Gt.done {w0 w : World} {g F R B : Nat} {k : Fv} {l : List UInt8} {er : Nat} (h : Gt w0 w g F k l er) (hgR : g < R) (hR : R < F) (hB : B ≤ F + 1) (u0 u1 u2 u3 u4 u5 u6 u7 u8 : Value) : Nw (set9 w R u0 u1 u2 u3 u4 u5 u6 u7 u8) B k ∧ (∃ A n c, InAt (set9 w R u0 u1 u2 u3 u4 u5 u6 u7 u8) g A n c er l) := by
  obtain ⟨A, n, c, hin⟩ := h.inn
  have hRF : R < F + 1 := by omega
  have h2 := h.nw.set9 hRF u0 u1 u2 u3 u4 u5 u6 u7 u8
  exact ⟨⟨own_down h2.rs hB, own_down h2.its hB, fun x hx => ⟨own_down (h2.sl x hx).1 hB, (h2.sl x hx).2⟩, h2.L, h2.kd, h2.ag, h2.ep, h2.ic, h2.ba, h2.cu, h2.li⟩, A, n, c, hin.kept (set9_only w R u0 u1 u2 u3 u4 u5 u6 u7 u8) (fun k hk => by injection hk; omega)⟩
theorem box_kept {w w' : World} {g r : Nat} {o : Obj} (h : w.heap[r]? = some o) (hg : w.grownBy w' (some g)) (hne : g ≠ r) : w'.heap[r]? = some o := only_block hg h (fun e => by injection e with e; exact hne e.symm)


set_option maxRecDepth 100000 in
set_option maxHeartbeats 2000000 in
theorem get1_any {w : World} {g : Nat} {A : Option Addr} {n c : Nat} {l l1 : List UInt8} {e1 : Nat} (h : InAt w g A n c 0 l) (h1 : stByte l 0 = (1, l1, e1)) :
    Calls Tryd.prog 39 #[.pointer (some ⟨g, 0, none⟩)] w (GotF w g (getM l)) := by
  have hglt := h.lt
  have hinR := h.below (below_box w (.cells #[.int .u8 0, .int .i64 0, .int .u64 0, .int .u64 0, .int .u64 0, .int .u64 0, .int .u64 0, .slice none 0 0, .slice none 0 0] 26)) hglt
  have c1 := inByte_any hinR
  rw [h1] at c1
  have HC1 : Hid (Calls Tryd.prog 67 #[.pointer (some ⟨g, 0, none⟩)] (w.alloc (.cells #[.int .u8 0, .int .i64 0, .int .u64 0, .int .u64 0, .int .u64 0, .int .u64 0, .int .u64 0, .slice none 0 0, .slice none 0 0] 26)) (Told (w.alloc (.cells #[.int .u8 0, .int .i64 0, .int .u64 0, .int .u64 0, .int .u64 0, .int .u64 0, .int .u64 0, .slice none 0 0, .slice none 0 0] 26)) g (.int .u8 1) l1 e1)) := c1
  have hab := stMost_le l1 e1 15
  obtain ⟨⟨a, l2, e2⟩, H2⟩ : ∃ x, Hid (stMost l1 e1 15 = x) := ⟨_, rfl⟩
  rw [H2.out] at hab
  have HAB := Lib.hid hab
  have HPB := Lib.hid (stNum_lt l2 e2)
  obtain ⟨⟨p, l3, e3⟩, H3⟩ : ∃ x, Hid (stNum l2 e2 = x) := ⟨_, rfl⟩
  rw [H3.out] at HPB
  have HX : Hid (getM l = getH (headF 1 (a : Int) p).m l3 e3) := by
    show _ = _
    simp only [getM, h1, H2.out, H3.out]
    rfl
  rw [HX.out]
  obtain ⟨x, HXX⟩ : ∃ x, Hid (x = getH (headF 1 (a : Int) p).m l3 e3) := ⟨_, rfl⟩
  rw [← HXX.out]
  have HR := Lib.hid (heap_alloc_new w (.cells #[.int .u8 0, .int .i64 0, .int .u64 0, .int .u64 0, .int .u64 0, .int .u64 0, .int .u64 0, .slice none 0 0, .slice none 0 0] 26))
  have hszR : (w.alloc (.cells #[.int .u8 0, .int .i64 0, .int .u64 0, .int .u64 0, .int .u64 0, .int .u64 0, .int .u64 0, .slice none 0 0, .slice none 0 0] 26)).heap.size = w.heap.size + 1 := by simp
  have HSZ := Lib.hid hszR
  have HBX := Lib.hid (below_box w (.cells #[.int .u8 0, .int .i64 0, .int .u64 0, .int .u64 0, .int .u64 0, .int .u64 0, .int .u64 0, .slice none 0 0, .slice none 0 0] 26))
  have HGL := Lib.hid hglt
  clear h hinR c1 h1 hab HX hszR hglt
  go_enter Tryd.func39, Tryd.ntmps39
  go_wp2_with fail
  generalize (w.alloc (.cells #[.int .u8 0, .int .i64 0, .int .u64 0, .int .u64 0, .int .u64 0, .int .u64 0, .int .u64 0, .slice none 0 0, .slice none 0 0] 26)) = wR at *
  refine HC1.out.mono ?_
  rintro e w2 ⟨A2, n2, c2, rfl, hin2, hgr2⟩
  have HG2 := Lib.hid (gt_start (kd := 1) hin2 hgr2 (by have := HSZ.out; have := HGL.out; omega) (by omega))
  have HF2 := Lib.hid hgr2.size
  clear hin2 hgr2 HC1
  go_wp2_with fail
  change Calls _ _ _ (w2.alloc (headF 1 0 0).box) _
  generalize (w2.alloc (headF 1 0 0).box) = wF at *
  refine (parts1 wF).mono ?_
  rintro e w3 ⟨rfl, hb3⟩
  have HG3 := Lib.hid (HG2.out.on hb3)
  have HG4 := Lib.hid (HG3.out.onA (.cells #[.string ⟨#[104, 101, 108, 108, 111]⟩, .func (Fn.func 50) #[] #[], .func (Fn.func 51) #[] #[], .func (Fn.func 52) #[] #[]] 66))
  have HP4 := Lib.hid (heap_alloc_new w3 (.cells #[.string ⟨#[104, 101, 108, 108, 111]⟩, .func (Fn.func 50) #[] #[], .func (Fn.func 51) #[] #[], .func (Fn.func 52) #[] #[]] 66))
  have HP3 : Hid (w2.heap.size < w3.heap.size) := HG3.out.fl
  clear hb3 HG2 HG3
  go_wp2_with fail
  generalize (w3.alloc (.cells #[.string ⟨#[104, 101, 108, 108, 111]⟩, .func (Fn.func 50) #[] #[], .func (Fn.func 51) #[] #[], .func (Fn.func 52) #[] #[]] 66)) = wP at *
  obtain ⟨A4, n4, c4, hin4⟩ := HG4.out.inn
  have HC4 := Lib.hid (atMost_any hin4 15 (by omega))
  rw [H2.out] at HC4
  refine HC4.out.mono ?_
  rintro e w5 ⟨A5, n5, c5, rfl, hin5, hgr5⟩
  have HG5 := Lib.hid (HG4.out.next hin5 hgr5)
  have hgF : g < w2.heap.size := by have := HG4.out.lt; have := HF2.out; omega
  have HP5 := Lib.hid (box_kept HP4.out hgr5 (by have := HP3.out; omega))
  have q1 : w5.cell? ⟨w2.heap.size, 1, none⟩ = some (.int .i64 0) := HG5.out.cellAt 1
  have f1 := HG5.out.frz 1
  have HG6 := Lib.hid (HG5.out.set_ag a (by have := HAB.out; omega))
  have HP6 := Lib.hid ((heap_setCell_other w5 ⟨w2.heap.size, 1, none⟩ w3.heap.size (.int .i64 (a : Int)) (by show w3.heap.size ≠ w2.heap.size; have := HP3.out; omega)).trans HP5.out)
  clear hin4 HC4 hin5 hgr5 HG4 HP4 HG5 HP5
  go_wp2_with fail
  generalize (w5.setCell ⟨w2.heap.size, 1, none⟩ (.int .i64 (a : Int))) = x5 at *
  obtain ⟨A6, n6, c6, hin6⟩ := HG6.out.inn
  have HC6 := Lib.hid (inNum_any hin6)
  rw [H3.out] at HC6
  refine HC6.out.mono ?_
  rintro e w7 ⟨A7, n7, c7, rfl, hin7, hgr7⟩
  have HG7 := Lib.hid (HG6.out.next hin7 hgr7)
  have HP7 := Lib.hid (box_kept HP6.out hgr7 (by have := HP3.out; omega))
  have q2 : w7.cell? ⟨w2.heap.size, 2, none⟩ = some (.int .u64 0) := HG7.out.cellAt 2
  have f2 := HG7.out.frz 2
  have HG8 : Hid (Gt wR (w7.setCell ⟨w2.heap.size, 2, none⟩ (.int .u64 (p : Int))) g w2.heap.size (headF 1 (a : Int) p) l3 e3) := HG7.out.set_ep p HPB.out
  have hP8 := (heap_setCell_other w7 ⟨w2.heap.size, 2, none⟩ w3.heap.size (.int .u64 (p : Int)) (by show w3.heap.size ≠ w2.heap.size; have := HP3.out; omega)).trans HP7.out
  have p3 : (w7.setCell ⟨w2.heap.size, 2, none⟩ (.int .u64 (p : Int))).cell? ⟨w3.heap.size, 3, none⟩ = some (.func (Fn.func 52) #[] #[]) := by rw [cell_of_row _ _ 3 _ _ _ hP8]; rfl
  clear hin6 HC6 hin7 hgr7 HG6 HP6 HG7 HP7 q1 f1 hP8
  go_wp2_with fail
  generalize (w7.setCell ⟨w2.heap.size, 2, none⟩ (.int .u64 (p : Int))) = x7 at *
  have hc8 := getHello_any HG8.out
  rw [← HXX.out] at hc8
  refine hc8.mono ?_
  rintro e w9 ⟨rfl, k, hk, hG9⟩
  obtain ⟨x1, x2, x3⟩ := x
  dsimp only at hk hG9
  have HK := Lib.hid hk
  have HG9 := Lib.hid hG9
  have hR9 := box_kept HR.out hG9.gr (by have := HGL.out; omega)
  have hRF : w.heap.size < w2.heap.size := by have := HSZ.out; have := HF2.out; omega
  obtain ⟨q0, q1, q2', q3, q4, q5, q6, q7, q8⟩ : w9.cell? ⟨w2.heap.size, 0, none⟩ = some (.int .u8 (k.kd : Int)) ∧ w9.cell? ⟨w2.heap.size, 1, none⟩ = some (.int .i64 k.ag) ∧ w9.cell? ⟨w2.heap.size, 2, none⟩ = some (.int .u64 (k.ep : Int)) ∧ w9.cell? ⟨w2.heap.size, 3, none⟩ = some (.int .u64 (k.ic : Int)) ∧ w9.cell? ⟨w2.heap.size, 4, none⟩ = some (.int .u64 (k.ba : Int)) ∧ w9.cell? ⟨w2.heap.size, 5, none⟩ = some (.int .u64 (k.cu : Int)) ∧ w9.cell? ⟨w2.heap.size, 6, none⟩ = some (.int .u64 (k.li : Int)) ∧ w9.cell? ⟨w2.heap.size, 7, none⟩ = some (.slice k.Ar k.nr k.cr) ∧ w9.cell? ⟨w2.heap.size, 8, none⟩ = some (.slice k.Ai k.ni k.ci) := ⟨hG9.cellAt 0, hG9.cellAt 1, hG9.cellAt 2, hG9.cellAt 3, hG9.cellAt 4, hG9.cellAt 5, hG9.cellAt 6, hG9.cellAt 7, hG9.cellAt 8⟩
  have r : ∀ i, w9.cell? ⟨w.heap.size, i, none⟩ = (#[Value.int .u8 0, .int .i64 0, .int .u64 0, .int .u64 0, .int .u64 0, .int .u64 0, .int .u64 0, .slice none 0 0, .slice none 0 0] : Array Value)[i]? := fun i => cell_of_row w9 _ i _ _ _ hR9
  obtain ⟨r0, r1, r2, r3, r4, r5, r6, r7, r8⟩ : w9.cell? ⟨w.heap.size, 0, none⟩ = some (.int .u8 0) ∧ w9.cell? ⟨w.heap.size, 1, none⟩ = some (.int .i64 0) ∧ w9.cell? ⟨w.heap.size, 2, none⟩ = some (.int .u64 0) ∧ w9.cell? ⟨w.heap.size, 3, none⟩ = some (.int .u64 0) ∧ w9.cell? ⟨w.heap.size, 4, none⟩ = some (.int .u64 0) ∧ w9.cell? ⟨w.heap.size, 5, none⟩ = some (.int .u64 0) ∧ w9.cell? ⟨w.heap.size, 6, none⟩ = some (.int .u64 0) ∧ w9.cell? ⟨w.heap.size, 7, none⟩ = some (.slice none 0 0) ∧ w9.cell? ⟨w.heap.size, 8, none⟩ = some (.slice none 0 0) := ⟨r 0, r 1, r 2, r 3, r 4, r 5, r 6, r 7, r 8⟩
  obtain ⟨f0, f1, f2', f3, f4, f5, f6, f7, f8⟩ : w9.frozen? ⟨w.heap.size, 0, none⟩ = false ∧ w9.frozen? ⟨w.heap.size, 1, none⟩ = false ∧ w9.frozen? ⟨w.heap.size, 2, none⟩ = false ∧ w9.frozen? ⟨w.heap.size, 3, none⟩ = false ∧ w9.frozen? ⟨w.heap.size, 4, none⟩ = false ∧ w9.frozen? ⟨w.heap.size, 5, none⟩ = false ∧ w9.frozen? ⟨w.heap.size, 6, none⟩ = false ∧ w9.frozen? ⟨w.heap.size, 7, none⟩ = false ∧ w9.frozen? ⟨w.heap.size, 8, none⟩ = false := ⟨frz_block (i := 0) hR9, frz_block (i := 1) hR9, frz_block (i := 2) hR9, frz_block (i := 3) hR9, frz_block (i := 4) hR9, frz_block (i := 5) hR9, frz_block (i := 6) hR9, frz_block (i := 7) hR9, frz_block (i := 8) hR9⟩
  have HB9 := Lib.hid (set9_heap (.int .u8 (k.kd : Int)) (.int .i64 k.ag) (.int .u64 (k.ep : Int)) (.int .u64 (k.ic : Int)) (.int .u64 (k.ba : Int)) (.int .u64 (k.cu : Int)) (.int .u64 (k.li : Int)) (.slice k.Ar k.nr k.cr) (.slice k.Ai k.ni k.ci) hR9)
  have HD9 := Lib.hid (hG9.done (B := w.heap.size) HGL.out hRF (by omega) (.int .u8 (k.kd : Int)) (.int .i64 k.ag) (.int .u64 (k.ep : Int)) (.int .u64 (k.ic : Int)) (.int .u64 (k.ba : Int)) (.int .u64 (k.cu : Int)) (.int .u64 (k.li : Int)) (.slice k.Ar k.nr k.cr) (.slice k.Ai k.ni k.ci))
  have HGR := Lib.hid (only_trans hG9.gr (only_trans (only_refl w9 (some g)) (only_refl w9 (some g))))
  clear hc8 hG9 hk r hR9 HR q2 f2 p3
  go_wp2
  have hr : ∀ i, (set9 w9 w.heap.size (.int .u8 (k.kd : Int)) (.int .i64 k.ag) (.int .u64 (k.ep : Int)) (.int .u64 (k.ic : Int)) (.int .u64 (k.ba : Int)) (.int .u64 (k.cu : Int)) (.int .u64 (k.li : Int)) (.slice k.Ar k.nr k.cr) (.slice k.Ai k.ni k.ci)).cell? ⟨w.heap.size, i, none⟩ = (#[Value.int .u8 (k.kd : Int), .int .i64 k.ag, .int .u64 (k.ep : Int), .int .u64 (k.ic : Int), .int .u64 (k.ba : Int), .int .u64 (k.cu : Int), .int .u64 (k.li : Int), .slice k.Ar k.nr k.cr, .slice k.Ai k.ni k.ci] : Array Value)[i]? := fun i => cell_of_row _ _ i _ _ _ HB9.out
  have hon : w.grownBy (set9 w9 w.heap.size (.int .u8 (k.kd : Int)) (.int .i64 k.ag) (.int .u64 (k.ep : Int)) (.int .u64 (k.ic : Int)) (.int .u64 (k.ba : Int)) (.int .u64 (k.cu : Int)) (.int .u64 (k.li : Int)) (.slice k.Ar k.nr k.cr) (.slice k.Ai k.ni k.ci)) (some g) := ⟨(set9_only w9 w.heap.size (.int .u8 (k.kd : Int)) (.int .i64 k.ag) (.int .u64 (k.ep : Int)) (.int .u64 (k.ic : Int)) (.int .u64 (k.ba : Int)) (.int .u64 (k.cu : Int)) (.int .u64 (k.li : Int)) (.slice k.Ar k.nr k.cr) (.slice k.Ai k.ni k.ci)).os.trans (HGR.out.os.trans HBX.out.os), (set9_only w9 w.heap.size (.int .u8 (k.kd : Int)) (.int .i64 k.ag) (.int .u64 (k.ep : Int)) (.int .u64 (k.ic : Int)) (.int .u64 (k.ba : Int)) (.int .u64 (k.cu : Int)) (.int .u64 (k.li : Int)) (.slice k.Ar k.nr k.cr) (.slice k.Ai k.ni k.ci)).tape.trans (HGR.out.tape.trans HBX.out.tape), (set9_only w9 w.heap.size (.int .u8 (k.kd : Int)) (.int .i64 k.ag) (.int .u64 (k.ep : Int)) (.int .u64 (k.ic : Int)) (.int .u64 (k.ba : Int)) (.int .u64 (k.cu : Int)) (.int .u64 (k.li : Int)) (.slice k.Ar k.nr k.cr) (.slice k.Ai k.ni k.ci)).output.trans (HGR.out.output.trans HBX.out.output), Nat.le_trans HBX.out.size (Nat.le_trans HGR.out.size (set9_only w9 w.heap.size (.int .u8 (k.kd : Int)) (.int .i64 k.ag) (.int .u64 (k.ep : Int)) (.int .u64 (k.ic : Int)) (.int .u64 (k.ba : Int)) (.int .u64 (k.cu : Int)) (.int .u64 (k.li : Int)) (.slice k.Ar k.nr k.cr) (.slice k.Ai k.ni k.ci)).size), fun i hi hne => ((set9_only w9 w.heap.size (.int .u8 (k.kd : Int)) (.int .i64 k.ag) (.int .u64 (k.ep : Int)) (.int .u64 (k.ic : Int)) (.int .u64 (k.ba : Int)) (.int .u64 (k.cu : Int)) (.int .u64 (k.li : Int)) (.slice k.Ar k.nr k.cr) (.slice k.Ai k.ni k.ci)).block i (by have := HGR.out.size; have := HSZ.out; omega) (fun e => by injection e; omega)).trans ((HGR.out.block i (by have := HSZ.out; omega) hne).trans (HBX.out.block i hi))⟩
  change bodyPost _ _ _ _ _ (set9 w9 w.heap.size (.int .u8 (k.kd : Int)) (.int .i64 k.ag) (.int .u64 (k.ep : Int)) (.int .u64 (k.ic : Int)) (.int .u64 (k.ba : Int)) (.int .u64 (k.cu : Int)) (.int .u64 (k.li : Int)) (.slice k.Ar k.nr k.cr) (.slice k.Ai k.ni k.ci))
  generalize (set9 w9 w.heap.size (.int .u8 (k.kd : Int)) (.int .i64 k.ag) (.int .u64 (k.ep : Int)) (.int .u64 (k.ic : Int)) (.int .u64 (k.ba : Int)) (.int .u64 (k.cu : Int)) (.int .u64 (k.li : Int)) (.slice k.Ar k.nr k.cr) (.slice k.Ai k.ni k.ci)) = wz at *
  refine bodyPost_ret (v := .agg #[Value.int .u8 (k.kd : Int), .int .i64 k.ag, .int .u64 (k.ep : Int), .int .u64 (k.ic : Int), .int .u64 (k.ba : Int), .int .u64 (k.cu : Int), .int .u64 (k.li : Int), .slice k.Ar k.nr k.cr, .slice k.Ai k.ni k.ci]) (by simp [results, Tryd.results39, go_sem, hr]) rfl ?_
  exact ⟨k, rfl, HK.out, HD9.out.1, HD9.out.2, hon⟩


set_option maxRecDepth 100000 in
set_option maxHeartbeats 2000000 in
theorem get2_any {w : World} {g : Nat} {A : Option Addr} {n c : Nat} {l l1 : List UInt8} {e1 : Nat} (h : InAt w g A n c 0 l) (h1 : stByte l 0 = (2, l1, e1)) :
    Calls Tryd.prog 39 #[.pointer (some ⟨g, 0, none⟩)] w (GotF w g (getM l)) := by
  have hglt := h.lt
  have hinR := h.below (below_box w (.cells #[.int .u8 0, .int .i64 0, .int .u64 0, .int .u64 0, .int .u64 0, .int .u64 0, .int .u64 0, .slice none 0 0, .slice none 0 0] 26)) hglt
  have c1 := inByte_any hinR
  rw [h1] at c1
  have HC1 : Hid (Calls Tryd.prog 67 #[.pointer (some ⟨g, 0, none⟩)] (w.alloc (.cells #[.int .u8 0, .int .i64 0, .int .u64 0, .int .u64 0, .int .u64 0, .int .u64 0, .int .u64 0, .slice none 0 0, .slice none 0 0] 26)) (Told (w.alloc (.cells #[.int .u8 0, .int .i64 0, .int .u64 0, .int .u64 0, .int .u64 0, .int .u64 0, .int .u64 0, .slice none 0 0, .slice none 0 0] 26)) g (.int .u8 2) l1 e1)) := c1
  have hab := stMost_le l1 e1 15
  obtain ⟨⟨a, l2, e2⟩, H2⟩ : ∃ x, Hid (stMost l1 e1 15 = x) := ⟨_, rfl⟩
  rw [H2.out] at hab
  have HAB := Lib.hid hab
  have HPB := Lib.hid (stNum_lt l2 e2)
  obtain ⟨⟨p, l3, e3⟩, H3⟩ : ∃ x, Hid (stNum l2 e2 = x) := ⟨_, rfl⟩
  rw [H3.out] at HPB
  have HX : Hid (getM l = getA (headF 2 (a : Int) p).m l3 e3) := by
    show _ = _
    simp only [getM, h1, H2.out, H3.out]
    rfl
  rw [HX.out]
  obtain ⟨x, HXX⟩ : ∃ x, Hid (x = getA (headF 2 (a : Int) p).m l3 e3) := ⟨_, rfl⟩
  rw [← HXX.out]
  have HR := Lib.hid (heap_alloc_new w (.cells #[.int .u8 0, .int .i64 0, .int .u64 0, .int .u64 0, .int .u64 0, .int .u64 0, .int .u64 0, .slice none 0 0, .slice none 0 0] 26))
  have hszR : (w.alloc (.cells #[.int .u8 0, .int .i64 0, .int .u64 0, .int .u64 0, .int .u64 0, .int .u64 0, .int .u64 0, .slice none 0 0, .slice none 0 0] 26)).heap.size = w.heap.size + 1 := by simp
  have HSZ := Lib.hid hszR
  have HBX := Lib.hid (below_box w (.cells #[.int .u8 0, .int .i64 0, .int .u64 0, .int .u64 0, .int .u64 0, .int .u64 0, .int .u64 0, .slice none 0 0, .slice none 0 0] 26))
  have HGL := Lib.hid hglt
  clear h hinR c1 h1 hab HX hszR hglt
  go_enter Tryd.func39, Tryd.ntmps39
  go_wp2_with fail
  generalize (w.alloc (.cells #[.int .u8 0, .int .i64 0, .int .u64 0, .int .u64 0, .int .u64 0, .int .u64 0, .int .u64 0, .slice none 0 0, .slice none 0 0] 26)) = wR at *
  refine HC1.out.mono ?_
  rintro e w2 ⟨A2, n2, c2, rfl, hin2, hgr2⟩
  have HG2 := Lib.hid (gt_start (kd := 2) hin2 hgr2 (by have := HSZ.out; have := HGL.out; omega) (by omega))
  have HF2 := Lib.hid hgr2.size
  clear hin2 hgr2 HC1
  go_wp2_with fail
  change Calls _ _ _ (w2.alloc (headF 2 0 0).box) _
  generalize (w2.alloc (headF 2 0 0).box) = wF at *
  refine (parts2 wF).mono ?_
  rintro e w3 ⟨rfl, hb3⟩
  have HG3 := Lib.hid (HG2.out.on hb3)
  have HG4 := Lib.hid (HG3.out.onA (.cells #[.string ⟨#[119, 101, 108, 99, 111, 109, 101]⟩, .func (Fn.func 53) #[] #[], .func (Fn.func 54) #[] #[], .func (Fn.func 55) #[] #[]] 66))
  have HP4 := Lib.hid (heap_alloc_new w3 (.cells #[.string ⟨#[119, 101, 108, 99, 111, 109, 101]⟩, .func (Fn.func 53) #[] #[], .func (Fn.func 54) #[] #[], .func (Fn.func 55) #[] #[]] 66))
  have HP3 : Hid (w2.heap.size < w3.heap.size) := HG3.out.fl
  clear hb3 HG2 HG3
  go_wp2_with fail
  generalize (w3.alloc (.cells #[.string ⟨#[119, 101, 108, 99, 111, 109, 101]⟩, .func (Fn.func 53) #[] #[], .func (Fn.func 54) #[] #[], .func (Fn.func 55) #[] #[]] 66)) = wP at *
  obtain ⟨A4, n4, c4, hin4⟩ := HG4.out.inn
  have HC4 := Lib.hid (atMost_any hin4 15 (by omega))
  rw [H2.out] at HC4
  refine HC4.out.mono ?_
  rintro e w5 ⟨A5, n5, c5, rfl, hin5, hgr5⟩
  have HG5 := Lib.hid (HG4.out.next hin5 hgr5)
  have hgF : g < w2.heap.size := by have := HG4.out.lt; have := HF2.out; omega
  have HP5 := Lib.hid (box_kept HP4.out hgr5 (by have := HP3.out; omega))
  have q1 : w5.cell? ⟨w2.heap.size, 1, none⟩ = some (.int .i64 0) := HG5.out.cellAt 1
  have f1 := HG5.out.frz 1
  have HG6 := Lib.hid (HG5.out.set_ag a (by have := HAB.out; omega))
  have HP6 := Lib.hid ((heap_setCell_other w5 ⟨w2.heap.size, 1, none⟩ w3.heap.size (.int .i64 (a : Int)) (by show w3.heap.size ≠ w2.heap.size; have := HP3.out; omega)).trans HP5.out)
  clear hin4 HC4 hin5 hgr5 HG4 HP4 HG5 HP5
  go_wp2_with fail
  generalize (w5.setCell ⟨w2.heap.size, 1, none⟩ (.int .i64 (a : Int))) = x5 at *
  obtain ⟨A6, n6, c6, hin6⟩ := HG6.out.inn
  have HC6 := Lib.hid (inNum_any hin6)
  rw [H3.out] at HC6
  refine HC6.out.mono ?_
  rintro e w7 ⟨A7, n7, c7, rfl, hin7, hgr7⟩
  have HG7 := Lib.hid (HG6.out.next hin7 hgr7)
  have HP7 := Lib.hid (box_kept HP6.out hgr7 (by have := HP3.out; omega))
  have q2 : w7.cell? ⟨w2.heap.size, 2, none⟩ = some (.int .u64 0) := HG7.out.cellAt 2
  have f2 := HG7.out.frz 2
  have HG8 : Hid (Gt wR (w7.setCell ⟨w2.heap.size, 2, none⟩ (.int .u64 (p : Int))) g w2.heap.size (headF 2 (a : Int) p) l3 e3) := HG7.out.set_ep p HPB.out
  have hP8 := (heap_setCell_other w7 ⟨w2.heap.size, 2, none⟩ w3.heap.size (.int .u64 (p : Int)) (by show w3.heap.size ≠ w2.heap.size; have := HP3.out; omega)).trans HP7.out
  have p3 : (w7.setCell ⟨w2.heap.size, 2, none⟩ (.int .u64 (p : Int))).cell? ⟨w3.heap.size, 3, none⟩ = some (.func (Fn.func 55) #[] #[]) := by rw [cell_of_row _ _ 3 _ _ _ hP8]; rfl
  clear hin6 HC6 hin7 hgr7 HG6 HP6 HG7 HP7 q1 f1 hP8
  go_wp2_with fail
  generalize (w7.setCell ⟨w2.heap.size, 2, none⟩ (.int .u64 (p : Int))) = x7 at *
  have hc8 := getAnswer_any HG8.out
  rw [← HXX.out] at hc8
  refine hc8.mono ?_
  rintro e w9 ⟨rfl, k, hk, hG9⟩
  obtain ⟨x1, x2, x3⟩ := x
  dsimp only at hk hG9
  have HK := Lib.hid hk
  have HG9 := Lib.hid hG9
  have hR9 := box_kept HR.out hG9.gr (by have := HGL.out; omega)
  have hRF : w.heap.size < w2.heap.size := by have := HSZ.out; have := HF2.out; omega
  obtain ⟨q0, q1, q2', q3, q4, q5, q6, q7, q8⟩ : w9.cell? ⟨w2.heap.size, 0, none⟩ = some (.int .u8 (k.kd : Int)) ∧ w9.cell? ⟨w2.heap.size, 1, none⟩ = some (.int .i64 k.ag) ∧ w9.cell? ⟨w2.heap.size, 2, none⟩ = some (.int .u64 (k.ep : Int)) ∧ w9.cell? ⟨w2.heap.size, 3, none⟩ = some (.int .u64 (k.ic : Int)) ∧ w9.cell? ⟨w2.heap.size, 4, none⟩ = some (.int .u64 (k.ba : Int)) ∧ w9.cell? ⟨w2.heap.size, 5, none⟩ = some (.int .u64 (k.cu : Int)) ∧ w9.cell? ⟨w2.heap.size, 6, none⟩ = some (.int .u64 (k.li : Int)) ∧ w9.cell? ⟨w2.heap.size, 7, none⟩ = some (.slice k.Ar k.nr k.cr) ∧ w9.cell? ⟨w2.heap.size, 8, none⟩ = some (.slice k.Ai k.ni k.ci) := ⟨hG9.cellAt 0, hG9.cellAt 1, hG9.cellAt 2, hG9.cellAt 3, hG9.cellAt 4, hG9.cellAt 5, hG9.cellAt 6, hG9.cellAt 7, hG9.cellAt 8⟩
  have r : ∀ i, w9.cell? ⟨w.heap.size, i, none⟩ = (#[Value.int .u8 0, .int .i64 0, .int .u64 0, .int .u64 0, .int .u64 0, .int .u64 0, .int .u64 0, .slice none 0 0, .slice none 0 0] : Array Value)[i]? := fun i => cell_of_row w9 _ i _ _ _ hR9
  obtain ⟨r0, r1, r2, r3, r4, r5, r6, r7, r8⟩ : w9.cell? ⟨w.heap.size, 0, none⟩ = some (.int .u8 0) ∧ w9.cell? ⟨w.heap.size, 1, none⟩ = some (.int .i64 0) ∧ w9.cell? ⟨w.heap.size, 2, none⟩ = some (.int .u64 0) ∧ w9.cell? ⟨w.heap.size, 3, none⟩ = some (.int .u64 0) ∧ w9.cell? ⟨w.heap.size, 4, none⟩ = some (.int .u64 0) ∧ w9.cell? ⟨w.heap.size, 5, none⟩ = some (.int .u64 0) ∧ w9.cell? ⟨w.heap.size, 6, none⟩ = some (.int .u64 0) ∧ w9.cell? ⟨w.heap.size, 7, none⟩ = some (.slice none 0 0) ∧ w9.cell? ⟨w.heap.size, 8, none⟩ = some (.slice none 0 0) := ⟨r 0, r 1, r 2, r 3, r 4, r 5, r 6, r 7, r 8⟩
  obtain ⟨f0, f1, f2', f3, f4, f5, f6, f7, f8⟩ : w9.frozen? ⟨w.heap.size, 0, none⟩ = false ∧ w9.frozen? ⟨w.heap.size, 1, none⟩ = false ∧ w9.frozen? ⟨w.heap.size, 2, none⟩ = false ∧ w9.frozen? ⟨w.heap.size, 3, none⟩ = false ∧ w9.frozen? ⟨w.heap.size, 4, none⟩ = false ∧ w9.frozen? ⟨w.heap.size, 5, none⟩ = false ∧ w9.frozen? ⟨w.heap.size, 6, none⟩ = false ∧ w9.frozen? ⟨w.heap.size, 7, none⟩ = false ∧ w9.frozen? ⟨w.heap.size, 8, none⟩ = false := ⟨frz_block (i := 0) hR9, frz_block (i := 1) hR9, frz_block (i := 2) hR9, frz_block (i := 3) hR9, frz_block (i := 4) hR9, frz_block (i := 5) hR9, frz_block (i := 6) hR9, frz_block (i := 7) hR9, frz_block (i := 8) hR9⟩
  have HB9 := Lib.hid (set9_heap (.int .u8 (k.kd : Int)) (.int .i64 k.ag) (.int .u64 (k.ep : Int)) (.int .u64 (k.ic : Int)) (.int .u64 (k.ba : Int)) (.int .u64 (k.cu : Int)) (.int .u64 (k.li : Int)) (.slice k.Ar k.nr k.cr) (.slice k.Ai k.ni k.ci) hR9)
  have HD9 := Lib.hid (hG9.done (B := w.heap.size) HGL.out hRF (by omega) (.int .u8 (k.kd : Int)) (.int .i64 k.ag) (.int .u64 (k.ep : Int)) (.int .u64 (k.ic : Int)) (.int .u64 (k.ba : Int)) (.int .u64 (k.cu : Int)) (.int .u64 (k.li : Int)) (.slice k.Ar k.nr k.cr) (.slice k.Ai k.ni k.ci))
  have HGR := Lib.hid (only_trans hG9.gr (only_trans (only_refl w9 (some g)) (only_refl w9 (some g))))
  clear hc8 hG9 hk r hR9 HR q2 f2 p3
  go_wp2
  have hr : ∀ i, (set9 w9 w.heap.size (.int .u8 (k.kd : Int)) (.int .i64 k.ag) (.int .u64 (k.ep : Int)) (.int .u64 (k.ic : Int)) (.int .u64 (k.ba : Int)) (.int .u64 (k.cu : Int)) (.int .u64 (k.li : Int)) (.slice k.Ar k.nr k.cr) (.slice k.Ai k.ni k.ci)).cell? ⟨w.heap.size, i, none⟩ = (#[Value.int .u8 (k.kd : Int), .int .i64 k.ag, .int .u64 (k.ep : Int), .int .u64 (k.ic : Int), .int .u64 (k.ba : Int), .int .u64 (k.cu : Int), .int .u64 (k.li : Int), .slice k.Ar k.nr k.cr, .slice k.Ai k.ni k.ci] : Array Value)[i]? := fun i => cell_of_row _ _ i _ _ _ HB9.out
  have hon : w.grownBy (set9 w9 w.heap.size (.int .u8 (k.kd : Int)) (.int .i64 k.ag) (.int .u64 (k.ep : Int)) (.int .u64 (k.ic : Int)) (.int .u64 (k.ba : Int)) (.int .u64 (k.cu : Int)) (.int .u64 (k.li : Int)) (.slice k.Ar k.nr k.cr) (.slice k.Ai k.ni k.ci)) (some g) := ⟨(set9_only w9 w.heap.size (.int .u8 (k.kd : Int)) (.int .i64 k.ag) (.int .u64 (k.ep : Int)) (.int .u64 (k.ic : Int)) (.int .u64 (k.ba : Int)) (.int .u64 (k.cu : Int)) (.int .u64 (k.li : Int)) (.slice k.Ar k.nr k.cr) (.slice k.Ai k.ni k.ci)).os.trans (HGR.out.os.trans HBX.out.os), (set9_only w9 w.heap.size (.int .u8 (k.kd : Int)) (.int .i64 k.ag) (.int .u64 (k.ep : Int)) (.int .u64 (k.ic : Int)) (.int .u64 (k.ba : Int)) (.int .u64 (k.cu : Int)) (.int .u64 (k.li : Int)) (.slice k.Ar k.nr k.cr) (.slice k.Ai k.ni k.ci)).tape.trans (HGR.out.tape.trans HBX.out.tape), (set9_only w9 w.heap.size (.int .u8 (k.kd : Int)) (.int .i64 k.ag) (.int .u64 (k.ep : Int)) (.int .u64 (k.ic : Int)) (.int .u64 (k.ba : Int)) (.int .u64 (k.cu : Int)) (.int .u64 (k.li : Int)) (.slice k.Ar k.nr k.cr) (.slice k.Ai k.ni k.ci)).output.trans (HGR.out.output.trans HBX.out.output), Nat.le_trans HBX.out.size (Nat.le_trans HGR.out.size (set9_only w9 w.heap.size (.int .u8 (k.kd : Int)) (.int .i64 k.ag) (.int .u64 (k.ep : Int)) (.int .u64 (k.ic : Int)) (.int .u64 (k.ba : Int)) (.int .u64 (k.cu : Int)) (.int .u64 (k.li : Int)) (.slice k.Ar k.nr k.cr) (.slice k.Ai k.ni k.ci)).size), fun i hi hne => ((set9_only w9 w.heap.size (.int .u8 (k.kd : Int)) (.int .i64 k.ag) (.int .u64 (k.ep : Int)) (.int .u64 (k.ic : Int)) (.int .u64 (k.ba : Int)) (.int .u64 (k.cu : Int)) (.int .u64 (k.li : Int)) (.slice k.Ar k.nr k.cr) (.slice k.Ai k.ni k.ci)).block i (by have := HGR.out.size; have := HSZ.out; omega) (fun e => by injection e; omega)).trans ((HGR.out.block i (by have := HSZ.out; omega) hne).trans (HBX.out.block i hi))⟩
  change bodyPost _ _ _ _ _ (set9 w9 w.heap.size (.int .u8 (k.kd : Int)) (.int .i64 k.ag) (.int .u64 (k.ep : Int)) (.int .u64 (k.ic : Int)) (.int .u64 (k.ba : Int)) (.int .u64 (k.cu : Int)) (.int .u64 (k.li : Int)) (.slice k.Ar k.nr k.cr) (.slice k.Ai k.ni k.ci))
  generalize (set9 w9 w.heap.size (.int .u8 (k.kd : Int)) (.int .i64 k.ag) (.int .u64 (k.ep : Int)) (.int .u64 (k.ic : Int)) (.int .u64 (k.ba : Int)) (.int .u64 (k.cu : Int)) (.int .u64 (k.li : Int)) (.slice k.Ar k.nr k.cr) (.slice k.Ai k.ni k.ci)) = wz at *
  refine bodyPost_ret (v := .agg #[Value.int .u8 (k.kd : Int), .int .i64 k.ag, .int .u64 (k.ep : Int), .int .u64 (k.ic : Int), .int .u64 (k.ba : Int), .int .u64 (k.cu : Int), .int .u64 (k.li : Int), .slice k.Ar k.nr k.cr, .slice k.Ai k.ni k.ci]) (by simp [results, Tryd.results39, go_sem, hr]) rfl ?_
  exact ⟨k, rfl, HK.out, HD9.out.1, HD9.out.2, hon⟩


set_option maxRecDepth 100000 in
set_option maxHeartbeats 2000000 in
theorem get3_any {w : World} {g : Nat} {A : Option Addr} {n c : Nat} {l l1 : List UInt8} {e1 : Nat} (h : InAt w g A n c 0 l) (h1 : stByte l 0 = (3, l1, e1)) :
    Calls Tryd.prog 39 #[.pointer (some ⟨g, 0, none⟩)] w (GotF w g (getM l)) := by
  have hglt := h.lt
  have hinR := h.below (below_box w (.cells #[.int .u8 0, .int .i64 0, .int .u64 0, .int .u64 0, .int .u64 0, .int .u64 0, .int .u64 0, .slice none 0 0, .slice none 0 0] 26)) hglt
  have c1 := inByte_any hinR
  rw [h1] at c1
  have HC1 : Hid (Calls Tryd.prog 67 #[.pointer (some ⟨g, 0, none⟩)] (w.alloc (.cells #[.int .u8 0, .int .i64 0, .int .u64 0, .int .u64 0, .int .u64 0, .int .u64 0, .int .u64 0, .slice none 0 0, .slice none 0 0] 26)) (Told (w.alloc (.cells #[.int .u8 0, .int .i64 0, .int .u64 0, .int .u64 0, .int .u64 0, .int .u64 0, .int .u64 0, .slice none 0 0, .slice none 0 0] 26)) g (.int .u8 3) l1 e1)) := c1
  have hab := stMost_le l1 e1 15
  obtain ⟨⟨a, l2, e2⟩, H2⟩ : ∃ x, Hid (stMost l1 e1 15 = x) := ⟨_, rfl⟩
  rw [H2.out] at hab
  have HAB := Lib.hid hab
  have HPB := Lib.hid (stNum_lt l2 e2)
  obtain ⟨⟨p, l3, e3⟩, H3⟩ : ∃ x, Hid (stNum l2 e2 = x) := ⟨_, rfl⟩
  rw [H3.out] at HPB
  have HX : Hid (getM l = getB (headF 3 (a : Int) p).m l3 e3) := by
    show _ = _
    simp only [getM, h1, H2.out, H3.out]
    rfl
  rw [HX.out]
  obtain ⟨x, HXX⟩ : ∃ x, Hid (x = getB (headF 3 (a : Int) p).m l3 e3) := ⟨_, rfl⟩
  rw [← HXX.out]
  have HR := Lib.hid (heap_alloc_new w (.cells #[.int .u8 0, .int .i64 0, .int .u64 0, .int .u64 0, .int .u64 0, .int .u64 0, .int .u64 0, .slice none 0 0, .slice none 0 0] 26))
  have hszR : (w.alloc (.cells #[.int .u8 0, .int .i64 0, .int .u64 0, .int .u64 0, .int .u64 0, .int .u64 0, .int .u64 0, .slice none 0 0, .slice none 0 0] 26)).heap.size = w.heap.size + 1 := by simp
  have HSZ := Lib.hid hszR
  have HBX := Lib.hid (below_box w (.cells #[.int .u8 0, .int .i64 0, .int .u64 0, .int .u64 0, .int .u64 0, .int .u64 0, .int .u64 0, .slice none 0 0, .slice none 0 0] 26))
  have HGL := Lib.hid hglt
  clear h hinR c1 h1 hab HX hszR hglt
  go_enter Tryd.func39, Tryd.ntmps39
  go_wp2_with fail
  generalize (w.alloc (.cells #[.int .u8 0, .int .i64 0, .int .u64 0, .int .u64 0, .int .u64 0, .int .u64 0, .int .u64 0, .slice none 0 0, .slice none 0 0] 26)) = wR at *
  refine HC1.out.mono ?_
  rintro e w2 ⟨A2, n2, c2, rfl, hin2, hgr2⟩
  have HG2 := Lib.hid (gt_start (kd := 3) hin2 hgr2 (by have := HSZ.out; have := HGL.out; omega) (by omega))
  have HF2 := Lib.hid hgr2.size
  clear hin2 hgr2 HC1
  go_wp2_with fail
  change Calls _ _ _ (w2.alloc (headF 3 0 0).box) _
  generalize (w2.alloc (headF 3 0 0).box) = wF at *
  refine (parts3 wF).mono ?_
  rintro e w3 ⟨rfl, hb3⟩
  have HG3 := Lib.hid (HG2.out.on hb3)
  have HG4 := Lib.hid (HG3.out.onA (.cells #[.string ⟨#[98, 97, 116, 99, 104]⟩, .func (Fn.func 56) #[] #[], .func (Fn.func 57) #[] #[], .func (Fn.func 58) #[] #[]] 66))
  have HP4 := Lib.hid (heap_alloc_new w3 (.cells #[.string ⟨#[98, 97, 116, 99, 104]⟩, .func (Fn.func 56) #[] #[], .func (Fn.func 57) #[] #[], .func (Fn.func 58) #[] #[]] 66))
  have HP3 : Hid (w2.heap.size < w3.heap.size) := HG3.out.fl
  clear hb3 HG2 HG3
  go_wp2_with fail
  generalize (w3.alloc (.cells #[.string ⟨#[98, 97, 116, 99, 104]⟩, .func (Fn.func 56) #[] #[], .func (Fn.func 57) #[] #[], .func (Fn.func 58) #[] #[]] 66)) = wP at *
  obtain ⟨A4, n4, c4, hin4⟩ := HG4.out.inn
  have HC4 := Lib.hid (atMost_any hin4 15 (by omega))
  rw [H2.out] at HC4
  refine HC4.out.mono ?_
  rintro e w5 ⟨A5, n5, c5, rfl, hin5, hgr5⟩
  have HG5 := Lib.hid (HG4.out.next hin5 hgr5)
  have hgF : g < w2.heap.size := by have := HG4.out.lt; have := HF2.out; omega
  have HP5 := Lib.hid (box_kept HP4.out hgr5 (by have := HP3.out; omega))
  have q1 : w5.cell? ⟨w2.heap.size, 1, none⟩ = some (.int .i64 0) := HG5.out.cellAt 1
  have f1 := HG5.out.frz 1
  have HG6 := Lib.hid (HG5.out.set_ag a (by have := HAB.out; omega))
  have HP6 := Lib.hid ((heap_setCell_other w5 ⟨w2.heap.size, 1, none⟩ w3.heap.size (.int .i64 (a : Int)) (by show w3.heap.size ≠ w2.heap.size; have := HP3.out; omega)).trans HP5.out)
  clear hin4 HC4 hin5 hgr5 HG4 HP4 HG5 HP5
  go_wp2_with fail
  generalize (w5.setCell ⟨w2.heap.size, 1, none⟩ (.int .i64 (a : Int))) = x5 at *
  obtain ⟨A6, n6, c6, hin6⟩ := HG6.out.inn
  have HC6 := Lib.hid (inNum_any hin6)
  rw [H3.out] at HC6
  refine HC6.out.mono ?_
  rintro e w7 ⟨A7, n7, c7, rfl, hin7, hgr7⟩
  have HG7 := Lib.hid (HG6.out.next hin7 hgr7)
  have HP7 := Lib.hid (box_kept HP6.out hgr7 (by have := HP3.out; omega))
  have q2 : w7.cell? ⟨w2.heap.size, 2, none⟩ = some (.int .u64 0) := HG7.out.cellAt 2
  have f2 := HG7.out.frz 2
  have HG8 : Hid (Gt wR (w7.setCell ⟨w2.heap.size, 2, none⟩ (.int .u64 (p : Int))) g w2.heap.size (headF 3 (a : Int) p) l3 e3) := HG7.out.set_ep p HPB.out
  have hP8 := (heap_setCell_other w7 ⟨w2.heap.size, 2, none⟩ w3.heap.size (.int .u64 (p : Int)) (by show w3.heap.size ≠ w2.heap.size; have := HP3.out; omega)).trans HP7.out
  have p3 : (w7.setCell ⟨w2.heap.size, 2, none⟩ (.int .u64 (p : Int))).cell? ⟨w3.heap.size, 3, none⟩ = some (.func (Fn.func 58) #[] #[]) := by rw [cell_of_row _ _ 3 _ _ _ hP8]; rfl
  clear hin6 HC6 hin7 hgr7 HG6 HP6 HG7 HP7 q1 f1 hP8
  go_wp2_with fail
  generalize (w7.setCell ⟨w2.heap.size, 2, none⟩ (.int .u64 (p : Int))) = x7 at *
  have hc8 := getBatch_any HG8.out
  rw [← HXX.out] at hc8
  refine hc8.mono ?_
  rintro e w9 ⟨rfl, k, hk, hG9⟩
  obtain ⟨x1, x2, x3⟩ := x
  dsimp only at hk hG9
  have HK := Lib.hid hk
  have HG9 := Lib.hid hG9
  have hR9 := box_kept HR.out hG9.gr (by have := HGL.out; omega)
  have hRF : w.heap.size < w2.heap.size := by have := HSZ.out; have := HF2.out; omega
  obtain ⟨q0, q1, q2', q3, q4, q5, q6, q7, q8⟩ : w9.cell? ⟨w2.heap.size, 0, none⟩ = some (.int .u8 (k.kd : Int)) ∧ w9.cell? ⟨w2.heap.size, 1, none⟩ = some (.int .i64 k.ag) ∧ w9.cell? ⟨w2.heap.size, 2, none⟩ = some (.int .u64 (k.ep : Int)) ∧ w9.cell? ⟨w2.heap.size, 3, none⟩ = some (.int .u64 (k.ic : Int)) ∧ w9.cell? ⟨w2.heap.size, 4, none⟩ = some (.int .u64 (k.ba : Int)) ∧ w9.cell? ⟨w2.heap.size, 5, none⟩ = some (.int .u64 (k.cu : Int)) ∧ w9.cell? ⟨w2.heap.size, 6, none⟩ = some (.int .u64 (k.li : Int)) ∧ w9.cell? ⟨w2.heap.size, 7, none⟩ = some (.slice k.Ar k.nr k.cr) ∧ w9.cell? ⟨w2.heap.size, 8, none⟩ = some (.slice k.Ai k.ni k.ci) := ⟨hG9.cellAt 0, hG9.cellAt 1, hG9.cellAt 2, hG9.cellAt 3, hG9.cellAt 4, hG9.cellAt 5, hG9.cellAt 6, hG9.cellAt 7, hG9.cellAt 8⟩
  have r : ∀ i, w9.cell? ⟨w.heap.size, i, none⟩ = (#[Value.int .u8 0, .int .i64 0, .int .u64 0, .int .u64 0, .int .u64 0, .int .u64 0, .int .u64 0, .slice none 0 0, .slice none 0 0] : Array Value)[i]? := fun i => cell_of_row w9 _ i _ _ _ hR9
  obtain ⟨r0, r1, r2, r3, r4, r5, r6, r7, r8⟩ : w9.cell? ⟨w.heap.size, 0, none⟩ = some (.int .u8 0) ∧ w9.cell? ⟨w.heap.size, 1, none⟩ = some (.int .i64 0) ∧ w9.cell? ⟨w.heap.size, 2, none⟩ = some (.int .u64 0) ∧ w9.cell? ⟨w.heap.size, 3, none⟩ = some (.int .u64 0) ∧ w9.cell? ⟨w.heap.size, 4, none⟩ = some (.int .u64 0) ∧ w9.cell? ⟨w.heap.size, 5, none⟩ = some (.int .u64 0) ∧ w9.cell? ⟨w.heap.size, 6, none⟩ = some (.int .u64 0) ∧ w9.cell? ⟨w.heap.size, 7, none⟩ = some (.slice none 0 0) ∧ w9.cell? ⟨w.heap.size, 8, none⟩ = some (.slice none 0 0) := ⟨r 0, r 1, r 2, r 3, r 4, r 5, r 6, r 7, r 8⟩
  obtain ⟨f0, f1, f2', f3, f4, f5, f6, f7, f8⟩ : w9.frozen? ⟨w.heap.size, 0, none⟩ = false ∧ w9.frozen? ⟨w.heap.size, 1, none⟩ = false ∧ w9.frozen? ⟨w.heap.size, 2, none⟩ = false ∧ w9.frozen? ⟨w.heap.size, 3, none⟩ = false ∧ w9.frozen? ⟨w.heap.size, 4, none⟩ = false ∧ w9.frozen? ⟨w.heap.size, 5, none⟩ = false ∧ w9.frozen? ⟨w.heap.size, 6, none⟩ = false ∧ w9.frozen? ⟨w.heap.size, 7, none⟩ = false ∧ w9.frozen? ⟨w.heap.size, 8, none⟩ = false := ⟨frz_block (i := 0) hR9, frz_block (i := 1) hR9, frz_block (i := 2) hR9, frz_block (i := 3) hR9, frz_block (i := 4) hR9, frz_block (i := 5) hR9, frz_block (i := 6) hR9, frz_block (i := 7) hR9, frz_block (i := 8) hR9⟩
  have HB9 := Lib.hid (set9_heap (.int .u8 (k.kd : Int)) (.int .i64 k.ag) (.int .u64 (k.ep : Int)) (.int .u64 (k.ic : Int)) (.int .u64 (k.ba : Int)) (.int .u64 (k.cu : Int)) (.int .u64 (k.li : Int)) (.slice k.Ar k.nr k.cr) (.slice k.Ai k.ni k.ci) hR9)
  have HD9 := Lib.hid (hG9.done (B := w.heap.size) HGL.out hRF (by omega) (.int .u8 (k.kd : Int)) (.int .i64 k.ag) (.int .u64 (k.ep : Int)) (.int .u64 (k.ic : Int)) (.int .u64 (k.ba : Int)) (.int .u64 (k.cu : Int)) (.int .u64 (k.li : Int)) (.slice k.Ar k.nr k.cr) (.slice k.Ai k.ni k.ci))
  have HGR := Lib.hid (only_trans hG9.gr (only_trans (only_refl w9 (some g)) (only_refl w9 (some g))))
  clear hc8 hG9 hk r hR9 HR q2 f2 p3
  go_wp2
  have hr : ∀ i, (set9 w9 w.heap.size (.int .u8 (k.kd : Int)) (.int .i64 k.ag) (.int .u64 (k.ep : Int)) (.int .u64 (k.ic : Int)) (.int .u64 (k.ba : Int)) (.int .u64 (k.cu : Int)) (.int .u64 (k.li : Int)) (.slice k.Ar k.nr k.cr) (.slice k.Ai k.ni k.ci)).cell? ⟨w.heap.size, i, none⟩ = (#[Value.int .u8 (k.kd : Int), .int .i64 k.ag, .int .u64 (k.ep : Int), .int .u64 (k.ic : Int), .int .u64 (k.ba : Int), .int .u64 (k.cu : Int), .int .u64 (k.li : Int), .slice k.Ar k.nr k.cr, .slice k.Ai k.ni k.ci] : Array Value)[i]? := fun i => cell_of_row _ _ i _ _ _ HB9.out
  have hon : w.grownBy (set9 w9 w.heap.size (.int .u8 (k.kd : Int)) (.int .i64 k.ag) (.int .u64 (k.ep : Int)) (.int .u64 (k.ic : Int)) (.int .u64 (k.ba : Int)) (.int .u64 (k.cu : Int)) (.int .u64 (k.li : Int)) (.slice k.Ar k.nr k.cr) (.slice k.Ai k.ni k.ci)) (some g) := ⟨(set9_only w9 w.heap.size (.int .u8 (k.kd : Int)) (.int .i64 k.ag) (.int .u64 (k.ep : Int)) (.int .u64 (k.ic : Int)) (.int .u64 (k.ba : Int)) (.int .u64 (k.cu : Int)) (.int .u64 (k.li : Int)) (.slice k.Ar k.nr k.cr) (.slice k.Ai k.ni k.ci)).os.trans (HGR.out.os.trans HBX.out.os), (set9_only w9 w.heap.size (.int .u8 (k.kd : Int)) (.int .i64 k.ag) (.int .u64 (k.ep : Int)) (.int .u64 (k.ic : Int)) (.int .u64 (k.ba : Int)) (.int .u64 (k.cu : Int)) (.int .u64 (k.li : Int)) (.slice k.Ar k.nr k.cr) (.slice k.Ai k.ni k.ci)).tape.trans (HGR.out.tape.trans HBX.out.tape), (set9_only w9 w.heap.size (.int .u8 (k.kd : Int)) (.int .i64 k.ag) (.int .u64 (k.ep : Int)) (.int .u64 (k.ic : Int)) (.int .u64 (k.ba : Int)) (.int .u64 (k.cu : Int)) (.int .u64 (k.li : Int)) (.slice k.Ar k.nr k.cr) (.slice k.Ai k.ni k.ci)).output.trans (HGR.out.output.trans HBX.out.output), Nat.le_trans HBX.out.size (Nat.le_trans HGR.out.size (set9_only w9 w.heap.size (.int .u8 (k.kd : Int)) (.int .i64 k.ag) (.int .u64 (k.ep : Int)) (.int .u64 (k.ic : Int)) (.int .u64 (k.ba : Int)) (.int .u64 (k.cu : Int)) (.int .u64 (k.li : Int)) (.slice k.Ar k.nr k.cr) (.slice k.Ai k.ni k.ci)).size), fun i hi hne => ((set9_only w9 w.heap.size (.int .u8 (k.kd : Int)) (.int .i64 k.ag) (.int .u64 (k.ep : Int)) (.int .u64 (k.ic : Int)) (.int .u64 (k.ba : Int)) (.int .u64 (k.cu : Int)) (.int .u64 (k.li : Int)) (.slice k.Ar k.nr k.cr) (.slice k.Ai k.ni k.ci)).block i (by have := HGR.out.size; have := HSZ.out; omega) (fun e => by injection e; omega)).trans ((HGR.out.block i (by have := HSZ.out; omega) hne).trans (HBX.out.block i hi))⟩
  change bodyPost _ _ _ _ _ (set9 w9 w.heap.size (.int .u8 (k.kd : Int)) (.int .i64 k.ag) (.int .u64 (k.ep : Int)) (.int .u64 (k.ic : Int)) (.int .u64 (k.ba : Int)) (.int .u64 (k.cu : Int)) (.int .u64 (k.li : Int)) (.slice k.Ar k.nr k.cr) (.slice k.Ai k.ni k.ci))
  generalize (set9 w9 w.heap.size (.int .u8 (k.kd : Int)) (.int .i64 k.ag) (.int .u64 (k.ep : Int)) (.int .u64 (k.ic : Int)) (.int .u64 (k.ba : Int)) (.int .u64 (k.cu : Int)) (.int .u64 (k.li : Int)) (.slice k.Ar k.nr k.cr) (.slice k.Ai k.ni k.ci)) = wz at *
  refine bodyPost_ret (v := .agg #[Value.int .u8 (k.kd : Int), .int .i64 k.ag, .int .u64 (k.ep : Int), .int .u64 (k.ic : Int), .int .u64 (k.ba : Int), .int .u64 (k.cu : Int), .int .u64 (k.li : Int), .slice k.Ar k.nr k.cr, .slice k.Ai k.ni k.ci]) (by simp [results, Tryd.results39, go_sem, hr]) rfl ?_
  exact ⟨k, rfl, HK.out, HD9.out.1, HD9.out.2, hon⟩


set_option maxRecDepth 100000 in
set_option maxHeartbeats 2000000 in
theorem get4_any {w : World} {g : Nat} {A : Option Addr} {n c : Nat} {l l1 : List UInt8} {e1 : Nat} (h : InAt w g A n c 0 l) (h1 : stByte l 0 = (4, l1, e1)) :
    Calls Tryd.prog 39 #[.pointer (some ⟨g, 0, none⟩)] w (GotF w g (getM l)) := by
  have hglt := h.lt
  have hinR := h.below (below_box w (.cells #[.int .u8 0, .int .i64 0, .int .u64 0, .int .u64 0, .int .u64 0, .int .u64 0, .int .u64 0, .slice none 0 0, .slice none 0 0] 26)) hglt
  have c1 := inByte_any hinR
  rw [h1] at c1
  have HC1 : Hid (Calls Tryd.prog 67 #[.pointer (some ⟨g, 0, none⟩)] (w.alloc (.cells #[.int .u8 0, .int .i64 0, .int .u64 0, .int .u64 0, .int .u64 0, .int .u64 0, .int .u64 0, .slice none 0 0, .slice none 0 0] 26)) (Told (w.alloc (.cells #[.int .u8 0, .int .i64 0, .int .u64 0, .int .u64 0, .int .u64 0, .int .u64 0, .int .u64 0, .slice none 0 0, .slice none 0 0] 26)) g (.int .u8 4) l1 e1)) := c1
  have hab := stMost_le l1 e1 15
  obtain ⟨⟨a, l2, e2⟩, H2⟩ : ∃ x, Hid (stMost l1 e1 15 = x) := ⟨_, rfl⟩
  rw [H2.out] at hab
  have HAB := Lib.hid hab
  have HPB := Lib.hid (stNum_lt l2 e2)
  obtain ⟨⟨p, l3, e3⟩, H3⟩ : ∃ x, Hid (stNum l2 e2 = x) := ⟨_, rfl⟩
  rw [H3.out] at HPB
  have HX : Hid (getM l = getA (headF 4 (a : Int) p).m l3 e3) := by
    show _ = _
    simp only [getM, h1, H2.out, H3.out]
    rfl
  rw [HX.out]
  obtain ⟨x, HXX⟩ : ∃ x, Hid (x = getA (headF 4 (a : Int) p).m l3 e3) := ⟨_, rfl⟩
  rw [← HXX.out]
  have HR := Lib.hid (heap_alloc_new w (.cells #[.int .u8 0, .int .i64 0, .int .u64 0, .int .u64 0, .int .u64 0, .int .u64 0, .int .u64 0, .slice none 0 0, .slice none 0 0] 26))
  have hszR : (w.alloc (.cells #[.int .u8 0, .int .i64 0, .int .u64 0, .int .u64 0, .int .u64 0, .int .u64 0, .int .u64 0, .slice none 0 0, .slice none 0 0] 26)).heap.size = w.heap.size + 1 := by simp
  have HSZ := Lib.hid hszR
  have HBX := Lib.hid (below_box w (.cells #[.int .u8 0, .int .i64 0, .int .u64 0, .int .u64 0, .int .u64 0, .int .u64 0, .int .u64 0, .slice none 0 0, .slice none 0 0] 26))
  have HGL := Lib.hid hglt
  clear h hinR c1 h1 hab HX hszR hglt
  go_enter Tryd.func39, Tryd.ntmps39
  go_wp2_with fail
  generalize (w.alloc (.cells #[.int .u8 0, .int .i64 0, .int .u64 0, .int .u64 0, .int .u64 0, .int .u64 0, .int .u64 0, .slice none 0 0, .slice none 0 0] 26)) = wR at *
  refine HC1.out.mono ?_
  rintro e w2 ⟨A2, n2, c2, rfl, hin2, hgr2⟩
  have HG2 := Lib.hid (gt_start (kd := 4) hin2 hgr2 (by have := HSZ.out; have := HGL.out; omega) (by omega))
  have HF2 := Lib.hid hgr2.size
  clear hin2 hgr2 HC1
  go_wp2_with fail
  change Calls _ _ _ (w2.alloc (headF 4 0 0).box) _
  generalize (w2.alloc (headF 4 0 0).box) = wF at *
  refine (parts4 wF).mono ?_
  rintro e w3 ⟨rfl, hb3⟩
  have HG3 := Lib.hid (HG2.out.on hb3)
  have HG4 := Lib.hid (HG3.out.onA (.cells #[.string ⟨#[97, 99, 107]⟩, .func (Fn.func 53) #[] #[], .func (Fn.func 54) #[] #[], .func (Fn.func 55) #[] #[]] 66))
  have HP4 := Lib.hid (heap_alloc_new w3 (.cells #[.string ⟨#[97, 99, 107]⟩, .func (Fn.func 53) #[] #[], .func (Fn.func 54) #[] #[], .func (Fn.func 55) #[] #[]] 66))
  have HP3 : Hid (w2.heap.size < w3.heap.size) := HG3.out.fl
  clear hb3 HG2 HG3
  go_wp2_with fail
  generalize (w3.alloc (.cells #[.string ⟨#[97, 99, 107]⟩, .func (Fn.func 53) #[] #[], .func (Fn.func 54) #[] #[], .func (Fn.func 55) #[] #[]] 66)) = wP at *
  obtain ⟨A4, n4, c4, hin4⟩ := HG4.out.inn
  have HC4 := Lib.hid (atMost_any hin4 15 (by omega))
  rw [H2.out] at HC4
  refine HC4.out.mono ?_
  rintro e w5 ⟨A5, n5, c5, rfl, hin5, hgr5⟩
  have HG5 := Lib.hid (HG4.out.next hin5 hgr5)
  have hgF : g < w2.heap.size := by have := HG4.out.lt; have := HF2.out; omega
  have HP5 := Lib.hid (box_kept HP4.out hgr5 (by have := HP3.out; omega))
  have q1 : w5.cell? ⟨w2.heap.size, 1, none⟩ = some (.int .i64 0) := HG5.out.cellAt 1
  have f1 := HG5.out.frz 1
  have HG6 := Lib.hid (HG5.out.set_ag a (by have := HAB.out; omega))
  have HP6 := Lib.hid ((heap_setCell_other w5 ⟨w2.heap.size, 1, none⟩ w3.heap.size (.int .i64 (a : Int)) (by show w3.heap.size ≠ w2.heap.size; have := HP3.out; omega)).trans HP5.out)
  clear hin4 HC4 hin5 hgr5 HG4 HP4 HG5 HP5
  go_wp2_with fail
  generalize (w5.setCell ⟨w2.heap.size, 1, none⟩ (.int .i64 (a : Int))) = x5 at *
  obtain ⟨A6, n6, c6, hin6⟩ := HG6.out.inn
  have HC6 := Lib.hid (inNum_any hin6)
  rw [H3.out] at HC6
  refine HC6.out.mono ?_
  rintro e w7 ⟨A7, n7, c7, rfl, hin7, hgr7⟩
  have HG7 := Lib.hid (HG6.out.next hin7 hgr7)
  have HP7 := Lib.hid (box_kept HP6.out hgr7 (by have := HP3.out; omega))
  have q2 : w7.cell? ⟨w2.heap.size, 2, none⟩ = some (.int .u64 0) := HG7.out.cellAt 2
  have f2 := HG7.out.frz 2
  have HG8 : Hid (Gt wR (w7.setCell ⟨w2.heap.size, 2, none⟩ (.int .u64 (p : Int))) g w2.heap.size (headF 4 (a : Int) p) l3 e3) := HG7.out.set_ep p HPB.out
  have hP8 := (heap_setCell_other w7 ⟨w2.heap.size, 2, none⟩ w3.heap.size (.int .u64 (p : Int)) (by show w3.heap.size ≠ w2.heap.size; have := HP3.out; omega)).trans HP7.out
  have p3 : (w7.setCell ⟨w2.heap.size, 2, none⟩ (.int .u64 (p : Int))).cell? ⟨w3.heap.size, 3, none⟩ = some (.func (Fn.func 55) #[] #[]) := by rw [cell_of_row _ _ 3 _ _ _ hP8]; rfl
  clear hin6 HC6 hin7 hgr7 HG6 HP6 HG7 HP7 q1 f1 hP8
  go_wp2_with fail
  generalize (w7.setCell ⟨w2.heap.size, 2, none⟩ (.int .u64 (p : Int))) = x7 at *
  have hc8 := getAnswer_any HG8.out
  rw [← HXX.out] at hc8
  refine hc8.mono ?_
  rintro e w9 ⟨rfl, k, hk, hG9⟩
  obtain ⟨x1, x2, x3⟩ := x
  dsimp only at hk hG9
  have HK := Lib.hid hk
  have HG9 := Lib.hid hG9
  have hR9 := box_kept HR.out hG9.gr (by have := HGL.out; omega)
  have hRF : w.heap.size < w2.heap.size := by have := HSZ.out; have := HF2.out; omega
  obtain ⟨q0, q1, q2', q3, q4, q5, q6, q7, q8⟩ : w9.cell? ⟨w2.heap.size, 0, none⟩ = some (.int .u8 (k.kd : Int)) ∧ w9.cell? ⟨w2.heap.size, 1, none⟩ = some (.int .i64 k.ag) ∧ w9.cell? ⟨w2.heap.size, 2, none⟩ = some (.int .u64 (k.ep : Int)) ∧ w9.cell? ⟨w2.heap.size, 3, none⟩ = some (.int .u64 (k.ic : Int)) ∧ w9.cell? ⟨w2.heap.size, 4, none⟩ = some (.int .u64 (k.ba : Int)) ∧ w9.cell? ⟨w2.heap.size, 5, none⟩ = some (.int .u64 (k.cu : Int)) ∧ w9.cell? ⟨w2.heap.size, 6, none⟩ = some (.int .u64 (k.li : Int)) ∧ w9.cell? ⟨w2.heap.size, 7, none⟩ = some (.slice k.Ar k.nr k.cr) ∧ w9.cell? ⟨w2.heap.size, 8, none⟩ = some (.slice k.Ai k.ni k.ci) := ⟨hG9.cellAt 0, hG9.cellAt 1, hG9.cellAt 2, hG9.cellAt 3, hG9.cellAt 4, hG9.cellAt 5, hG9.cellAt 6, hG9.cellAt 7, hG9.cellAt 8⟩
  have r : ∀ i, w9.cell? ⟨w.heap.size, i, none⟩ = (#[Value.int .u8 0, .int .i64 0, .int .u64 0, .int .u64 0, .int .u64 0, .int .u64 0, .int .u64 0, .slice none 0 0, .slice none 0 0] : Array Value)[i]? := fun i => cell_of_row w9 _ i _ _ _ hR9
  obtain ⟨r0, r1, r2, r3, r4, r5, r6, r7, r8⟩ : w9.cell? ⟨w.heap.size, 0, none⟩ = some (.int .u8 0) ∧ w9.cell? ⟨w.heap.size, 1, none⟩ = some (.int .i64 0) ∧ w9.cell? ⟨w.heap.size, 2, none⟩ = some (.int .u64 0) ∧ w9.cell? ⟨w.heap.size, 3, none⟩ = some (.int .u64 0) ∧ w9.cell? ⟨w.heap.size, 4, none⟩ = some (.int .u64 0) ∧ w9.cell? ⟨w.heap.size, 5, none⟩ = some (.int .u64 0) ∧ w9.cell? ⟨w.heap.size, 6, none⟩ = some (.int .u64 0) ∧ w9.cell? ⟨w.heap.size, 7, none⟩ = some (.slice none 0 0) ∧ w9.cell? ⟨w.heap.size, 8, none⟩ = some (.slice none 0 0) := ⟨r 0, r 1, r 2, r 3, r 4, r 5, r 6, r 7, r 8⟩
  obtain ⟨f0, f1, f2', f3, f4, f5, f6, f7, f8⟩ : w9.frozen? ⟨w.heap.size, 0, none⟩ = false ∧ w9.frozen? ⟨w.heap.size, 1, none⟩ = false ∧ w9.frozen? ⟨w.heap.size, 2, none⟩ = false ∧ w9.frozen? ⟨w.heap.size, 3, none⟩ = false ∧ w9.frozen? ⟨w.heap.size, 4, none⟩ = false ∧ w9.frozen? ⟨w.heap.size, 5, none⟩ = false ∧ w9.frozen? ⟨w.heap.size, 6, none⟩ = false ∧ w9.frozen? ⟨w.heap.size, 7, none⟩ = false ∧ w9.frozen? ⟨w.heap.size, 8, none⟩ = false := ⟨frz_block (i := 0) hR9, frz_block (i := 1) hR9, frz_block (i := 2) hR9, frz_block (i := 3) hR9, frz_block (i := 4) hR9, frz_block (i := 5) hR9, frz_block (i := 6) hR9, frz_block (i := 7) hR9, frz_block (i := 8) hR9⟩
  have HB9 := Lib.hid (set9_heap (.int .u8 (k.kd : Int)) (.int .i64 k.ag) (.int .u64 (k.ep : Int)) (.int .u64 (k.ic : Int)) (.int .u64 (k.ba : Int)) (.int .u64 (k.cu : Int)) (.int .u64 (k.li : Int)) (.slice k.Ar k.nr k.cr) (.slice k.Ai k.ni k.ci) hR9)
  have HD9 := Lib.hid (hG9.done (B := w.heap.size) HGL.out hRF (by omega) (.int .u8 (k.kd : Int)) (.int .i64 k.ag) (.int .u64 (k.ep : Int)) (.int .u64 (k.ic : Int)) (.int .u64 (k.ba : Int)) (.int .u64 (k.cu : Int)) (.int .u64 (k.li : Int)) (.slice k.Ar k.nr k.cr) (.slice k.Ai k.ni k.ci))
  have HGR := Lib.hid (only_trans hG9.gr (only_trans (only_refl w9 (some g)) (only_refl w9 (some g))))
  clear hc8 hG9 hk r hR9 HR q2 f2 p3
  go_wp2
  have hr : ∀ i, (set9 w9 w.heap.size (.int .u8 (k.kd : Int)) (.int .i64 k.ag) (.int .u64 (k.ep : Int)) (.int .u64 (k.ic : Int)) (.int .u64 (k.ba : Int)) (.int .u64 (k.cu : Int)) (.int .u64 (k.li : Int)) (.slice k.Ar k.nr k.cr) (.slice k.Ai k.ni k.ci)).cell? ⟨w.heap.size, i, none⟩ = (#[Value.int .u8 (k.kd : Int), .int .i64 k.ag, .int .u64 (k.ep : Int), .int .u64 (k.ic : Int), .int .u64 (k.ba : Int), .int .u64 (k.cu : Int), .int .u64 (k.li : Int), .slice k.Ar k.nr k.cr, .slice k.Ai k.ni k.ci] : Array Value)[i]? := fun i => cell_of_row _ _ i _ _ _ HB9.out
  have hon : w.grownBy (set9 w9 w.heap.size (.int .u8 (k.kd : Int)) (.int .i64 k.ag) (.int .u64 (k.ep : Int)) (.int .u64 (k.ic : Int)) (.int .u64 (k.ba : Int)) (.int .u64 (k.cu : Int)) (.int .u64 (k.li : Int)) (.slice k.Ar k.nr k.cr) (.slice k.Ai k.ni k.ci)) (some g) := ⟨(set9_only w9 w.heap.size (.int .u8 (k.kd : Int)) (.int .i64 k.ag) (.int .u64 (k.ep : Int)) (.int .u64 (k.ic : Int)) (.int .u64 (k.ba : Int)) (.int .u64 (k.cu : Int)) (.int .u64 (k.li : Int)) (.slice k.Ar k.nr k.cr) (.slice k.Ai k.ni k.ci)).os.trans (HGR.out.os.trans HBX.out.os), (set9_only w9 w.heap.size (.int .u8 (k.kd : Int)) (.int .i64 k.ag) (.int .u64 (k.ep : Int)) (.int .u64 (k.ic : Int)) (.int .u64 (k.ba : Int)) (.int .u64 (k.cu : Int)) (.int .u64 (k.li : Int)) (.slice k.Ar k.nr k.cr) (.slice k.Ai k.ni k.ci)).tape.trans (HGR.out.tape.trans HBX.out.tape), (set9_only w9 w.heap.size (.int .u8 (k.kd : Int)) (.int .i64 k.ag) (.int .u64 (k.ep : Int)) (.int .u64 (k.ic : Int)) (.int .u64 (k.ba : Int)) (.int .u64 (k.cu : Int)) (.int .u64 (k.li : Int)) (.slice k.Ar k.nr k.cr) (.slice k.Ai k.ni k.ci)).output.trans (HGR.out.output.trans HBX.out.output), Nat.le_trans HBX.out.size (Nat.le_trans HGR.out.size (set9_only w9 w.heap.size (.int .u8 (k.kd : Int)) (.int .i64 k.ag) (.int .u64 (k.ep : Int)) (.int .u64 (k.ic : Int)) (.int .u64 (k.ba : Int)) (.int .u64 (k.cu : Int)) (.int .u64 (k.li : Int)) (.slice k.Ar k.nr k.cr) (.slice k.Ai k.ni k.ci)).size), fun i hi hne => ((set9_only w9 w.heap.size (.int .u8 (k.kd : Int)) (.int .i64 k.ag) (.int .u64 (k.ep : Int)) (.int .u64 (k.ic : Int)) (.int .u64 (k.ba : Int)) (.int .u64 (k.cu : Int)) (.int .u64 (k.li : Int)) (.slice k.Ar k.nr k.cr) (.slice k.Ai k.ni k.ci)).block i (by have := HGR.out.size; have := HSZ.out; omega) (fun e => by injection e; omega)).trans ((HGR.out.block i (by have := HSZ.out; omega) hne).trans (HBX.out.block i hi))⟩
  change bodyPost _ _ _ _ _ (set9 w9 w.heap.size (.int .u8 (k.kd : Int)) (.int .i64 k.ag) (.int .u64 (k.ep : Int)) (.int .u64 (k.ic : Int)) (.int .u64 (k.ba : Int)) (.int .u64 (k.cu : Int)) (.int .u64 (k.li : Int)) (.slice k.Ar k.nr k.cr) (.slice k.Ai k.ni k.ci))
  generalize (set9 w9 w.heap.size (.int .u8 (k.kd : Int)) (.int .i64 k.ag) (.int .u64 (k.ep : Int)) (.int .u64 (k.ic : Int)) (.int .u64 (k.ba : Int)) (.int .u64 (k.cu : Int)) (.int .u64 (k.li : Int)) (.slice k.Ar k.nr k.cr) (.slice k.Ai k.ni k.ci)) = wz at *
  refine bodyPost_ret (v := .agg #[Value.int .u8 (k.kd : Int), .int .i64 k.ag, .int .u64 (k.ep : Int), .int .u64 (k.ic : Int), .int .u64 (k.ba : Int), .int .u64 (k.cu : Int), .int .u64 (k.li : Int), .slice k.Ar k.nr k.cr, .slice k.Ai k.ni k.ci]) (by simp [results, Tryd.results39, go_sem, hr]) rfl ?_
  exact ⟨k, rfl, HK.out, HD9.out.1, HD9.out.2, hon⟩


set_option maxRecDepth 100000 in
set_option maxHeartbeats 2000000 in
theorem get0_any {w : World} {g : Nat} {A : Option Addr} {n c : Nat} {l l1 : List UInt8} {e1 kd : Nat} (h : InAt w g A n c 0 l) (h1 : stByte l 0 = (kd, l1, e1)) (hkd : ¬ (kd = 1 ∨ kd = 2 ∨ kd = 3 ∨ kd = 4)) :
    Calls Tryd.prog 39 #[.pointer (some ⟨g, 0, none⟩)] w (GotF w g (getM l)) := by
  have hglt := h.lt
  have hk256 := stByte_lt h1
  have hinR := h.below (below_box w (.cells #[.int .u8 0, .int .i64 0, .int .u64 0, .int .u64 0, .int .u64 0, .int .u64 0, .int .u64 0, .slice none 0 0, .slice none 0 0] 26)) hglt
  have c1 := inByte_any hinR
  rw [h1] at c1
  have HC1 : Hid (Calls Tryd.prog 67 #[.pointer (some ⟨g, 0, none⟩)] (w.alloc (.cells #[.int .u8 0, .int .i64 0, .int .u64 0, .int .u64 0, .int .u64 0, .int .u64 0, .int .u64 0, .slice none 0 0, .slice none 0 0] 26)) (Told (w.alloc (.cells #[.int .u8 0, .int .i64 0, .int .u64 0, .int .u64 0, .int .u64 0, .int .u64 0, .int .u64 0, .slice none 0 0, .slice none 0 0] 26)) g (.int .u8 (kd : Int)) l1 e1)) := c1
  have HX : Hid (getM l = (zeroM, l1, failN e1 2)) := by
    show _ = _
    simp only [getM, h1]
    rw [if_neg (by omega)]
  rw [HX.out]
  have HKD := Lib.hid hkd
  have HR := Lib.hid (heap_alloc_new w (.cells #[.int .u8 0, .int .i64 0, .int .u64 0, .int .u64 0, .int .u64 0, .int .u64 0, .int .u64 0, .slice none 0 0, .slice none 0 0] 26))
  have hszR : (w.alloc (.cells #[.int .u8 0, .int .i64 0, .int .u64 0, .int .u64 0, .int .u64 0, .int .u64 0, .int .u64 0, .slice none 0 0, .slice none 0 0] 26)).heap.size = w.heap.size + 1 := by simp
  have HSZ := Lib.hid hszR
  have HBX := Lib.hid (below_box w (.cells #[.int .u8 0, .int .i64 0, .int .u64 0, .int .u64 0, .int .u64 0, .int .u64 0, .int .u64 0, .slice none 0 0, .slice none 0 0] 26))
  have HGL := Lib.hid hglt
  have HK := Lib.hid hk256
  clear h hinR c1 h1 HX hszR hglt hkd hk256
  go_enter Tryd.func39, Tryd.ntmps39
  go_wp2_with fail
  generalize (w.alloc (.cells #[.int .u8 0, .int .i64 0, .int .u64 0, .int .u64 0, .int .u64 0, .int .u64 0, .int .u64 0, .slice none 0 0, .slice none 0 0] 26)) = wR at *
  refine HC1.out.mono ?_
  rintro e w2 ⟨A2, n2, c2, rfl, hin2, hgr2⟩
  have HG2 := Lib.hid (gt_start (kd := kd) hin2 hgr2 (by have := HSZ.out; have := HGL.out; omega) HK.out)
  have HF2 := Lib.hid hgr2.size
  clear hin2 hgr2 HC1
  go_wp2_with fail
  change Calls _ _ _ (w2.alloc (headF kd 0 0).box) _
  generalize (w2.alloc (headF kd 0 0).box) = wF at *
  refine (parts_no wF kd HKD.out).mono ?_
  rintro e w3 ⟨rfl, hb3⟩
  have HG3 := Lib.hid (HG2.out.on hb3)
  have HG4 := Lib.hid (HG3.out.onA (.cells #[.string ⟨#[]⟩, .nilFunc, .nilFunc, .nilFunc] 66))
  clear hb3 HG2 HG3
  go_wp2_with fail
  generalize (w3.alloc (.cells #[.string ⟨#[]⟩, .nilFunc, .nilFunc, .nilFunc] 66)) = wP at *
  obtain ⟨A4, n4, c4, hin4⟩ := HG4.out.inn
  refine (fail_any hin4 2).mono ?_
  rintro e w9 ⟨A5, n5, c5, rfl, hin5, hgr5⟩
  have hG9 := HG4.out.next hin5 hgr5
  have hR9 := box_kept HR.out hG9.gr (by have := HGL.out; omega)
  have r : ∀ i, w9.cell? ⟨w.heap.size, i, none⟩ = (#[Value.int .u8 0, .int .i64 0, .int .u64 0, .int .u64 0, .int .u64 0, .int .u64 0, .int .u64 0, .slice none 0 0, .slice none 0 0] : Array Value)[i]? := fun i => cell_of_row w9 _ i _ _ _ hR9
  obtain ⟨r0, r1, r2, r3, r4, r5, r6, r7, r8⟩ : w9.cell? ⟨w.heap.size, 0, none⟩ = some (.int .u8 0) ∧ w9.cell? ⟨w.heap.size, 1, none⟩ = some (.int .i64 0) ∧ w9.cell? ⟨w.heap.size, 2, none⟩ = some (.int .u64 0) ∧ w9.cell? ⟨w.heap.size, 3, none⟩ = some (.int .u64 0) ∧ w9.cell? ⟨w.heap.size, 4, none⟩ = some (.int .u64 0) ∧ w9.cell? ⟨w.heap.size, 5, none⟩ = some (.int .u64 0) ∧ w9.cell? ⟨w.heap.size, 6, none⟩ = some (.int .u64 0) ∧ w9.cell? ⟨w.heap.size, 7, none⟩ = some (.slice none 0 0) ∧ w9.cell? ⟨w.heap.size, 8, none⟩ = some (.slice none 0 0) := ⟨r 0, r 1, r 2, r 3, r 4, r 5, r 6, r 7, r 8⟩
  obtain ⟨f0, f1, f2', f3, f4, f5, f6, f7, f8⟩ : w9.frozen? ⟨w.heap.size, 0, none⟩ = false ∧ w9.frozen? ⟨w.heap.size, 1, none⟩ = false ∧ w9.frozen? ⟨w.heap.size, 2, none⟩ = false ∧ w9.frozen? ⟨w.heap.size, 3, none⟩ = false ∧ w9.frozen? ⟨w.heap.size, 4, none⟩ = false ∧ w9.frozen? ⟨w.heap.size, 5, none⟩ = false ∧ w9.frozen? ⟨w.heap.size, 6, none⟩ = false ∧ w9.frozen? ⟨w.heap.size, 7, none⟩ = false ∧ w9.frozen? ⟨w.heap.size, 8, none⟩ = false := ⟨frz_block (i := 0) hR9, frz_block (i := 1) hR9, frz_block (i := 2) hR9, frz_block (i := 3) hR9, frz_block (i := 4) hR9, frz_block (i := 5) hR9, frz_block (i := 6) hR9, frz_block (i := 7) hR9, frz_block (i := 8) hR9⟩
  have HB9 := Lib.hid (set9_heap (.int .u8 0) (.int .i64 0) (.int .u64 0) (.int .u64 0) (.int .u64 0) (.int .u64 0) (.int .u64 0) (.slice none 0 0) (.slice none 0 0) hR9)
  have HI9 := Lib.hid (hin5.kept (set9_only w9 w.heap.size (.int .u8 0) (.int .i64 0) (.int .u64 0) (.int .u64 0) (.int .u64 0) (.int .u64 0) (.int .u64 0) (.slice none 0 0) (.slice none 0 0)) (fun k hk => by injection hk; have := HGL.out; omega))
  have HGR := Lib.hid hG9.gr
  clear hG9 r hR9 HR hin4 hin5 hgr5 HG4
  go_wp2
  have hr : ∀ i, (set9 w9 w.heap.size (.int .u8 0) (.int .i64 0) (.int .u64 0) (.int .u64 0) (.int .u64 0) (.int .u64 0) (.int .u64 0) (.slice none 0 0) (.slice none 0 0)).cell? ⟨w.heap.size, i, none⟩ = (#[Value.int .u8 0, .int .i64 0, .int .u64 0, .int .u64 0, .int .u64 0, .int .u64 0, .int .u64 0, .slice none 0 0, .slice none 0 0] : Array Value)[i]? := fun i => cell_of_row _ _ i _ _ _ HB9.out
  have hon : w.grownBy (set9 w9 w.heap.size (.int .u8 0) (.int .i64 0) (.int .u64 0) (.int .u64 0) (.int .u64 0) (.int .u64 0) (.int .u64 0) (.slice none 0 0) (.slice none 0 0)) (some g) := ⟨(set9_only w9 w.heap.size (.int .u8 0) (.int .i64 0) (.int .u64 0) (.int .u64 0) (.int .u64 0) (.int .u64 0) (.int .u64 0) (.slice none 0 0) (.slice none 0 0)).os.trans (HGR.out.os.trans HBX.out.os), (set9_only w9 w.heap.size (.int .u8 0) (.int .i64 0) (.int .u64 0) (.int .u64 0) (.int .u64 0) (.int .u64 0) (.int .u64 0) (.slice none 0 0) (.slice none 0 0)).tape.trans (HGR.out.tape.trans HBX.out.tape), (set9_only w9 w.heap.size (.int .u8 0) (.int .i64 0) (.int .u64 0) (.int .u64 0) (.int .u64 0) (.int .u64 0) (.int .u64 0) (.slice none 0 0) (.slice none 0 0)).output.trans (HGR.out.output.trans HBX.out.output), Nat.le_trans HBX.out.size (Nat.le_trans HGR.out.size (set9_only w9 w.heap.size (.int .u8 0) (.int .i64 0) (.int .u64 0) (.int .u64 0) (.int .u64 0) (.int .u64 0) (.int .u64 0) (.slice none 0 0) (.slice none 0 0)).size), fun i hi hne => ((set9_only w9 w.heap.size (.int .u8 0) (.int .i64 0) (.int .u64 0) (.int .u64 0) (.int .u64 0) (.int .u64 0) (.int .u64 0) (.slice none 0 0) (.slice none 0 0)).block i (by have := HGR.out.size; have := HSZ.out; omega) (fun e => by injection e; omega)).trans ((HGR.out.block i (by have := HSZ.out; omega) hne).trans (HBX.out.block i hi))⟩
  change bodyPost _ _ _ _ _ (set9 w9 w.heap.size (.int .u8 0) (.int .i64 0) (.int .u64 0) (.int .u64 0) (.int .u64 0) (.int .u64 0) (.int .u64 0) (.slice none 0 0) (.slice none 0 0))
  generalize (set9 w9 w.heap.size (.int .u8 0) (.int .i64 0) (.int .u64 0) (.int .u64 0) (.int .u64 0) (.int .u64 0) (.int .u64 0) (.slice none 0 0) (.slice none 0 0)) = wz at *
  refine bodyPost_ret (v := .agg #[Value.int .u8 0, .int .i64 0, .int .u64 0, .int .u64 0, .int .u64 0, .int .u64 0, .int .u64 0, .slice none 0 0, .slice none 0 0]) (by simp [results, Tryd.results39, go_sem, hr]) rfl ?_
  exact ⟨zeroF, rfl, rfl, Nw.zero _ _, ⟨_, _, _, HI9.out⟩, hon⟩

theorem getF_any {w : World} {g : Nat} {A : Option Addr} {n c : Nat} {l : List UInt8} (h : InAt w g A n c 0 l) :
    Calls Tryd.prog 39 #[.pointer (some ⟨g, 0, none⟩)] w (GotF w g (getM l)) := by
  obtain ⟨⟨kd, l1, e1⟩, h1⟩ : ∃ x, stByte l 0 = x := ⟨_, rfl⟩
  by_cases hkd : kd = 1 ∨ kd = 2 ∨ kd = 3 ∨ kd = 4
  · rcases hkd with rfl | rfl | rfl | rfl
    · exact get1_any h h1
    · exact get2_any h h1
    · exact get3_any h h1
    · exact get4_any h h1
  · exact get0_any h h1 hkd

end Go.Proofs.YtlkcnpmgafckoaaDoor
