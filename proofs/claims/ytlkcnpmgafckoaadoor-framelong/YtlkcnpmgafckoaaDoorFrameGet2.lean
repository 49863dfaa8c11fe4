/-
  CONTRACTS of layer 5: what a frame tells behind its epoch is read: getHello, getAnswer, getBatch.
  No statement is proved here.
-/
import Derived.Test.YtlkcnpmgafckoaaDoorFrameGet1
namespace Go.Proofs.YtlkcnpmgafckoaaDoor
open Go.RowKit

theorem Gt.set_ag {w0 w : World} {g F : Nat} {k : Fv} {l : List UInt8} {er : Nat} (h : Gt w0 w g F k l er) (v : Nat) (hv : v ≤ 64) : Gt w0 (w.setCell ⟨F, 1, none⟩ (.int .i64 (v : Int))) g F { k with ag := (v : Int) } l er :=
  h.set 1 _ _ (by have e := heap_setCell_same _ F 1 _ _ (.int .i64 (v : Int)) h.blk; simpa using e) ⟨rfl, rfl, rfl, rfl⟩ ⟨rfl, rfl, rfl, rfl⟩ h.kd ⟨by show _ ≤ (v : Int); omega, by show (v : Int) ≤ _; omega⟩ h.ep h.ic h.ba h.cu h.li
theorem Gt.set_ep {w0 w : World} {g F : Nat} {k : Fv} {l : List UInt8} {er : Nat} (h : Gt w0 w g F k l er) (v : Nat) (hv : v < two64) : Gt w0 (w.setCell ⟨F, 2, none⟩ (.int .u64 (v : Int))) g F { k with ep := v } l er :=
  h.set 2 _ _ (by have e := heap_setCell_same _ F 2 _ _ (.int .u64 (v : Int)) h.blk; simpa using e) ⟨rfl, rfl, rfl, rfl⟩ ⟨rfl, rfl, rfl, rfl⟩ h.kd h.ag hv h.ic h.ba h.cu h.li
theorem Gt.set_ic {w0 w : World} {g F : Nat} {k : Fv} {l : List UInt8} {er : Nat} (h : Gt w0 w g F k l er) (v : Nat) (hv : v < two64) : Gt w0 (w.setCell ⟨F, 3, none⟩ (.int .u64 (v : Int))) g F { k with ic := v } l er :=
  h.set 3 _ _ (by have e := heap_setCell_same _ F 3 _ _ (.int .u64 (v : Int)) h.blk; simpa using e) ⟨rfl, rfl, rfl, rfl⟩ ⟨rfl, rfl, rfl, rfl⟩ h.kd h.ag h.ep hv h.ba h.cu h.li
theorem Gt.set_ba {w0 w : World} {g F : Nat} {k : Fv} {l : List UInt8} {er : Nat} (h : Gt w0 w g F k l er) (v : Nat) (hv : v < two64) : Gt w0 (w.setCell ⟨F, 4, none⟩ (.int .u64 (v : Int))) g F { k with ba := v } l er :=
  h.set 4 _ _ (by have e := heap_setCell_same _ F 4 _ _ (.int .u64 (v : Int)) h.blk; simpa using e) ⟨rfl, rfl, rfl, rfl⟩ ⟨rfl, rfl, rfl, rfl⟩ h.kd h.ag h.ep h.ic hv h.cu h.li
theorem Gt.set_cu {w0 w : World} {g F : Nat} {k : Fv} {l : List UInt8} {er : Nat} (h : Gt w0 w g F k l er) (v : Nat) (hv : v < two64) : Gt w0 (w.setCell ⟨F, 5, none⟩ (.int .u64 (v : Int))) g F { k with cu := v } l er :=
  h.set 5 _ _ (by have e := heap_setCell_same _ F 5 _ _ (.int .u64 (v : Int)) h.blk; simpa using e) ⟨rfl, rfl, rfl, rfl⟩ ⟨rfl, rfl, rfl, rfl⟩ h.kd h.ag h.ep h.ic h.ba hv h.li
theorem Gt.set_li {w0 w : World} {g F : Nat} {k : Fv} {l : List UInt8} {er : Nat} (h : Gt w0 w g F k l er) (v : Nat) (hv : v < two64) : Gt w0 (w.setCell ⟨F, 6, none⟩ (.int .u64 (v : Int))) g F { k with li := v } l er :=
  h.set 6 _ _ (by have e := heap_setCell_same _ F 6 _ _ (.int .u64 (v : Int)) h.blk; simpa using e) ⟨rfl, rfl, rfl, rfl⟩ ⟨rfl, rfl, rfl, rfl⟩ h.kd h.ag h.ep h.ic h.ba h.cu hv
theorem Gt.cellAt {w0 w : World} {g F : Nat} {k : Fv} {l : List UInt8} {er : Nat} (h : Gt w0 w g F k l er) (i : Nat) : w.cell? ⟨F, i, none⟩ = (#[Value.int .u8 (k.kd : Int), .int .i64 k.ag, .int .u64 (k.ep : Int), .int .u64 (k.ic : Int), .int .u64 (k.ba : Int), .int .u64 (k.cu : Int), .int .u64 (k.li : Int), .slice k.Ar k.nr k.cr, .slice k.Ai k.ni k.ci] : Array Value)[i]? := cell_of_row w _ i _ _ _ h.blk
theorem Gt.frz {w0 w : World} {g F : Nat} {k : Fv} {l : List UInt8} {er : Nat} (h : Gt w0 w g F k l er) (i : Nat) : w.frozen? ⟨F, i, none⟩ = false := frz_block (i := i) h.blk
/-- What was read into the frame: nothing is handed back. -/
def Got (w0 : World) (g F : Nat) (x : Fm × List UInt8 × Nat) (e : Ending) (w' : World) : Prop := e = .returned (.tuple #[]) ∧ ∃ k : Fv, k.m = x.1 ∧ Gt w0 w' g F k x.2.1 x.2.2

set_option maxHeartbeats 400000 in
theorem getHello_any {w0 w : World} {g F : Nat} {k : Fv} {l : List UInt8} {er : Nat} (h : Gt w0 w g F k l er) :
    Calls Tryd.prog 52 #[.pointer (some ⟨F, 0, none⟩), .pointer (some ⟨g, 0, none⟩)] w (Got w0 g F (getH k.m l er)) := by
  obtain ⟨A, n, c, hin⟩ := h.inn
  have c1 := inNum_any hin
  have hvb := stNum_lt l er
  have HX : Hid (getH k.m l er = ({ k.m with ba := (stNum l er).1 }, (stNum l er).2.1, (stNum l er).2.2)) := rfl
  rw [HX.out]
  obtain ⟨⟨v, l1, e1⟩, hst⟩ : ∃ x, stNum l er = x := ⟨_, rfl⟩
  rw [hst] at c1 hvb ⊢
  have C1 := Lib.hid c1
  have HG := Lib.hid h
  have HV := Lib.hid hvb
  clear h hin c1 hst hvb HX
  go_enter Tryd.func52, Tryd.ntmps52
  go_wp2_with fail
  refine C1.out.mono ?_
  rintro e w2 ⟨A2, n2, c2, rfl, hin2, hgr2⟩
  have HG2 := Lib.hid (HG.out.next hin2 hgr2)
  have q4 : w2.cell? ⟨F, 4, none⟩ = some (.int .u64 (k.ba : Int)) := HG2.out.cellAt 4
  have f4 := HG2.out.frz 4
  clear hin2 hgr2 C1 HG
  go_wp2
  go_end0
  exact ⟨rfl, _, rfl, HG2.out.set_ba v HV.out⟩

theorem Gt.on {w0 w w' : World} {g F : Nat} {k : Fv} {l : List UInt8} {er : Nat} (h : Gt w0 w g F k l er) (hb : Below w.heap.size w w') : Gt w0 w' g F k l er := by
  obtain ⟨A, n, c, hin⟩ := h.inn
  exact h.next (hin.below hb hin.lt) (only_below hb (some g))
theorem Gt.drewN {w0 w : World} {g F : Nat} {k : Fv} {l : List UInt8} {er : Nat} (h : Gt w0 w g F k l er) (q : Nat) : Gt w0 (w.drewN q) g F k l er := h.on (below_drewN (Below.refl _ _) q)
theorem Gt.onA {w0 w : World} {g F : Nat} {k : Fv} {l : List UInt8} {er : Nat} (h : Gt w0 w g F k l er) (o : Obj) : Gt w0 (w.alloc o) g F k l er := h.on (below_box w o)
/-- A run comes behind the others. -/
theorem Gt.run {w0 w w4 : World} {g F : Nat} {k : Fv} {l : List UInt8} {er : Nat} {A4 : Option Addr} {c4 : Nat} {r : Rn} (h : Gt w0 w g F k l er) (hb : Below (F + 1) w w4) (ho : w4.ownsRow (F + 1) 77 2 (.slice A4 (k.nr + 1) c4) (k.nr + 1) (rvs k.L ++ rv r))
    (hr : r.1 < two64 ∧ r.2 < two64) (hks : k.Ai = none ∧ k.ni = 0 ∧ k.ci = 0 ∧ k.ks = []) : Gt w0 (w4.setCell ⟨F, 7, none⟩ (.slice A4 (k.nr + 1) c4)) g F { k with Ar := A4, nr := k.nr + 1, cr := c4, L := k.L ++ [r] } l er := by
  obtain ⟨A, n, c, hin⟩ := h.inn
  have hgF : g < F := by have := h.lt; have := h.le; omega
  have hblk := (hb.block F (by omega)).trans h.blk
  have hsz := hb.size
  refine ⟨⟨A, n, c, (hin.below hb (by omega)).kept (only_set w4 F 7 _) (fun k hk => by injection hk; omega)⟩, by have e := heap_setCell_same _ F 7 _ _ (.slice A4 (k.nr + 1) c4) hblk; simpa using e, h.lt, h.le, ?_, ?_, ?_, ?_, ?_, h.kd, h.ag, h.ep, h.ic, h.ba, h.cu, h.li⟩
  · have hle := h.le
    have hg : w0.grownBy w4 (some g) := ⟨hb.os.trans h.gr.os, hb.tape.trans h.gr.tape, hb.output.trans h.gr.output, Nat.le_trans hle (Nat.le_of_lt (Array.getElem?_eq_some_iff.1 hblk).1), fun i hi hne => (hb.block i (by omega)).trans (h.gr.block i hi hne)⟩
    exact only_new hg h.le rfl
  · show (w4.setCell ⟨F, 7, none⟩ (.slice A4 (k.nr + 1) c4)).ownsRow (F + 1) 77 2 (.slice A4 (k.nr + 1) c4) (k.nr + 1) (rvs (k.L ++ [r]))
    rw [rvs_app, rvs_one1]
    exact own_otherN _ ho (show F < F + 1 by omega)
  · show World.ownsRow _ (F + 1) 58 3 (.slice k.Ai k.ni k.ci) k.ni (itvs k.ks)
    rw [hks.1, hks.2.1, hks.2.2.1, hks.2.2.2]
    exact ⟨rfl, .inl ⟨rfl, rfl⟩⟩
  · show ∀ x ∈ k.ks, _
    rw [hks.2.2.2]
    exact fun x hx => absurd hx List.not_mem_nil
  · intro q hq
    rcases List.mem_append.1 hq with h1 | h1
    · exact h.L q h1
    · rw [List.mem_singleton.1 h1]; exact hr
/-- A frame of which only the head is told. -/
def headF (kd : Nat) (ag : Int) (ep : Nat) : Fv := ⟨kd, ag, ep, 0, 0, 0, 0, none, 0, 0, [], none, 0, 0, []⟩
def ansF (kd : Nat) (ag : Int) (ep i c t : Nat) (A : Option Addr) (n cp : Nat) (L : List Rn) : Fv := ⟨kd, ag, ep, i, 0, c, t, A, n, cp, L, none, 0, 0, []⟩
theorem run_info' : (Tryd.prog.info? 77).map (fun i => (i.zero, i.size, i.bytes)) = some (some (.agg #[.int .u64 0, .int .u64 0]), 2, 16) := by kernel_rfl
def GAnsRel (w0 : World) (g F kd : Nat) (ag : Int) (ep ic cu li : Nat) (l : List UInt8) (er N gk : Nat) (i : Value) (wr : World) : Prop :=
  ∃ (j : Nat) (A : Option Addr) (n cp : Nat), gk + j = N ∧ i = .int .i64 (j : Int) ∧ Gt w0 wr g F (ansF kd ag ep ic cu li A n cp (stRuns l er j).1) (stRuns l er j).2.1 (stRuns l er j).2.2
theorem stRuns_succ {l l1 l2 l3 : List UInt8} {er e1 e2 e3 j v1 v2 : Nat} {S : List Rn} (h1 : stRuns l er j = (S, l1, e1)) (h2 : stNum l1 e1 = (v1, l2, e2)) (h3 : stNum l2 e2 = (v2, l3, e3)) : stRuns l er (j + 1) = (S ++ [(v1, v2)], l3, e3) := by simp [stRuns, h1, h2, h3]

set_option maxRecDepth 100000 in
set_option maxHeartbeats 2000000 in
theorem getAnswer_any {w0 w : World} {g F kd : Nat} {ag : Int} {ep : Nat} {l : List UInt8} {er : Nat} (h : Gt w0 w g F (headF kd ag ep) l er) :
    Calls Tryd.prog 55 #[.pointer (some ⟨F, 0, none⟩), .pointer (some ⟨g, 0, none⟩)] w (Got w0 g F (getA (headF kd ag ep).m l er)) := by
  obtain ⟨A, n, c, hin⟩ := h.inn
  have HC1 := Lib.hid (inNum_any hin)
  have HV1 := Lib.hid (stNum_lt l er)
  obtain ⟨⟨v1, l1, e1⟩, H1⟩ : ∃ x, Hid (stNum l er = x) := ⟨_, rfl⟩
  rw [H1.out] at HC1 HV1
  have HV2 := Lib.hid (stNum_lt l1 e1)
  obtain ⟨⟨v2, l2, e2⟩, H2⟩ : ∃ x, Hid (stNum l1 e1 = x) := ⟨_, rfl⟩
  rw [H2.out] at HV2
  have HV3 := Lib.hid (stNum_lt l2 e2)
  obtain ⟨⟨v3, l3, e3⟩, H3⟩ : ∃ x, Hid (stNum l2 e2 = x) := ⟨_, rfl⟩
  rw [H3.out] at HV3
  have hN := stMost_le l3 e3 32
  obtain ⟨⟨N, l4, e4⟩, H4⟩ : ∃ x, Hid (stMost l3 e3 32 = x) := ⟨_, rfl⟩
  rw [H4.out] at hN
  dsimp only at hN
  have HX : Hid (getA (headF kd ag ep).m l er = (⟨kd, ag, ep, v1, 0, v2, v3, (stRuns l4 e4 N).1, []⟩, (stRuns l4 e4 N).2.1, (stRuns l4 e4 N).2.2)) := by
    show _ = _
    simp only [getA, H1.out, H2.out, H3.out, H4.out]
    rfl
  rw [HX.out]
  obtain ⟨i0, hi0, hz0, hz1, hz2⟩ := info_parts run_info'
  have HG := Lib.hid h
  clear h hin HX
  go_enter Tryd.func55, Tryd.ntmps55
  go_wp2_with fail
  refine HC1.out.mono ?_
  rintro e w1 ⟨A1, n1, c1, rfl, hin1, hgr1⟩
  have HG1 := Lib.hid (HG.out.next hin1 hgr1)
  have q3 : w1.cell? ⟨F, 3, none⟩ = some (.int .u64 (0 : Int)) := HG1.out.cellAt 3
  have f3 := HG1.out.frz 3
  have HGs := Lib.hid (HG1.out.set_ic v1 HV1.out)
  clear hin1 hgr1 HC1 HG HG1
  go_wp2_with fail
  generalize (w1.setCell ⟨F, 3, none⟩ (.int .u64 (v1 : Int))) = x1 at *
  obtain ⟨A, n, c, hin⟩ := HGs.out.inn
  have HC1 := Lib.hid (inNum_any hin)
  rw [H2.out] at HC1
  refine HC1.out.mono ?_
  rintro e w2 ⟨A2, n2, c2, rfl, hin1, hgr1⟩
  have HG1 := Lib.hid (HGs.out.next hin1 hgr1)
  have q5 : w2.cell? ⟨F, 5, none⟩ = some (.int .u64 (0 : Int)) := HG1.out.cellAt 5
  have f5 := HG1.out.frz 5
  have HGt := Lib.hid (HG1.out.set_cu v2 HV2.out)
  clear hin1 hgr1 HC1 HG1 HGs q3 f3 hin
  go_wp2_with fail
  generalize (w2.setCell ⟨F, 5, none⟩ (.int .u64 (v2 : Int))) = x2 at *
  obtain ⟨A, n, c, hin⟩ := HGt.out.inn
  have HC1 := Lib.hid (inNum_any hin)
  rw [H3.out] at HC1
  refine HC1.out.mono ?_
  rintro e w3 ⟨A3, n3, c3, rfl, hin1, hgr1⟩
  have HG1 := Lib.hid (HGt.out.next hin1 hgr1)
  have q6 : w3.cell? ⟨F, 6, none⟩ = some (.int .u64 (0 : Int)) := HG1.out.cellAt 6
  have f6 := HG1.out.frz 6
  have HGu := Lib.hid (HG1.out.set_li v3 HV3.out)
  clear hin1 hgr1 HC1 HG1 HGt q5 f5 hin
  go_wp2_with fail
  generalize (w3.setCell ⟨F, 6, none⟩ (.int .u64 (v3 : Int))) = x3 at *
  obtain ⟨A, n, c, hin⟩ := HGu.out.inn
  have HC1 := Lib.hid (atMost_any hin 32 (by omega))
  rw [H4.out] at HC1
  refine HC1.out.mono ?_
  rintro e w4 ⟨A4, n4, c4, rfl, hin1, hgr1⟩
  have HS : Hid (GAnsRel w0 g F kd ag ep v1 v2 v3 l4 e4 N N (.int .i64 0) w4) := ⟨0, none, 0, 0, rfl, rfl, HGu.out.next hin1 hgr1⟩
  clear hin1 hgr1 HC1 HGu q6 f6 hin H1 H2 H3 H4 HV1 HV2 HV3
  go_wp2_with fail
  go_loopg [22] N (fun gk i wr => GAnsRel w0 g F kd ag ep v1 v2 v3 l4 e4 N gk i wr)
  case atStart => exact HS.out
  case round =>
    obtain ⟨j, A, n, cp, hj, rfl, hG⟩ := hrel
    have HJ := Lib.hid hj
    have HNJ : Hid (n = j) := by
      have h1 := hG.rs.1
      have h2 := stRuns_len l4 e4 j
      rw [show (ansF kd ag ep v1 v2 v3 A n cp (stRuns l4 e4 j).1).L = (stRuns l4 e4 j).1 from rfl, show (ansF kd ag ep v1 v2 v3 A n cp (stRuns l4 e4 j).1).nr = n from rfl, rvs_len, h2] at h1
      show _ = _
      omega
    obtain ⟨⟨S, l5, e5⟩, H5⟩ : ∃ x, Hid (stRuns l4 e4 j = x) := ⟨_, rfl⟩
    rw [H5.out] at hG
    dsimp only at hG
    have HG := Lib.hid hG
    clear hj hG HS
    by_cases hlt : j < N
    · have hltI : (j : Int) < (N : Int) := by omega
      have hn33 : n ≤ 33 := by have := HNJ.out; omega
      obtain ⟨A5, n5, c5, hin⟩ := HG.out.inn
      have HC1 := Lib.hid (inNum_any hin)
      have HU1 := Lib.hid (stNum_lt l5 e5)
      obtain ⟨⟨u1, l6, e6⟩, H6⟩ : ∃ x, Hid (stNum l5 e5 = x) := ⟨_, rfl⟩
      rw [H6.out] at HC1 HU1
      have HU2 := Lib.hid (stNum_lt l6 e6)
      obtain ⟨⟨u2, l7, e7⟩, H7⟩ : ∃ x, Hid (stNum l6 e6 = x) := ⟨_, rfl⟩
      rw [H7.out] at HU2
      have HST := Lib.hid (stRuns_succ H5.out H6.out H7.out)
      clear hin
      go_wp2_with fail
      refine HC1.out.mono ?_
      rintro e w5 ⟨A6, n6, c6, rfl, hin1, hgr1⟩
      have HG5 := Lib.hid (HG.out.next hin1 hgr1)
      clear hin1 hgr1 HC1 HG
      go_wp2_with fail
      have hc7 : w5.drew.cell? ⟨F, 7, none⟩ = some (.slice A n cp) := HG5.out.cellAt 7
      have HGd : Hid (Gt w0 w5.drew g F (ansF kd ag ep v1 v2 v3 A n cp S) l6 e6) := HG5.out.drewN 1
      refine wp_region_noPanic ?_
      refine wp_region_F (S := (fun w' => w'.cell? ⟨F, 7, none⟩ = some (.slice A n cp))) (F := (fun j => j == 10 || j == 13)) (by kernel_rfl) hc7 (fun hHeld => ?_)
      refine wpAnyF_take0 (i := 0) (oi := { dst := some 26, op := Op.move (Operand.tmp 0), type := 103, pos := "frame.go:206", after := #[], guard := none }) (v := ?_) rfl (by kernel_rfl) (by kernel_rfl) (by kernel_rfl) (fun _ _ _ h => h) (Or.inl ⟨by rfl, ?_⟩) ?_
      rotate_left
      · intro w hSw; (try dsimp only at hSw); first | (go_simp; done) | (go_simp; with_reducible rfl)
      try simp only [Act.put, List.setIfInBounds_toArray, List.set_cons_zero, List.set_cons_succ]
      refine wpAnyF_take0 (i := 1) (oi := { dst := some 27, op := Op.move (Operand.tmp 0), type := 103, pos := "frame.go:206", after := #[], guard := none }) (v := ?_) rfl (by kernel_rfl) (by kernel_rfl) (by kernel_rfl) (fun _ _ _ h => h) (Or.inl ⟨by rfl, ?_⟩) ?_
      rotate_left
      · intro w hSw; (try dsimp only at hSw); first | (go_simp; done) | (go_simp; with_reducible rfl)
      try simp only [Act.put, List.setIfInBounds_toArray, List.set_cons_zero, List.set_cons_succ]
      refine wpAnyF_take0 (i := 2) (oi := { dst := some 28, op := Op.nilCheck (Operand.tmp 27), type := 0, pos := "frame.go:206", after := #[{ on := 1, ground := Ground.data }], guard := none }) (v := ?_) rfl (by kernel_rfl) (by kernel_rfl) (by kernel_rfl) (fun _ _ _ h => h) (Or.inl ⟨by rfl, ?_⟩) ?_
      rotate_left
      · intro w hSw; (try dsimp only at hSw); first | (go_simp; done) | (go_simp; with_reducible rfl)
      try simp only [Act.put, List.setIfInBounds_toArray, List.set_cons_zero, List.set_cons_succ]
      refine wpAnyF_take0 (i := 3) (oi := { dst := some 29, op := Op.fieldAddr 26 (Operand.tmp 28) 7, type := 0, pos := "frame.go:206", after := #[{ on := 2, ground := Ground.data }], guard := none }) (v := ?_) rfl (by kernel_rfl) (by kernel_rfl) (by kernel_rfl) (fun _ _ _ h => h) (Or.inl ⟨by rfl, ?_⟩) ?_
      rotate_left
      · intro w hSw; (try dsimp only at hSw); first | (go_simp; done) | (go_simp; with_reducible rfl)
      try simp only [Act.put, List.setIfInBounds_toArray, List.set_cons_zero, List.set_cons_succ]
      refine wpAnyF_take (i := 4) (oi := { dst := some 30, op := Op.load 23 (Operand.tmp 29), type := 23, pos := "frame.go:206", after := #[{ on := 3, ground := Ground.data }], guard := none }) (v := ?_) (fun j hj => by simp only [Bool.or_eq_true, beq_iff_eq] at hj; rcases hj with rfl | rfl <;> exact of_decide_eq_true (by kernel_rfl)) rfl (by kernel_rfl) (by kernel_rfl) (by kernel_rfl) (by kernel_rfl) (by kernel_rfl) (fun _ _ _ h => h) (Or.inl ⟨by rfl, ?_⟩) (by assumption) ?_
      rotate_left
      · intro w hSw; (try dsimp only at hSw); first | (go_simp; done) | (go_simp; with_reducible rfl)
      try simp only [Act.put, List.setIfInBounds_toArray, List.set_cons_zero, List.set_cons_succ]
      refine wpAnyF_take0 (i := 5) (oi := { dst := some 31, op := Op.move (Operand.tmp 4), type := 22, pos := "frame.go:206", after := #[], guard := none }) (v := ?_) rfl (by kernel_rfl) (by kernel_rfl) (by kernel_rfl) (fun _ _ _ h => h) (Or.inl ⟨by rfl, ?_⟩) ?_
      rotate_left
      · intro w hSw; (try dsimp only at hSw); first | (go_simp; done) | (go_simp; with_reducible rfl)
      try simp only [Act.put, List.setIfInBounds_toArray, List.set_cons_zero, List.set_cons_succ]
      refine wpAnyF_take0 (i := 6) (oi := { dst := some 32, op := Op.move (Operand.tmp 1), type := 84, pos := "frame.go:206", after := #[], guard := none }) (v := ?_) rfl (by kernel_rfl) (by kernel_rfl) (by kernel_rfl) (fun _ _ _ h => h) (Or.inl ⟨by rfl, ?_⟩) ?_
      rotate_left
      · intro w hSw; (try dsimp only at hSw); first | (go_simp; done) | (go_simp; with_reducible rfl)
      try simp only [Act.put, List.setIfInBounds_toArray, List.set_cons_zero, List.set_cons_succ]
      refine wpAnyF_one (i := 7) (o := { dst := some 33, op := Op.call { callee := Callee.value (Operand.func 70), args := #[Operand.tmp 32], argTypes := #[84] }, type := 22, pos := "frame.go:206", after := #[{ on := 6, ground := Ground.data }], guard := none }) (by kernel_rfl) rfl (fun K hK => ?_)
      go_simp
      go_at_call 70
      obtain ⟨A7, n7, c7, hin7⟩ := HGd.out.inn
      have HC2 := Lib.hid (inNum_any hin7)
      rw [H7.out] at HC2
      refine HC2.out.mono ?_
      rintro e w6 ⟨A8, n8, c8, rfl, hin8, hgr8⟩
      have HG6 := Lib.hid (HGd.out.next hin8 hgr8)
      have hcA : w6.cell? ⟨F, 7, none⟩ = some (.slice A n cp) := HG6.out.cellAt 7
      clear hin7 HC2 hin8 hgr8
      try go_wp2_with fail
      try clear hHeld
      refine hK.out _ _ (by first | exact hcA | exact hcB) (fun hHeld => ?_)
      clear hK K
      try simp only [Act.put, List.setIfInBounds_toArray, List.set_cons_zero, List.set_cons_succ]
      refine wpAnyF_take0 (i := 8) (oi := { dst := some 34, op := Op.build 77 #[(0, Operand.tmp 31), (1, Operand.tmp 33)], type := 77, pos := "frame.go:206", after := #[{ on := 5, ground := Ground.data }, { on := 7, ground := Ground.data }], guard := none }) (v := ?_) rfl (by kernel_rfl) (by kernel_rfl) (by kernel_rfl) (fun _ _ _ h => h) (Or.inl ⟨by rfl, ?_⟩) ?_
      rotate_left
      · intro w hSw; (try dsimp only at hSw); first | (go_simp; done) | (go_simp; with_reducible rfl)
      try simp only [Act.put, List.setIfInBounds_toArray, List.set_cons_zero, List.set_cons_succ]
      refine wpAnyF_one (i := 9) (o := { dst := some 35, op := Op.buildSlice 23 1 #[(0, Operand.tmp 34)], type := 23, pos := "frame.go:206", after := #[{ on := 8, ground := Ground.data }], guard := none }) (by kernel_rfl) rfl (fun K hK => ?_)
      go_simp
      have HG7 := Lib.hid (HG6.out.onA (.cells #[.int .u64 (u1 : Int), .int .u64 (u2 : Int)] 77))
      have hcB : (w6.alloc (.cells #[.int .u64 (u1 : Int), .int .u64 (u2 : Int)] 77)).cell? ⟨F, 7, none⟩ = some (.slice A n cp) := HG7.out.cellAt 7
      have HSQ : Hid (Sn (w6.alloc (.cells #[.int .u64 (u1 : Int), .int .u64 (u2 : Int)] 77)) (w6.heap.size + 1) (some ⟨w6.heap.size, 0, none⟩) 1 1 2 (rv (u1, u2))) := lit_sn w6 77 (rv (u1, u2)) 1 2 rfl (by unfold maxLen; omega)
      try go_wp2_with fail
      try clear hHeld
      refine hK.out _ _ (by first | exact hcA | exact hcB) (fun hHeld => ?_)
      clear hK K
      try simp only [Act.put, List.setIfInBounds_toArray, List.set_cons_zero, List.set_cons_succ]
      refine wpAnyF_oneF (i := 10) (o := { dst := some 36, op := Op.call { callee := Callee.builtin Builtin.append, args := #[Operand.tmp 30, Operand.tmp 35], argTypes := #[23, 23] }, type := 23, pos := "frame.go:206", after := #[{ on := 4, ground := Ground.data }, { on := 9, ground := Ground.data }, { on := 7, ground := Ground.chain }], guard := none }) (by kernel_rfl) (by kernel_rfl) rfl (fun K hK => ?_)
      rw [if_pos (by rfl)]
      refine oper_append_dstN (.tmp 30) (.tmp 35) 23 23 rfl (F + 1) 77 i0 _ 2 16 Tryd.underlying23 hi0 hz0 hz1 hz2 rfl A n cp (rvs S) rfl (.inr HG7.out.rs) _ 1 (rv (u1, u2)) rfl (HSQ.out.src Tryd.underlying23 (rv_one (u1, u2))) (by omega) (by omega) (by have := HG7.out.fl; omega) ?_
      intro A9 c9 w9 h1 h2 h3 h4 h5 h6
      have HB9 := Lib.hid h4
      have HO9 := Lib.hid (h3 HG7.out.rs)
      have hF7 := HG7.out.blk
      have hblk9 := (h4.block F (by omega)).trans hF7
      have hc9 : w9.cell? ⟨F, 7, none⟩ = some (.slice A n cp) := (by rw [cell_of_row w9 _ 7 _ _ _ hblk9]; rfl)
      have hf9 := frz_block (i := 7) hblk9
      clear h1 h2 h3 h4 h5 h6 hF7 hblk9
      refine hK.out _ _ ?_
      clear hK K
      try simp only [Act.put, List.setIfInBounds_toArray, List.set_cons_zero, List.set_cons_succ]
      refine wpAnyF_take0 (i := 11) (oi := { dst := some 37, op := Op.nilCheck (Operand.tmp 26), type := 0, pos := "frame.go:206", after := #[{ on := 0, ground := Ground.data }, { on := 0, ground := Ground.phase }, { on := 1, ground := Ground.phase }, { on := 2, ground := Ground.phase }, { on := 3, ground := Ground.phase }, { on := 4, ground := Ground.phase }, { on := 5, ground := Ground.phase }, { on := 6, ground := Ground.phase }, { on := 7, ground := Ground.phase }, { on := 8, ground := Ground.phase }, { on := 9, ground := Ground.phase }, { on := 10, ground := Ground.phase }], guard := none }) (v := ?_) rfl (by kernel_rfl) (by kernel_rfl) (by kernel_rfl) (fun _ _ _ h => h) (Or.inl ⟨by rfl, ?_⟩) ?_
      rotate_left
      · intro w hSw; (try dsimp only at hSw); first | (go_simp; done) | (go_simp; with_reducible rfl)
      try simp only [Act.put, List.setIfInBounds_toArray, List.set_cons_zero, List.set_cons_succ]
      refine wpAnyF_take0 (i := 12) (oi := { dst := some 38, op := Op.fieldAddr 26 (Operand.tmp 37) 7, type := 0, pos := "frame.go:206", after := #[{ on := 11, ground := Ground.data }, { on := 0, ground := Ground.phase }, { on := 1, ground := Ground.phase }, { on := 2, ground := Ground.phase }, { on := 3, ground := Ground.phase }, { on := 4, ground := Ground.phase }, { on := 5, ground := Ground.phase }, { on := 6, ground := Ground.phase }, { on := 7, ground := Ground.phase }, { on := 8, ground := Ground.phase }, { on := 9, ground := Ground.phase }, { on := 10, ground := Ground.phase }], guard := none }) (v := ?_) rfl (by kernel_rfl) (by kernel_rfl) (by kernel_rfl) (fun _ _ _ h => h) (Or.inl ⟨by rfl, ?_⟩) ?_
      rotate_left
      · intro w hSw; (try dsimp only at hSw); first | (go_simp; done) | (go_simp; with_reducible rfl)
      try simp only [Act.put, List.setIfInBounds_toArray, List.set_cons_zero, List.set_cons_succ]
      refine wpAnyF_oneF (i := 13) (o := { dst := none, op := Op.store 23 (Operand.tmp 38) (Operand.tmp 36), type := 0, pos := "frame.go:206", after := #[{ on := 12, ground := Ground.data }, { on := 10, ground := Ground.data }, { on := 10, ground := Ground.chain }, { on := 0, ground := Ground.phase }, { on := 1, ground := Ground.phase }, { on := 2, ground := Ground.phase }, { on := 3, ground := Ground.phase }, { on := 4, ground := Ground.phase }, { on := 5, ground := Ground.phase }, { on := 6, ground := Ground.phase }, { on := 7, ground := Ground.phase }, { on := 8, ground := Ground.phase }, { on := 9, ground := Ground.phase }, { on := 10, ground := Ground.phase }], guard := none }) (by kernel_rfl) (by kernel_rfl) rfl (fun K hK => ?_)
      go_simp
      skip
      try go_wp2_with fail
      refine hK.out _ _ ?_
      clear hK K
      try simp only [Act.put, List.setIfInBounds_toArray, List.set_cons_zero, List.set_cons_succ]
      refine wpAnyF_done (by kernel_rfl) ?_ _
      refine NoPanic.normal ?_
      have HGZ := Lib.hid (HG7.out.run HB9.out HO9.out ⟨HU1.out, HU2.out⟩ ⟨rfl, rfl, rfl, rfl⟩)
      go_wp2
      go_roundg (gk - 1)
      case measure => have := HJ.out; omega
      case rel =>
        refine ⟨j + 1, A9, n + 1, c9, by have := HJ.out; omega, by go_num, ?_⟩
        rw [HST.out]
        exact HGZ.out
    · have hltI : ¬ (j : Int) < (N : Int) := by omega
      obtain rfl : j = N := by have := HJ.out; omega
      go_wp2
      go_end0
      refine ⟨rfl, ansF kd ag ep v1 v2 v3 A n cp S, ?_, ?_⟩
      · rw [H5.out]; rfl
      · rw [H5.out]; exact HG.out

end Go.Proofs.YtlkcnpmgafckoaaDoor
