/-
  CONTRACTS of layer 5: what a Batch tells behind its epoch is read.
  No statement is proved here.
-/
import Derived.Test.YtlkcnpmgafckoaaDoorFrameGet2
namespace Go.Proofs.YtlkcnpmgafckoaaDoor
open Go.RowKit

theorem own_typed {w : World} {b b' : Nat} {e e' : TypeId} {s s' : Nat} {v v' : Value} {n n' : Nat} {xs xs' : List Value} (h : w.ownsRow b e s v n xs) (h' : w.ownsRow b' e' s' v' n' xs') (hne : e ≠ e') : v.ownBlock = none ∨ v.ownBlock ≠ v'.ownBlock := by
  rcases h.2 with ⟨hv, _⟩ | ⟨g, cap, cur, hv, _, hh, _⟩
  · left; rw [hv]; rfl
  · right
    rcases h'.2 with ⟨hv', _⟩ | ⟨g', cap', cur', hv', _, hh', _⟩
    · rw [hv, hv']; simp [Value.ownBlock]
    · rw [hv, hv']
      intro e1
      have e2 : g = g' := by simpa [Value.ownBlock] using e1
      rw [e2, hh'] at hh
      injection hh with hh
      injection hh with _ hh
      exact hne hh.symm
theorem stItem_lt (l : List UInt8) (er : Nat) : (stItem l er).1 < two64 := by
  unfold stItem
  dsimp only
  split
  · exact stNum_lt l er
  · unfold two64; show 0 < _; omega
/-- An item comes behind the others. -/
theorem Gt.item {w0 w w4 : World} {g F : Nat} {k : Fv} {l : List UInt8} {er : Nat} {A4 : Option Addr} {c4 : Nat} {x : Ik} (h : Gt w0 w g F k l er) (hb : Below (F + 1) w w4) (hg : w.grownBy w4 (if k.ni = k.ci then none else (Value.slice k.Ai k.ni k.ci).ownBlock)) (ho : w4.ownsRow (F + 1) 58 3 (.slice A4 (k.ni + 1) c4) (k.ni + 1) (itvs k.ks ++ x.v))
    (hx : w.ownsRow (F + 1) 5 1 (.slice x.q.A x.q.n x.q.c) x.q.n (cbs x.q.l) ∧ x.N < two64) (hL : k.Ar = none ∧ k.nr = 0 ∧ k.cr = 0 ∧ k.L = []) : Gt w0 (w4.setCell ⟨F, 8, none⟩ (.slice A4 (k.ni + 1) c4)) g F { k with Ai := A4, ni := k.ni + 1, ci := c4, ks := k.ks ++ [x] } l er := by
  obtain ⟨A, n, c, hin⟩ := h.inn
  have hgF : g < F := by have := h.lt; have := h.le; omega
  have hblk := (hb.block F (by omega)).trans h.blk
  have hsz := hb.size
  have keep : ∀ (y : Ik), w.ownsRow (F + 1) 5 1 (.slice y.q.A y.q.n y.q.c) y.q.n (cbs y.q.l) → (w4.setCell ⟨F, 8, none⟩ (.slice A4 (k.ni + 1) c4)).ownsRow (F + 1) 5 1 (.slice y.q.A y.q.n y.q.c) y.q.n (cbs y.q.l) := fun y hy => by
    refine own_otherN _ (hy.kept hg ?_) (show F < F + 1 by omega)
    split
    · cases (Value.slice y.q.A y.q.n y.q.c).ownBlock <;> simp
    · exact own_typed hy h.its (by decide)
  refine ⟨⟨A, n, c, (hin.below hb (by omega)).kept (only_set w4 F 8 _) (fun k hk => by injection hk; omega)⟩, by have e := heap_setCell_same _ F 8 _ _ (.slice A4 (k.ni + 1) c4) hblk; simpa using e, h.lt, h.le, ?_, ?_, ?_, ?_, h.L, h.kd, h.ag, h.ep, h.ic, h.ba, h.cu, h.li⟩
  · have hle := h.le
    have hg : w0.grownBy w4 (some g) := ⟨hb.os.trans h.gr.os, hb.tape.trans h.gr.tape, hb.output.trans h.gr.output, Nat.le_trans hle (Nat.le_of_lt (Array.getElem?_eq_some_iff.1 hblk).1), fun i hi hne => (hb.block i (by omega)).trans (h.gr.block i hi hne)⟩
    exact only_new hg h.le rfl
  · show World.ownsRow _ (F + 1) 77 2 (.slice k.Ar k.nr k.cr) k.nr (rvs k.L)
    rw [hL.1, hL.2.1, hL.2.2.1, hL.2.2.2]
    exact ⟨rfl, .inl ⟨rfl, rfl⟩⟩
  · show (w4.setCell ⟨F, 8, none⟩ (.slice A4 (k.ni + 1) c4)).ownsRow (F + 1) 58 3 (.slice A4 (k.ni + 1) c4) (k.ni + 1) (itvs (k.ks ++ [x]))
    have e : itvs (k.ks ++ [x]) = itvs k.ks ++ x.v := by simp [itvs]
    rw [e]
    exact own_otherN _ ho (show F < F + 1 by omega)
  · intro y hy
    rcases List.mem_append.1 hy with h1 | h1
    · exact ⟨keep y (h.sl y h1).1, (h.sl y h1).2⟩
    · rw [List.mem_singleton.1 h1]; exact ⟨keep x hx.1, hx.2⟩
def batF (kd : Nat) (ag : Int) (ep i b : Nat) (A : Option Addr) (n cp : Nat) (ks : List Ik) : Fv := ⟨kd, ag, ep, i, b, 0, 0, none, 0, 0, [], A, n, cp, ks⟩
theorem item_info' : (Tryd.prog.info? 58).map (fun i => (i.zero, i.size, i.bytes)) = some (some (.agg #[.int .u64 0, .int .i64 0, .slice none 0 0]), 3, 40) := by kernel_rfl
def GBatRel (w0 : World) (g F kd : Nat) (ag : Int) (ep ic ba : Nat) (l : List UInt8) (er N gk : Nat) (i : Value) (wr : World) : Prop :=
  ∃ (j : Nat) (A : Option Addr) (n cp : Nat) (ks : List Ik), gk + j = N ∧ i = .int .i64 (j : Int) ∧ ks.map Ik.it = (stItems l er j).1 ∧ Gt w0 wr g F (batF kd ag ep ic ba A n cp ks) (stItems l er j).2.1 (stItems l er j).2.2
theorem stItems_succ {l l1 l2 b : List UInt8} {er e1 e2 j N k : Nat} {S : List It} (h1 : stItems l er j = (S, l1, e1)) (h2 : stItem l1 e1 = (N, k, b, l2, e2)) : stItems l er (j + 1) = (S ++ [⟨N, (k : Int), b⟩], l2, e2) := by simp [stItems, h1, h2]

set_option maxRecDepth 100000 in
set_option maxHeartbeats 2000000 in
theorem getBatch_any {w0 w : World} {g F kd : Nat} {ag : Int} {ep : Nat} {l : List UInt8} {er : Nat} (h : Gt w0 w g F (headF kd ag ep) l er) :
    Calls Tryd.prog 58 #[.pointer (some ⟨F, 0, none⟩), .pointer (some ⟨g, 0, none⟩)] w (Got w0 g F (getB (headF kd ag ep).m l er)) := by
  obtain ⟨A, n, c, hin⟩ := h.inn
  have HC1 := Lib.hid (inNum_any hin)
  have HV1 := Lib.hid (stNum_lt l er)
  obtain ⟨⟨v1, l1, e1⟩, H1⟩ : ∃ x, Hid (stNum l er = x) := ⟨_, rfl⟩
  rw [H1.out] at HC1 HV1
  have HV2 := Lib.hid (stNum_lt l1 e1)
  obtain ⟨⟨v2, l2, e2⟩, H2⟩ : ∃ x, Hid (stNum l1 e1 = x) := ⟨_, rfl⟩
  rw [H2.out] at HV2
  have hN := stMost_le l2 e2 64
  obtain ⟨⟨N, l4, e4⟩, H4⟩ : ∃ x, Hid (stMost l2 e2 64 = x) := ⟨_, rfl⟩
  rw [H4.out] at hN
  dsimp only at hN
  have HX : Hid (getB (headF kd ag ep).m l er = (⟨kd, ag, ep, v1, v2, 0, 0, [], (stItems l4 e4 N).1⟩, (stItems l4 e4 N).2.1, (stItems l4 e4 N).2.2)) := by
    show _ = _
    simp only [getB, H1.out, H2.out, H4.out]
    rfl
  rw [HX.out]
  obtain ⟨i0, hi0, hz0, hz1, hz2⟩ := info_parts item_info'
  have HG := Lib.hid h
  clear h hin HX
  go_enter Tryd.func58, Tryd.ntmps58
  go_wp2_with fail
  refine HC1.out.mono ?_
  rintro e w1 ⟨A1, n1, c1, rfl, hin1, hgr1⟩
  have HG1 := Lib.hid (HG.out.next hin1 hgr1)
  have q3 : w1.cell? ⟨F, 3, none⟩ = some (.int .u64 (0 : Int)) := HG1.out.cellAt 3
  have f3 := HG1.out.frz 3
  have HGs := Lib.hid (HG1.out.set_ic v1 HV1.out)
  clear hin1 hgr1 HC1 HG HG1
  go_wp2_with fail
  generalize (w1.setCell ⟨F, 3, none⟩ (.int .u64 (v1 : Int))) = x1 at *
  obtain ⟨A, n, c, hin⟩ := HGs.out.inn
  have HC1 := Lib.hid (inNum_any hin)
  rw [H2.out] at HC1
  refine HC1.out.mono ?_
  rintro e w2 ⟨A2, n2, c2, rfl, hin1, hgr1⟩
  have HG1 := Lib.hid (HGs.out.next hin1 hgr1)
  have q5 : w2.cell? ⟨F, 4, none⟩ = some (.int .u64 (0 : Int)) := HG1.out.cellAt 4
  have f5 := HG1.out.frz 4
  have HGu := Lib.hid (HG1.out.set_ba v2 HV2.out)
  clear hin1 hgr1 HC1 HG1 HGs q3 f3 hin
  go_wp2_with fail
  generalize (w2.setCell ⟨F, 4, none⟩ (.int .u64 (v2 : Int))) = x3 at *
  obtain ⟨A, n, c, hin⟩ := HGu.out.inn
  have HC1 := Lib.hid (atMost_any hin 64 (by omega))
  rw [H4.out] at HC1
  refine HC1.out.mono ?_
  rintro e w4 ⟨A4, n4, c4, rfl, hin1, hgr1⟩
  have HS : Hid (GBatRel w0 g F kd ag ep v1 v2 l4 e4 N N (.int .i64 0) w4) := ⟨0, none, 0, 0, [], rfl, rfl, rfl, HGu.out.next hin1 hgr1⟩
  clear hin1 hgr1 HC1 HGu q5 f5 hin H1 H2 H4 HV1 HV2
  go_wp2_with fail
  go_loopg [16] N (fun gk i wr => GBatRel w0 g F kd ag ep v1 v2 l4 e4 N gk i wr)
  case atStart => exact HS.out
  case round =>
    obtain ⟨j, A, n, cp, ks, hj, rfl, hks, hG⟩ := hrel
    have HJ := Lib.hid hj
    have HNJ : Hid (n = j) := by
      have h1 := hG.its.1
      have h2 := stItems_len l4 e4 j
      rw [← hks, List.length_map] at h2
      rw [show (batF kd ag ep v1 v2 A n cp ks).ks = ks from rfl, show (batF kd ag ep v1 v2 A n cp ks).ni = n from rfl, itvs_len, h2] at h1
      show _ = _
      omega
    obtain ⟨⟨S, l5, e5⟩, H5⟩ : ∃ x, Hid (stItems l4 e4 j = x) := ⟨_, rfl⟩
    rw [H5.out] at hG hks
    dsimp only at hG hks
    have HG := Lib.hid hG
    have HKS := Lib.hid hks
    clear hj hG HS hks
    by_cases hlt : j < N
    · have hltI : (j : Int) < (N : Int) := by omega
      have hn33 : n ≤ 65 := by have := HNJ.out; omega
      have HU1 := Lib.hid (stItem_lt l5 e5)
      obtain ⟨⟨u1, u2, b, l7, e7⟩, H6⟩ : ∃ x, Hid (stItem l5 e5 = x) := ⟨_, rfl⟩
      rw [H6.out] at HU1
      have HST := Lib.hid (stItems_succ H5.out H6.out)
      go_wp2_with fail
      have hc7 : wr.drew.cell? ⟨F, 8, none⟩ = some (.slice A n cp) := HG.out.cellAt 8
      have HGd : Hid (Gt w0 wr.drew g F (batF kd ag ep v1 v2 A n cp ks) l5 e5) := HG.out.drewN 1
      refine wp_region_noPanic ?_
      refine wp_region_F (S := (fun w' => w'.cell? ⟨F, 8, none⟩ = some (.slice A n cp))) (F := (fun j => j == 8 || j == 11)) (by kernel_rfl) hc7 (fun hHeld => ?_)
      refine wpAnyF_take0 (i := 0) (oi := { dst := some 18, op := Op.move (Operand.tmp 0), type := 103, pos := "frame.go:215", after := #[], guard := none }) (v := ?_) rfl (by kernel_rfl) (by kernel_rfl) (by kernel_rfl) (fun _ _ _ h => h) (Or.inl ⟨by rfl, ?_⟩) ?_
      rotate_left
      · intro w hSw; (try dsimp only at hSw); first | (go_simp; done) | (go_simp; with_reducible rfl)
      try simp only [Act.put, List.setIfInBounds_toArray, List.set_cons_zero, List.set_cons_succ]
      refine wpAnyF_take0 (i := 1) (oi := { dst := some 19, op := Op.move (Operand.tmp 0), type := 103, pos := "frame.go:215", after := #[], guard := none }) (v := ?_) rfl (by kernel_rfl) (by kernel_rfl) (by kernel_rfl) (fun _ _ _ h => h) (Or.inl ⟨by rfl, ?_⟩) ?_
      rotate_left
      · intro w hSw; (try dsimp only at hSw); first | (go_simp; done) | (go_simp; with_reducible rfl)
      try simp only [Act.put, List.setIfInBounds_toArray, List.set_cons_zero, List.set_cons_succ]
      refine wpAnyF_take0 (i := 2) (oi := { dst := some 20, op := Op.nilCheck (Operand.tmp 19), type := 0, pos := "frame.go:215", after := #[{ on := 1, ground := Ground.data }], guard := none }) (v := ?_) rfl (by kernel_rfl) (by kernel_rfl) (by kernel_rfl) (fun _ _ _ h => h) (Or.inl ⟨by rfl, ?_⟩) ?_
      rotate_left
      · intro w hSw; (try dsimp only at hSw); first | (go_simp; done) | (go_simp; with_reducible rfl)
      try simp only [Act.put, List.setIfInBounds_toArray, List.set_cons_zero, List.set_cons_succ]
      refine wpAnyF_take0 (i := 3) (oi := { dst := some 21, op := Op.fieldAddr 26 (Operand.tmp 20) 8, type := 0, pos := "frame.go:215", after := #[{ on := 2, ground := Ground.data }], guard := none }) (v := ?_) rfl (by kernel_rfl) (by kernel_rfl) (by kernel_rfl) (fun _ _ _ h => h) (Or.inl ⟨by rfl, ?_⟩) ?_
      rotate_left
      · intro w hSw; (try dsimp only at hSw); first | (go_simp; done) | (go_simp; with_reducible rfl)
      try simp only [Act.put, List.setIfInBounds_toArray, List.set_cons_zero, List.set_cons_succ]
      refine wpAnyF_take (i := 4) (oi := { dst := some 22, op := Op.load 24 (Operand.tmp 21), type := 24, pos := "frame.go:215", after := #[{ on := 3, ground := Ground.data }], guard := none }) (v := ?_) (fun j hj => by simp only [Bool.or_eq_true, beq_iff_eq] at hj; rcases hj with rfl | rfl <;> exact of_decide_eq_true (by kernel_rfl)) rfl (by kernel_rfl) (by kernel_rfl) (by kernel_rfl) (by kernel_rfl) (by kernel_rfl) (fun _ _ _ h => h) (Or.inl ⟨by rfl, ?_⟩) (by assumption) ?_
      rotate_left
      · intro w hSw; (try dsimp only at hSw); first | (go_simp; done) | (go_simp; with_reducible rfl)
      try simp only [Act.put, List.setIfInBounds_toArray, List.set_cons_zero, List.set_cons_succ]
      refine wpAnyF_take0 (i := 5) (oi := { dst := some 23, op := Op.move (Operand.tmp 1), type := 84, pos := "frame.go:215", after := #[], guard := none }) (v := ?_) rfl (by kernel_rfl) (by kernel_rfl) (by kernel_rfl) (fun _ _ _ h => h) (Or.inl ⟨by rfl, ?_⟩) ?_
      rotate_left
      · intro w hSw; (try dsimp only at hSw); first | (go_simp; done) | (go_simp; with_reducible rfl)
      try simp only [Act.put, List.setIfInBounds_toArray, List.set_cons_zero, List.set_cons_succ]
      refine wpAnyF_one (i := 6) (o := { dst := some 24, op := Op.call { callee := Callee.value (Operand.func 81), args := #[Operand.tmp 23], argTypes := #[84] }, type := 58, pos := "frame.go:215", after := #[{ on := 5, ground := Ground.data }], guard := none }) (by kernel_rfl) rfl (fun K hK => ?_)
      go_simp
      go_at_call 81
      obtain ⟨A7, n7, c7, hin7⟩ := HGd.out.inn
      have HC2 := Lib.hid (getItem_any hin7)
      rw [H6.out] at HC2
      refine HC2.out.mono ?_
      rintro e w6 ⟨A8, n8, c8, Ab, nb, cb, rfl, hob, hin8, hgr8⟩
      unfold itv
      have HG6 := Lib.hid (HGd.out.next hin8 hgr8)
      have hcA : w6.cell? ⟨F, 8, none⟩ = some (.slice A n cp) := HG6.out.cellAt 8
      have HOB := Lib.hid hob
      have hFd := HGd.out.fl
      clear hin7 HC2 hin8 hgr8 hob
      try go_wp2_with fail
      try clear hHeld
      refine hK.out _ _ (by first | exact hcA | exact hcB) (fun hHeld => ?_)
      clear hK K
      try simp only [Act.put, List.setIfInBounds_toArray, List.set_cons_zero, List.set_cons_succ]
      refine wpAnyF_one (i := 7) (o := { dst := some 25, op := Op.buildSlice 24 1 #[(0, Operand.tmp 24)], type := 24, pos := "frame.go:215", after := #[{ on := 6, ground := Ground.data }], guard := none }) (by kernel_rfl) rfl (fun K hK => ?_)
      go_simp
      have HG7 := Lib.hid (HG6.out.onA (.cells #[.int .u64 (u1 : Int), .int .i64 (u2 : Int), .slice Ab nb cb] 58))
      have HOB7 := Lib.hid (HOB.out.alloc (.cells #[.int .u64 (u1 : Int), .int .i64 (u2 : Int), .slice Ab nb cb] 58))
      have hcB : (w6.alloc (.cells #[.int .u64 (u1 : Int), .int .i64 (u2 : Int), .slice Ab nb cb] 58)).cell? ⟨F, 8, none⟩ = some (.slice A n cp) := HG7.out.cellAt 8
      have HSQ : Hid (Sn (w6.alloc (.cells #[.int .u64 (u1 : Int), .int .i64 (u2 : Int), .slice Ab nb cb] 58)) (w6.heap.size + 1) (some ⟨w6.heap.size, 0, none⟩) 1 1 3 (Ik.v ⟨u1, (u2 : Int), ⟨Ab, nb, cb, b⟩⟩)) := lit_sn w6 58 (Ik.v ⟨u1, (u2 : Int), ⟨Ab, nb, cb, b⟩⟩) 1 3 rfl (by unfold maxLen; omega)
      try go_wp2_with fail
      try clear hHeld
      refine hK.out _ _ (by first | exact hcA | exact hcB) (fun hHeld => ?_)
      clear hK K
      try simp only [Act.put, List.setIfInBounds_toArray, List.set_cons_zero, List.set_cons_succ]
      refine wpAnyF_oneF (i := 8) (o := { dst := some 26, op := Op.call { callee := Callee.builtin Builtin.append, args := #[Operand.tmp 22, Operand.tmp 25], argTypes := #[24, 24] }, type := 24, pos := "frame.go:215", after := #[{ on := 4, ground := Ground.data }, { on := 7, ground := Ground.data }, { on := 6, ground := Ground.chain }], guard := none }) (by kernel_rfl) (by kernel_rfl) rfl (fun K hK => ?_)
      rw [if_pos (by rfl)]
      refine oper_append_dstN (.tmp 22) (.tmp 25) 24 24 rfl (F + 1) 58 i0 _ 3 40 Tryd.underlying24 hi0 hz0 hz1 hz2 rfl A n cp (itvs ks) rfl (.inr HG7.out.its) _ 1 (Ik.v ⟨u1, (u2 : Int), ⟨Ab, nb, cb, b⟩⟩) rfl (HSQ.out.src Tryd.underlying24 (itv_one _)) (by omega) (by omega) (by have := HG7.out.fl; omega) ?_
      intro A9 c9 w9 h1 h2 h3 h4 h5 h6
      have HB9 := Lib.hid h4
      have HO9 := Lib.hid (h3 HG7.out.its)
      have HR9 := Lib.hid h5
      have hF7 := HG7.out.blk
      have hblk9 := (h4.block F (by omega)).trans hF7
      have hc9 : w9.cell? ⟨F, 8, none⟩ = some (.slice A n cp) := (by rw [cell_of_row w9 _ 8 _ _ _ hblk9]; rfl)
      have hf9 := frz_block (i := 8) hblk9
      clear h1 h2 h3 h4 h5 h6 hF7 hblk9
      refine hK.out _ _ ?_
      clear hK K
      try simp only [Act.put, List.setIfInBounds_toArray, List.set_cons_zero, List.set_cons_succ]
      refine wpAnyF_take0 (i := 9) (oi := { dst := some 27, op := Op.nilCheck (Operand.tmp 18), type := 0, pos := "frame.go:215", after := #[{ on := 0, ground := Ground.data }, { on := 0, ground := Ground.phase }, { on := 1, ground := Ground.phase }, { on := 2, ground := Ground.phase }, { on := 3, ground := Ground.phase }, { on := 4, ground := Ground.phase }, { on := 5, ground := Ground.phase }, { on := 6, ground := Ground.phase }, { on := 7, ground := Ground.phase }, { on := 8, ground := Ground.phase }], guard := none }) (v := ?_) rfl (by kernel_rfl) (by kernel_rfl) (by kernel_rfl) (fun _ _ _ h => h) (Or.inl ⟨by rfl, ?_⟩) ?_
      rotate_left
      · intro w hSw; (try dsimp only at hSw); first | (go_simp; done) | (go_simp; with_reducible rfl)
      try simp only [Act.put, List.setIfInBounds_toArray, List.set_cons_zero, List.set_cons_succ]
      refine wpAnyF_take0 (i := 10) (oi := { dst := some 28, op := Op.fieldAddr 26 (Operand.tmp 27) 8, type := 0, pos := "frame.go:215", after := #[{ on := 9, ground := Ground.data }, { on := 0, ground := Ground.phase }, { on := 1, ground := Ground.phase }, { on := 2, ground := Ground.phase }, { on := 3, ground := Ground.phase }, { on := 4, ground := Ground.phase }, { on := 5, ground := Ground.phase }, { on := 6, ground := Ground.phase }, { on := 7, ground := Ground.phase }, { on := 8, ground := Ground.phase }], guard := none }) (v := ?_) rfl (by kernel_rfl) (by kernel_rfl) (by kernel_rfl) (fun _ _ _ h => h) (Or.inl ⟨by rfl, ?_⟩) ?_
      rotate_left
      · intro w hSw; (try dsimp only at hSw); first | (go_simp; done) | (go_simp; with_reducible rfl)
      try simp only [Act.put, List.setIfInBounds_toArray, List.set_cons_zero, List.set_cons_succ]
      refine wpAnyF_oneF (i := 11) (o := { dst := none, op := Op.store 24 (Operand.tmp 28) (Operand.tmp 26), type := 0, pos := "frame.go:215", after := #[{ on := 10, ground := Ground.data }, { on := 8, ground := Ground.data }, { on := 8, ground := Ground.chain }, { on := 0, ground := Ground.phase }, { on := 1, ground := Ground.phase }, { on := 2, ground := Ground.phase }, { on := 3, ground := Ground.phase }, { on := 4, ground := Ground.phase }, { on := 5, ground := Ground.phase }, { on := 6, ground := Ground.phase }, { on := 7, ground := Ground.phase }, { on := 8, ground := Ground.phase }], guard := none }) (by kernel_rfl) (by kernel_rfl) rfl (fun K hK => ?_)
      go_simp
      skip
      try go_wp2_with fail
      refine hK.out _ _ ?_
      clear hK K
      try simp only [Act.put, List.setIfInBounds_toArray, List.set_cons_zero, List.set_cons_succ]
      refine wpAnyF_done (by kernel_rfl) ?_ _
      refine NoPanic.normal ?_
      have HGZ := Lib.hid (HG7.out.item (x := ⟨u1, (u2 : Int), ⟨Ab, nb, cb, b⟩⟩) HB9.out HR9.out HO9.out ⟨own_lower HOB7.out (by omega), HU1.out⟩ ⟨rfl, rfl, rfl, rfl⟩)
      go_wp2
      go_roundg (gk - 1)
      case measure => have := HJ.out; omega
      case rel =>
        refine ⟨j + 1, A9, n + 1, c9, ks ++ [⟨u1, (u2 : Int), ⟨Ab, nb, cb, b⟩⟩], by have := HJ.out; omega, by go_num, ?_, ?_⟩
        · rw [HST.out, List.map_append, HKS.out]; rfl
        · rw [HST.out]
          exact HGZ.out
    · have hltI : ¬ (j : Int) < (N : Int) := by omega
      obtain rfl : j = N := by have := HJ.out; omega
      go_wp2
      go_end0
      refine ⟨rfl, batF kd ag ep v1 v2 A n cp ks, ?_, ?_⟩
      · rw [H5.out]
        show Fm.mk kd ag ep v1 v2 0 0 [] (ks.map Ik.it) = _
        rw [HKS.out]
      · rw [H5.out]; exact HG.out

end Go.Proofs.YtlkcnpmgafckoaaDoor
