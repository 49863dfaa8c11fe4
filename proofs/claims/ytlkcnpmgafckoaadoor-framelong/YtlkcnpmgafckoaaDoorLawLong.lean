/-
  THE WALK of the law FrameLong: where the table is as the program's text lays it, it returns true, whatever the two bytes, and turns nothing that was there.
-/
import Derived.Test.YtlkcnpmgafckoaaDoorLongBase
import Derived.Deep.CutBlock
namespace Go.Proofs.YtlkcnpmgafckoaaDoor
open Go.RowKit

set_option maxRecDepth 100000 in
set_option maxHeartbeats 4000000 in
theorem frameLong_law (w : World) (ht : TabAt w) (x : Nat) (hx : x < 256) (y : Nat) (hy : y < 256) :
    Calls Tryd.prog 8 #[.int .u8 (x : Int), .int .u8 (y : Int)] w (Yes w) := by
  have HT := Lib.hid ht
  obtain ⟨i0, hi0, hz0, hz1, hz2⟩ := info_parts u8_info
  obtain ⟨i1, hi1, hy0, hy1, hy2⟩ := info_parts item_info'
  obtain ⟨yb, hyb⟩ : ∃ yb : UInt8, yb.toNat = y := ⟨UInt8.ofNat y, by simp; omega⟩
  have HYB : Hid (Value.int .u8 (y : Int) = cb yb) := by show _ = Value.int .u8 _; rw [hyb]
  have hwx : IntKind.i64.wrap (x : Int) = (x : Int) := by rw [IntKind.wrap_i64]; omega
  clear ht hyb
  go_enter Tryd.func8, Tryd.ntmps8
  go_wp2_with fail
  refine (awake5_any w HT.out).mono ?_
  rintro e w1 ⟨rfl, hb1⟩
  have HB1 := Lib.hid hb1
  clear hb1
  obtain ⟨M, hM⟩ : ∃ M : Nat, M = 65508 + x := ⟨_, rfl⟩
  have HM := Lib.hid hM
  clear hM
  go_wp2_with (at_make; refine wpList_make_full _ rfl _ _ 37 rfl w1.heap.size 5 i0 (.int .u8 0) 1 Tryd.underlying37 hi0 hz0 hz1 .i64 .i64 _ _ M rfl rfl (by have := HM.out; first | omega | go_num) (by have := HM.out; first | omega | go_num) (by have := HM.out; rw [hz2]; omega) (by have := HM.out; unfold maxLen; omega) (Nat.le_refl _) ?_; intro w2 hown2 hgr2; obtain ⟨z2, hzz2, hzl2, _⟩ := made_zero M; rw [show (Value.int .u8 0).cells = #[.int .u8 0] from rfl, hzz2] at hown2; have HS2 := Lib.hid (Sl.of_own hown2); have HL2 := Lib.hid (dec_long (l := z2) (by have := HM.out; omega)); have HB2 := Lib.hid (HB1.out.trans ((grown_below hgr2).mono HB1.out.size)); clear hown2 hgr2 hzz2 hzl2 HM)
  refine (decode_any w2 (HT.out.below HB2.out) _ _ _ z2 HS2.out).mono ?_
  rintro e w3 ⟨k3, rfl, _, _, hb3⟩
  rw [HL2.out]
  have HB3 := Lib.hid (HB2.out.trans (hb3.mono HB2.out.size))
  clear hb3 HS2 HL2 HB2 HB1
  obtain ⟨N, hN⟩ : ∃ N : Nat, N = 65507 := ⟨_, rfl⟩
  have HN := Lib.hid hN
  clear hN
  unfold Fv.v
  have HB4 := Lib.hid (HB3.out.trans ((below_box w3 k3.box).mono HB3.out.size))
  have hz4 : (w3.alloc k3.box).heap.size = w3.heap.size + 1 := by simp
  go_wp2_with (at_make; refine wpList_make_full _ rfl _ _ 37 rfl (w3.heap.size + 1) 5 i0 (.int .u8 0) 1 Tryd.underlying37 hi0 hz0 hz1 .i64 .i64 _ _ N rfl rfl (by have := HN.out; omega) (by have := HN.out; omega) (by have := HN.out; rw [hz2]; omega) (by have := HN.out; unfold maxLen; omega) (by simp) ?_; intro w5 hown5 hgr5; obtain ⟨z5, hzz5, hzl5, hza5⟩ := made_zero N; rw [show (Value.int .u8 0).cells = #[.int .u8 0] from rfl, hzz5] at hown5; simp only [World.size_alloc] at hown5; have HS5 := Lib.hid (Sl.of_own hown5); have HL5 := Lib.hid (dec_zeros (z := z5) (by have := HN.out; omega) hza5); have HB5 := Lib.hid (HB4.out.trans ((grown_below hgr5).mono HB4.out.size)); clear hown5 hgr5 hzz5 hzl5 hza5)
  refine (decode_any w5 (HT.out.below HB5.out) _ _ _ z5 HS5.out).mono ?_
  rintro e w6 ⟨k6, rfl, _, _, hb6⟩
  obtain ⟨er, HER⟩ : ∃ er, Hid ((decM z5).2 = er) := ⟨_, rfl⟩
  rw [HER.out] at HL5 ⊢
  have her : ((er : Int) != 6) = true := by have := HL5.out; simp; omega
  have HB6 := Lib.hid (HB5.out.trans (hb6.mono HB5.out.size))
  clear hb6 HS5 HL5 HB5 HB4 HB3 hz4 HN
  unfold Fv.v
  have HB7 := Lib.hid ((HB6.out.trans ((below_box w6 k6.box).mono HB6.out.size)).trans ((below_box (w6.alloc k6.box) (fK [] 0 0 none 0).box).mono (Nat.le_trans HB6.out.size (by simp))))
  have HF7 := Lib.hid (heap_alloc_new (w6.alloc k6.box) (fK [] 0 0 none 0).box)
  obtain ⟨N4, hN4⟩ : ∃ N4 : Nat, N4 = 4096 := ⟨_, rfl⟩
  have HN4 := Lib.hid hN4
  clear hN4
  go_wp2_with (at_make; refine wpList_make_full _ rfl _ _ 37 rfl (w6.heap.size + 1 + 1) 5 i0 (.int .u8 0) 1 Tryd.underlying37 hi0 hz0 hz1 .i64 .i64 _ _ N4 rfl rfl (by have := HN4.out; omega) (by have := HN4.out; omega) (by have := HN4.out; rw [hz2]; omega) (by have := HN4.out; unfold maxLen; omega) (by simp) ?_; intro w8 hown8 hgr8; obtain ⟨z8, hzz8, hzl8, _⟩ := made_zero N4; rw [show (Value.int .u8 0).cells = #[.int .u8 0] from rfl, hzz8] at hown8; simp only [World.size_alloc] at hown8; have HO8 := Lib.hid hown8; have HL8 : Hid (z8.length = 4096) := hzl8.trans HN4.out; have HG8 := Lib.hid (grown_below hgr8); clear hown8 hgr8 hzz8 hzl8)
  have HF8 : Hid (w8.heap[w6.heap.size + 1]? = some (fK [] 0 0 none 0).box) := by
    have h := HF7.out
    rw [World.size_alloc] at h
    exact (HG8.out.block (w6.heap.size + 1) (by simp)).trans h
  have HLG : Hid (Lg w w8 (w6.heap.size + 1) (w6.heap.size + 1 + 1) 0 none 0 z8) := by
    have ho := HO8.out
    rw [HN4.out] at ho
    exact ⟨HF8.out, ⟨rfl, .inl ⟨rfl, rfl⟩⟩, ho, HB7.out.trans (HG8.out.mono HB7.out.size), Nat.le_trans HB6.out.size (by omega), HL8.out⟩
  rw [HN4.out]
  obtain ⟨F, hF⟩ : ∃ F, F = w6.heap.size + 1 := ⟨_, rfl⟩
  obtain ⟨B, hB⟩ : ∃ B, B = w6.heap.size + 1 + 1 := ⟨_, rfl⟩
  rw [← hB, ← hF] at HLG
  rw [← hB, ← hF]
  have HFB : Hid (F < B) := by show _ < _; omega
  have HS : Hid (LongFill w F B 4096 (.int .i64 0) w8) := ⟨0, z8, rfl, rfl, HLG.out⟩
  clear hF hB HLG HF8 HO8 HL8 HG8 HB7 HF7 HB6 HN4
  generalize (Value.agg #[Value.int IntKind.u8 (k3.kd : Int), Value.int IntKind.i64 k3.ag, Value.int IntKind.u64 (k3.ep : Int), Value.int IntKind.u64 (k3.ic : Int), Value.int IntKind.u64 (k3.ba : Int), Value.int IntKind.u64 (k3.cu : Int), Value.int IntKind.u64 (k3.li : Int), Value.slice k3.Ar k3.nr k3.cr, Value.slice k3.Ai k3.ni k3.ci]) = V3
  generalize (Value.agg #[Value.int IntKind.u8 (k6.kd : Int), Value.int IntKind.i64 k6.ag, Value.int IntKind.u64 (k6.ep : Int), Value.int IntKind.u64 (k6.ic : Int), Value.int IntKind.u64 (k6.ba : Int), Value.int IntKind.u64 (k6.cu : Int), Value.int IntKind.u64 (k6.li : Int), Value.slice k6.Ar k6.nr k6.cr, Value.slice k6.Ai k6.ni k6.ci]) = V6
  generalize Value.tuple #[V3, Value.int IntKind.i64 6] = T3
  generalize Value.tuple #[V6, Value.int IntKind.i64 (er : Int)] = T6
  generalize Value.agg #[Value.int IntKind.u8 3, Value.int IntKind.i64 0, Value.int IntKind.u64 1, Value.int IntKind.u64 0, Value.int IntKind.u64 1, Value.int IntKind.u64 0, Value.int IntKind.u64 0, Value.slice none 0 0, Value.slice none 0 0] = T9
  go_loopg [36] 4096 (fun gk i wr => LongFill w F B gk i wr)
  case atStart => exact HS.out
  case round =>
    obtain ⟨j, l, hj, rfl, hG⟩ := hrel
    have HJ := Lib.hid hj
    have HG := Lib.hid hG
    clear hj hG HS
    by_cases hlt : j < 4096
    · have hltI : (j : Int) < 4096 := by omega
      obtain ⟨gb, xb, e1, hgb, hgl, _, hcy, hfy⟩ := own_at HG.out.big hlt
      obtain rfl : B = gb := by injection e1 with e1; injection e1
      have hset := own_set HG.out.big j yb
      have HGn : Hid (Lg w (wr.setCell ⟨B, j, none⟩ (.int .u8 (y : Int))) F B 0 none 0 (l.set j yb)) := by
        rw [HYB.out]
        exact ⟨(heap_setCell_other wr ⟨B, j, none⟩ F (cb yb) (by show F ≠ B; have := HFB.out; omega)).trans HG.out.blk, ⟨rfl, .inl ⟨rfl, rfl⟩⟩, hset, HG.out.bel.setCell (p := ⟨B, j, none⟩) (by show _ ≤ B; have := HG.out.le; have := HFB.out; omega) _, HG.out.le, by rw [List.length_set]; exact HG.out.len⟩
      clear hset e1 hgb hgl
      go_wp2
      go_roundg (gk - 1)
      case measure => have := HJ.out; omega
      case rel => exact ⟨j + 1, l.set j yb, by have := HJ.out; omega, by go_num, HGn.out⟩
    · have hltI : ¬ (j : Int) < 4096 := by omega
      have HS : Hid (LongRel w F B 15 (.int .u64 0) wr) := ⟨0, none, 0, l, rfl, rfl, HG.out⟩
      clear HG HJ
      go_wp2_with fail
      go_loopg [44] 15 (fun gk i wr => LongRel w F B gk i wr)
      case atStart => exact HS.out
      case round =>
        obtain ⟨j, A, cp, l, hj, rfl, hG⟩ := hrel
        have HJ := Lib.hid hj
        have HG := Lib.hid hG
        clear hj hG HS hlt hltI
        by_cases hlt : j < 15
        · have hltI : (j : Int) < 15 := by omega
          obtain ⟨N, hN⟩ : ∃ N : Nat, N = j + 1 := ⟨_, rfl⟩
          have hj1 : (j : Int) + 1 = (N : Int) := by omega
          have hju : IntKind.u64.wrap (N : Int) = (N : Int) := by rw [IntKind.wrap_u64]; omega
          have HN := Lib.hid hN
          clear hN
          go_wp2_with fail
          have hc7 : wr.drew.cell? ⟨F, 8, none⟩ = some (.slice A j cp) := HG.out.cellAt 8
          have HGd : Hid (Lg w wr.drew F B j A cp l) := HG.out.on (below_drewN (Below.refl _ _) 1)
          refine wp_region_noPanic ?_
          refine wp_region_F (S := (fun w' => w'.cell? ⟨F, 8, none⟩ = some (.slice A j cp))) (F := (fun j => j == 7 || j == 9)) (by kernel_rfl) hc7 (fun hHeld => ?_)
          refine wpAnyF_take0 (i := 0) (oi := { dst := some 47, op := Op.fieldAddr 26 (Operand.tmp 9) 8, type := 0, pos := "law.go:127", after := #[], guard := none }) (v := ?_) rfl (by kernel_rfl) (by kernel_rfl) (by kernel_rfl) (fun _ _ _ h => h) (Or.inl ⟨by rfl, ?_⟩) ?_
          rotate_left
          · intro w hSw; (try dsimp only at hSw); first | (go_simp; done) | (go_simp; with_reducible rfl)
          try simp only [Act.put, List.setIfInBounds_toArray, List.set_cons_zero, List.set_cons_succ]
          refine wpAnyF_take (i := 1) (oi := { dst := some 48, op := Op.load 24 (Operand.tmp 47), type := 24, pos := "law.go:127", after := #[{ on := 0, ground := Ground.data }], guard := none }) (v := ?_) (fun j hj => by simp only [Bool.or_eq_true, beq_iff_eq] at hj; rcases hj with rfl | rfl <;> exact of_decide_eq_true (by kernel_rfl)) rfl (by kernel_rfl) (by kernel_rfl) (by kernel_rfl) (by kernel_rfl) (by kernel_rfl) (fun _ _ _ h => h) (Or.inl ⟨by rfl, ?_⟩) (by assumption) ?_
          rotate_left
          · intro w hSw; (try dsimp only at hSw); first | (go_simp; done) | (go_simp; with_reducible rfl)
          try simp only [Act.put, List.setIfInBounds_toArray, List.set_cons_zero, List.set_cons_succ]
          refine wpAnyF_take0 (i := 2) (oi := { dst := some 49, op := Op.move (Operand.tmp 12), type := 22, pos := "law.go:127", after := #[], guard := none }) (v := ?_) rfl (by kernel_rfl) (by kernel_rfl) (by kernel_rfl) (fun _ _ _ h => h) (Or.inl ⟨by rfl, ?_⟩) ?_
          rotate_left
          · intro w hSw; (try dsimp only at hSw); first | (go_simp; done) | (go_simp; with_reducible rfl)
          try simp only [Act.put, List.setIfInBounds_toArray, List.set_cons_zero, List.set_cons_succ]
          refine wpAnyF_take0 (i := 3) (oi := { dst := some 50, op := Op.binOp BinOp.add 22 (Operand.tmp 49) (Operand.const (Value.int IntKind.u64 1)) 22, type := 22, pos := "law.go:127", after := #[{ on := 2, ground := Ground.data }], guard := none }) (v := ?_) rfl (by kernel_rfl) (by kernel_rfl) (by kernel_rfl) (fun _ _ _ h => h) (Or.inl ⟨by rfl, ?_⟩) ?_
          rotate_left
          · intro w hSw; (try dsimp only at hSw); first | (go_simp; done) | (go_simp; with_reducible rfl)
          try simp only [Act.put, List.setIfInBounds_toArray, List.set_cons_zero, List.set_cons_succ]
          refine wpAnyF_take0 (i := 4) (oi := { dst := some 51, op := Op.move (Operand.tmp 10), type := 37, pos := "law.go:127", after := #[], guard := none }) (v := ?_) rfl (by kernel_rfl) (by kernel_rfl) (by kernel_rfl) (fun _ _ _ h => h) (Or.inl ⟨by rfl, ?_⟩) ?_
          rotate_left
          · intro w hSw; (try dsimp only at hSw); first | (go_simp; done) | (go_simp; with_reducible rfl)
          try simp only [Act.put, List.setIfInBounds_toArray, List.set_cons_zero, List.set_cons_succ]
          refine wpAnyF_one (i := 5) (o := { dst := some 52, op := Op.call { callee := Callee.value (Operand.func 25), args := #[Operand.tmp 50, Operand.tmp 51], argTypes := #[22, 37] }, type := 58, pos := "law.go:127", after := #[{ on := 3, ground := Ground.data }, { on := 4, ground := Ground.data }], guard := none }) (by kernel_rfl) rfl (fun K hK => ?_)
          go_simp
          go_at_call 25
          refine (item_any _ N (some ⟨B, 0, none⟩) 4096 4096).mono ?_
          rintro e w6 ⟨rfl, hb6⟩
          have HG6 := Lib.hid (HGd.out.on hb6)
          have hcA : w6.cell? ⟨F, 8, none⟩ = some (.slice A j cp) := HG6.out.cellAt 8
          clear hb6
          try go_wp2_with fail
          try clear hHeld
          refine hK.out _ _ (by first | exact hcA | exact hcB) (fun hHeld => ?_)
          clear hK K
          try simp only [Act.put, List.setIfInBounds_toArray, List.set_cons_zero, List.set_cons_succ]
          refine wpAnyF_one (i := 6) (o := { dst := some 53, op := Op.buildSlice 24 1 #[(0, Operand.tmp 52)], type := 24, pos := "law.go:127", after := #[{ on := 5, ground := Ground.data }], guard := none }) (by kernel_rfl) rfl (fun K hK => ?_)
          go_simp
          have HG7 := Lib.hid (HG6.out.on (below_box w6 (.cells #[.int .u64 (N : Int), .int .i64 0, .slice (some ⟨B, 0, none⟩) 4096 4096] 58)))
          have hcB : (w6.alloc (.cells #[.int .u64 (N : Int), .int .i64 0, .slice (some ⟨B, 0, none⟩) 4096 4096] 58)).cell? ⟨F, 8, none⟩ = some (.slice A j cp) := HG7.out.cellAt 8
          have HSQ : Hid (Sn (w6.alloc (.cells #[.int .u64 (N : Int), .int .i64 0, .slice (some ⟨B, 0, none⟩) 4096 4096] 58)) (w6.heap.size + 1) (some ⟨w6.heap.size, 0, none⟩) 1 1 3 (Ik.v ⟨N, 0, ⟨some ⟨B, 0, none⟩, 4096, 4096, l⟩⟩)) := lit_sn w6 58 (Ik.v ⟨N, 0, ⟨some ⟨B, 0, none⟩, 4096, 4096, l⟩⟩) 1 3 rfl (by unfold maxLen; omega)
          try go_wp2_with fail
          try clear hHeld
          refine hK.out _ _ (by first | exact hcA | exact hcB) (fun hHeld => ?_)
          clear hK K
          try simp only [Act.put, List.setIfInBounds_toArray, List.set_cons_zero, List.set_cons_succ]
          refine wpAnyF_oneF (i := 7) (o := { dst := some 54, op := Op.call { callee := Callee.builtin Builtin.append, args := #[Operand.tmp 48, Operand.tmp 53], argTypes := #[24, 24] }, type := 24, pos := "law.go:127", after := #[{ on := 1, ground := Ground.data }, { on := 6, ground := Ground.data }, { on := 5, ground := Ground.chain }], guard := none }) (by kernel_rfl) (by kernel_rfl) rfl (fun K hK => ?_)
          rw [if_pos (by rfl)]
          refine oper_append_dstN (.tmp 48) (.tmp 53) 24 24 rfl (F + 1) 58 i1 _ 3 40 Tryd.underlying24 hi1 hy0 hy1 hy2 rfl A j cp (itvs (ksK l B j)) rfl (.inr HG7.out.its) _ 1 (Ik.v ⟨N, 0, ⟨some ⟨B, 0, none⟩, 4096, 4096, l⟩⟩) rfl (HSQ.out.src Tryd.underlying24 (itv_one _)) (by omega) (by omega) (by have := HG7.out.fl; omega) ?_
          intro A9 c9 w9 h1 h2 h3 h4 h5 h6
          have HB9 := Lib.hid h4
          have HO9 := Lib.hid (h3 HG7.out.its)
          have HR9 := Lib.hid h5
          have hF7 := HG7.out.blk
          have hblk9 := (h4.block F (by omega)).trans hF7
          have hc9 : w9.cell? ⟨F, 8, none⟩ = some (.slice A j cp) := (by rw [cell_of_row w9 _ 8 _ _ _ hblk9]; rfl)
          have hf9 := frz_block (i := 8) hblk9
          clear h1 h2 h3 h4 h5 h6 hF7 hblk9
          refine hK.out _ _ ?_
          clear hK K
          try simp only [Act.put, List.setIfInBounds_toArray, List.set_cons_zero, List.set_cons_succ]
          refine wpAnyF_take0 (i := 8) (oi := { dst := some 55, op := Op.fieldAddr 26 (Operand.tmp 9) 8, type := 0, pos := "law.go:127", after := #[{ on := 0, ground := Ground.phase }, { on := 1, ground := Ground.phase }, { on := 2, ground := Ground.phase }, { on := 3, ground := Ground.phase }, { on := 4, ground := Ground.phase }, { on := 5, ground := Ground.phase }, { on := 6, ground := Ground.phase }, { on := 7, ground := Ground.phase }], guard := none }) (v := ?_) rfl (by kernel_rfl) (by kernel_rfl) (by kernel_rfl) (fun _ _ _ h => h) (Or.inl ⟨by rfl, ?_⟩) ?_
          rotate_left
          · intro w hSw; (try dsimp only at hSw); first | (go_simp; done) | (go_simp; with_reducible rfl)
          try simp only [Act.put, List.setIfInBounds_toArray, List.set_cons_zero, List.set_cons_succ]
          refine wpAnyF_oneF (i := 9) (o := { dst := none, op := Op.store 24 (Operand.tmp 55) (Operand.tmp 54), type := 0, pos := "law.go:127", after := #[{ on := 8, ground := Ground.data }, { on := 7, ground := Ground.data }, { on := 7, ground := Ground.chain }, { on := 0, ground := Ground.phase }, { on := 1, ground := Ground.phase }, { on := 2, ground := Ground.phase }, { on := 3, ground := Ground.phase }, { on := 4, ground := Ground.phase }, { on := 5, ground := Ground.phase }, { on := 6, ground := Ground.phase }, { on := 7, ground := Ground.phase }], guard := none }) (by kernel_rfl) (by kernel_rfl) rfl (fun K hK => ?_)
          go_simp
          skip
          try go_wp2_with fail
          refine hK.out _ _ ?_
          clear hK K
          try simp only [Act.put, List.setIfInBounds_toArray, List.set_cons_zero, List.set_cons_succ]
          refine wpAnyF_done (by kernel_rfl) ?_ _
          refine NoPanic.normal ?_
          have HGZ : Hid (Lg w (w9.setCell ⟨F, 8, none⟩ (.slice A9 (j + 1) c9)) F B (j + 1) A9 c9 l) := by
            have ho := HO9.out
            rw [HN.out] at ho
            exact HG7.out.more HB9.out HR9.out ho
          go_wp2
          go_roundg (gk - 1)
          case measure => have := HJ.out; omega
          case rel => exact ⟨j + 1, A9, c9, l, by have := HJ.out; omega, by rw [← HN.out], HGZ.out⟩
        · have hltI : ¬ (j : Int) < 15 := by omega
          obtain rfl : j = 15 := by have := HJ.out; omega
          clear HJ hlt
          obtain ⟨q0, q1, q2, q3, q4, q5, q6, q7, q8⟩ : wr.cell? ⟨F, 0, none⟩ = some (.int .u8 3) ∧ wr.cell? ⟨F, 1, none⟩ = some (.int .i64 0) ∧ wr.cell? ⟨F, 2, none⟩ = some (.int .u64 1) ∧ wr.cell? ⟨F, 3, none⟩ = some (.int .u64 0) ∧ wr.cell? ⟨F, 4, none⟩ = some (.int .u64 1) ∧ wr.cell? ⟨F, 5, none⟩ = some (.int .u64 0) ∧ wr.cell? ⟨F, 6, none⟩ = some (.int .u64 0) ∧ wr.cell? ⟨F, 7, none⟩ = some (.slice none 0 0) ∧ wr.cell? ⟨F, 8, none⟩ = some (.slice A 15 cp) := ⟨HG.out.cellAt 0, HG.out.cellAt 1, HG.out.cellAt 2, HG.out.cellAt 3, HG.out.cellAt 4, HG.out.cellAt 5, HG.out.cellAt 6, HG.out.cellAt 7, HG.out.cellAt 8⟩
          go_wp2_with fail
          have hce := encode_any wr (HT.out.below HG.out.bel) (fK l B 15 A cp) (HG.out.fr (by omega))
          rw [fK_m] at hce
          refine hce.mono ?_
          have hlen := mK_len HG.out.len 15 (by omega)
          rintro e w4 (⟨hn, _⟩ | ⟨_, hl, _⟩ | ⟨_, _, A8, n8, c8, rfl, ho8, hb8⟩)
          · exact absurd (mK_right HG.out.len 15 (by omega)) hn
          · omega
          have h8 : (n8 : Int) < 65507 := by have := (Sl.of_own ho8).len; omega
          have HG4 := Lib.hid (HG.out.on hb8)
          clear hce hlen ho8 hb8 HG q0 q1 q2 q3 q4 q5 q6 q7 q8
          go_upto_region 18 with fail
          have hc7 : w4.drew.cell? ⟨F, 8, none⟩ = some (.slice A 15 cp) := HG4.out.cellAt 8
          have HGd : Hid (Lg w w4.drew F B 15 A cp l) := HG4.out.on (below_drewN (Below.refl _ _) 1)
          refine wp_region_noPanic ?_
          refine wp_region_F (S := (fun w' => w'.cell? ⟨F, 8, none⟩ = some (.slice A 15 cp))) (F := (fun j => j == 5 || j == 7)) (by kernel_rfl) hc7 (fun hHeld => ?_)
          refine wpAnyF_take0 (i := 0) (oi := { dst := some 62, op := Op.fieldAddr 26 (Operand.tmp 9) 8, type := 0, pos := "law.go:130", after := #[], guard := none }) (v := ?_) rfl (by kernel_rfl) (by kernel_rfl) (by kernel_rfl) (fun _ _ _ h => h) (Or.inl ⟨by rfl, ?_⟩) ?_
          rotate_left
          · intro w hSw; (try dsimp only at hSw); first | (go_simp; done) | (go_simp; with_reducible rfl)
          try simp only [Act.put, List.setIfInBounds_toArray, List.set_cons_zero, List.set_cons_succ]
          refine wpAnyF_take (i := 1) (oi := { dst := some 63, op := Op.load 24 (Operand.tmp 62), type := 24, pos := "law.go:130", after := #[{ on := 0, ground := Ground.data }], guard := none }) (v := ?_) (fun j hj => by simp only [Bool.or_eq_true, beq_iff_eq] at hj; rcases hj with rfl | rfl <;> exact of_decide_eq_true (by kernel_rfl)) rfl (by kernel_rfl) (by kernel_rfl) (by kernel_rfl) (by kernel_rfl) (by kernel_rfl) (fun _ _ _ h => h) (Or.inl ⟨by rfl, ?_⟩) (by assumption) ?_
          rotate_left
          · intro w hSw; (try dsimp only at hSw); first | (go_simp; done) | (go_simp; with_reducible rfl)
          try simp only [Act.put, List.setIfInBounds_toArray, List.set_cons_zero, List.set_cons_succ]
          refine wpAnyF_take0 (i := 2) (oi := { dst := some 64, op := Op.move (Operand.tmp 10), type := 37, pos := "law.go:130", after := #[], guard := none }) (v := ?_) rfl (by kernel_rfl) (by kernel_rfl) (by kernel_rfl) (fun _ _ _ h => h) (Or.inl ⟨by rfl, ?_⟩) ?_
          rotate_left
          · intro w hSw; (try dsimp only at hSw); first | (go_simp; done) | (go_simp; with_reducible rfl)
          try simp only [Act.put, List.setIfInBounds_toArray, List.set_cons_zero, List.set_cons_succ]
          refine wpAnyF_one (i := 3) (o := { dst := some 65, op := Op.call { callee := Callee.value (Operand.func 25), args := #[Operand.const (Value.int IntKind.u64 16), Operand.tmp 64], argTypes := #[22, 37] }, type := 58, pos := "law.go:130", after := #[{ on := 2, ground := Ground.data }], guard := none }) (by kernel_rfl) rfl (fun K hK => ?_)
          go_simp
          go_at_call 25
          refine (item_any _ 16 (some ⟨B, 0, none⟩) 4096 4096).mono ?_
          rintro e w6 ⟨rfl, hb6⟩
          have HG6 := Lib.hid (HGd.out.on hb6)
          have hcA : w6.cell? ⟨F, 8, none⟩ = some (.slice A 15 cp) := HG6.out.cellAt 8
          clear hb6
          try go_wp2_with fail
          try clear hHeld
          refine hK.out _ _ (by first | exact hcA | exact hcB) (fun hHeld => ?_)
          clear hK K
          try simp only [Act.put, List.setIfInBounds_toArray, List.set_cons_zero, List.set_cons_succ]
          refine wpAnyF_one (i := 4) (o := { dst := some 66, op := Op.buildSlice 24 1 #[(0, Operand.tmp 65)], type := 24, pos := "law.go:130", after := #[{ on := 3, ground := Ground.data }], guard := none }) (by kernel_rfl) rfl (fun K hK => ?_)
          go_simp
          have HG7 := Lib.hid (HG6.out.on (below_box w6 (.cells #[.int .u64 16, .int .i64 0, .slice (some ⟨B, 0, none⟩) 4096 4096] 58)))
          have hcB : (w6.alloc (.cells #[.int .u64 16, .int .i64 0, .slice (some ⟨B, 0, none⟩) 4096 4096] 58)).cell? ⟨F, 8, none⟩ = some (.slice A 15 cp) := HG7.out.cellAt 8
          have HSQ : Hid (Sn (w6.alloc (.cells #[.int .u64 16, .int .i64 0, .slice (some ⟨B, 0, none⟩) 4096 4096] 58)) (w6.heap.size + 1) (some ⟨w6.heap.size, 0, none⟩) 1 1 3 (Ik.v ⟨15 + 1, 0, ⟨some ⟨B, 0, none⟩, 4096, 4096, l⟩⟩)) := lit_sn w6 58 (Ik.v ⟨15 + 1, 0, ⟨some ⟨B, 0, none⟩, 4096, 4096, l⟩⟩) 1 3 rfl (by unfold maxLen; omega)
          try go_wp2_with fail
          try clear hHeld
          refine hK.out _ _ (by first | exact hcA | exact hcB) (fun hHeld => ?_)
          clear hK K
          try simp only [Act.put, List.setIfInBounds_toArray, List.set_cons_zero, List.set_cons_succ]
          refine wpAnyF_oneF (i := 5) (o := { dst := some 67, op := Op.call { callee := Callee.builtin Builtin.append, args := #[Operand.tmp 63, Operand.tmp 66], argTypes := #[24, 24] }, type := 24, pos := "law.go:130", after := #[{ on := 1, ground := Ground.data }, { on := 4, ground := Ground.data }, { on := 3, ground := Ground.chain }], guard := none }) (by kernel_rfl) (by kernel_rfl) rfl (fun K hK => ?_)
          rw [if_pos (by rfl)]
          refine oper_append_dstN (.tmp 63) (.tmp 66) 24 24 rfl (F + 1) 58 i1 _ 3 40 Tryd.underlying24 hi1 hy0 hy1 hy2 rfl A 15 cp (itvs (ksK l B 15)) rfl (.inr HG7.out.its) _ 1 (Ik.v ⟨15 + 1, 0, ⟨some ⟨B, 0, none⟩, 4096, 4096, l⟩⟩) rfl (HSQ.out.src Tryd.underlying24 (itv_one _)) (by omega) (by omega) (by have := HG7.out.fl; omega) ?_
          intro A9 c9 w9 h1 h2 h3 h4 h5 h6
          have HB9 := Lib.hid h4
          have HO9 := Lib.hid (h3 HG7.out.its)
          have HR9 := Lib.hid h5
          have hF7 := HG7.out.blk
          have hblk9 := (h4.block F (by omega)).trans hF7
          have hc9 : w9.cell? ⟨F, 8, none⟩ = some (.slice A 15 cp) := (by rw [cell_of_row w9 _ 8 _ _ _ hblk9]; rfl)
          have hf9 := frz_block (i := 8) hblk9
          clear h1 h2 h3 h4 h5 h6 hF7 hblk9
          refine hK.out _ _ ?_
          clear hK K
          try simp only [Act.put, List.setIfInBounds_toArray, List.set_cons_zero, List.set_cons_succ]
          refine wpAnyF_take0 (i := 6) (oi := { dst := some 68, op := Op.fieldAddr 26 (Operand.tmp 9) 8, type := 0, pos := "law.go:130", after := #[{ on := 0, ground := Ground.phase }, { on := 1, ground := Ground.phase }, { on := 2, ground := Ground.phase }, { on := 3, ground := Ground.phase }, { on := 4, ground := Ground.phase }, { on := 5, ground := Ground.phase }], guard := none }) (v := ?_) rfl (by kernel_rfl) (by kernel_rfl) (by kernel_rfl) (fun _ _ _ h => h) (Or.inl ⟨by rfl, ?_⟩) ?_
          rotate_left
          · intro w hSw; (try dsimp only at hSw); first | (go_simp; done) | (go_simp; with_reducible rfl)
          try simp only [Act.put, List.setIfInBounds_toArray, List.set_cons_zero, List.set_cons_succ]
          refine wpAnyF_oneF (i := 7) (o := { dst := none, op := Op.store 24 (Operand.tmp 68) (Operand.tmp 67), type := 0, pos := "law.go:130", after := #[{ on := 6, ground := Ground.data }, { on := 5, ground := Ground.data }, { on := 5, ground := Ground.chain }, { on := 0, ground := Ground.phase }, { on := 1, ground := Ground.phase }, { on := 2, ground := Ground.phase }, { on := 3, ground := Ground.phase }, { on := 4, ground := Ground.phase }, { on := 5, ground := Ground.phase }], guard := none }) (by kernel_rfl) (by kernel_rfl) rfl (fun K hK => ?_)
          go_simp
          skip
          try go_wp2_with fail
          refine hK.out _ _ ?_
          clear hK K
          try simp only [Act.put, List.setIfInBounds_toArray, List.set_cons_zero, List.set_cons_succ]
          refine wpAnyF_done (by kernel_rfl) ?_ _
          refine NoPanic.normal ?_
          have HGZ : Hid (Lg w (w9.setCell ⟨F, 8, none⟩ (.slice A9 16 c9)) F B 16 A9 c9 l) := HG7.out.more HB9.out HR9.out HO9.out
          clear hc7 HGd HG6 HG7 hcA hcB HSQ HB9 HO9 HR9 HG4
          obtain ⟨q0, q1, q2, q3, q4, q5, q6, q7, q8⟩ : (w9.setCell ⟨F, 8, none⟩ (.slice A9 16 c9)).cell? ⟨F, 0, none⟩ = some (.int .u8 3) ∧ (w9.setCell ⟨F, 8, none⟩ (.slice A9 16 c9)).cell? ⟨F, 1, none⟩ = some (.int .i64 0) ∧ (w9.setCell ⟨F, 8, none⟩ (.slice A9 16 c9)).cell? ⟨F, 2, none⟩ = some (.int .u64 1) ∧ (w9.setCell ⟨F, 8, none⟩ (.slice A9 16 c9)).cell? ⟨F, 3, none⟩ = some (.int .u64 0) ∧ (w9.setCell ⟨F, 8, none⟩ (.slice A9 16 c9)).cell? ⟨F, 4, none⟩ = some (.int .u64 1) ∧ (w9.setCell ⟨F, 8, none⟩ (.slice A9 16 c9)).cell? ⟨F, 5, none⟩ = some (.int .u64 0) ∧ (w9.setCell ⟨F, 8, none⟩ (.slice A9 16 c9)).cell? ⟨F, 6, none⟩ = some (.int .u64 0) ∧ (w9.setCell ⟨F, 8, none⟩ (.slice A9 16 c9)).cell? ⟨F, 7, none⟩ = some (.slice none 0 0) ∧ (w9.setCell ⟨F, 8, none⟩ (.slice A9 16 c9)).cell? ⟨F, 8, none⟩ = some (.slice A9 16 c9) := ⟨HGZ.out.cellAt 0, HGZ.out.cellAt 1, HGZ.out.cellAt 2, HGZ.out.cellAt 3, HGZ.out.cellAt 4, HGZ.out.cellAt 5, HGZ.out.cellAt 6, HGZ.out.cellAt 7, HGZ.out.cellAt 8⟩
          generalize (w9.setCell ⟨F, 8, none⟩ (.slice A9 16 c9)) = wy at *
          go_wp2_with fail
          have hce := encode_any wy (HT.out.below HGZ.out.bel) (fK l B 16 A9 c9) (HGZ.out.fr (by omega))
          rw [fK_m] at hce
          refine hce.mono ?_
          have hlen := mK_len HGZ.out.len 16 (by omega)
          rintro e wv (⟨hn, _⟩ | ⟨_, _, rfl, hb8⟩ | ⟨_, hl, _⟩)
          · exact absurd (mK_right HGZ.out.len 16 (by omega)) hn
          · have HBV := Lib.hid (HGZ.out.on hb8).bel
            clear hce hlen hb8 HGZ q0 q1 q2 q3 q4 q5 q6 q7 q8
            go_wp2_with fail
            refine (name4_any wv).mono ?_
            rintro e wv4 ⟨rfl, hb⟩
            have HBV4 := Lib.hid (HBV.out.trans (hb.mono HBV.out.size))
            clear hb HBV
            go_wp2_with fail
            refine (nameNo_any wv4 5 (by omega)).mono ?_
            rintro e wv5 ⟨rfl, hb⟩
            have HBV5 := Lib.hid (HBV4.out.trans (hb.mono HBV4.out.size))
            clear hb HBV4
            go_wp2_with fail
            refine (nameNo_any wv5 0 (by omega)).mono ?_
            rintro e wv6 ⟨rfl, hb⟩
            have HBV6 := Lib.hid (HBV5.out.trans (hb.mono HBV5.out.size))
            clear hb HBV5
            go_wp2
            go_ret
            exact ⟨rfl, HBV6.out⟩
          · omega
end Go.Proofs.YtlkcnpmgafckoaaDoor
