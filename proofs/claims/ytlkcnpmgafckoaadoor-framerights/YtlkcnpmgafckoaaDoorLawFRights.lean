/-
  THE WALK of the law FrameRights: where the table is as the program's text lays it, it returns true, whatever the frame, and turns nothing that was there.
-/
import Derived.Test.YtlkcnpmgafckoaaDoorFrameAwake
import Derived.Test.YtlkcnpmgafckoaaDoorFrameSame
import Derived.Test.YtlkcnpmgafckoaaDoorFrameOwn
import Derived.Test.YtlkcnpmgafckoaaDoorRefRight
namespace Go.Proofs.YtlkcnpmgafckoaaDoor
open Go.RowKit

theorem few_small {w : World} {f : Fv} (h : FrAt w f) : f.few.nr ≤ 40 ∧ f.few.ni ≤ 70 := by
  unfold Fv.few
  have := h.rs.len
  exact ⟨Nat.min_le_right _ _, Nat.min_le_right _ _⟩
set_option maxRecDepth 100000 in
set_option maxHeartbeats 2000000 in
theorem frameRights_law (w : World) (ht : TabAt w) (f : Fv) (h : FrAt w f) :
    Calls Tryd.prog 3 #[f.v] w (Yes w) := by
  have HT := Lib.hid ht
  have HF := Lib.hid h
  have HV : Hid (f.v = .agg #[.int .u8 (f.kd : Int), .int .i64 f.ag, .int .u64 (f.ep : Int), .int .u64 (f.ic : Int), .int .u64 (f.ba : Int), .int .u64 (f.cu : Int), .int .u64 (f.li : Int), .slice f.Ar f.nr f.cr, .slice f.Ai f.ni f.ci]) := rfl
  rw [HV.out]
  clear ht h
  go_enter Tryd.func3, Tryd.ntmps3
  go_wp2_with fail
  refine (awake5_any _ (HT.out.alloc _)).mono ?_
  rintro e w1 ⟨rfl, hbel⟩
  have hb1 : Below w.heap.size w w1 := (below_box w f.box).trans (hbel.mono (by simp))
  have hblk := (hbel.block w.heap.size (by simp)).trans (heap_alloc_new w f.box)
  have hz1 : w.heap.size < w1.heap.size := Nat.lt_of_lt_of_le (by simp) hbel.size
  have q : ∀ i, w1.cell? ⟨w.heap.size, i, none⟩ = (#[Value.int .u8 (f.kd : Int), .int .i64 f.ag, .int .u64 (f.ep : Int), .int .u64 (f.ic : Int), .int .u64 (f.ba : Int), .int .u64 (f.cu : Int), .int .u64 (f.li : Int), .slice f.Ar f.nr f.cr, .slice f.Ai f.ni f.ci] : Array Value)[i]? := fun i => cell_of_row w1 _ i _ _ _ hblk
  have HB1 := Lib.hid hb1
  clear hbel hb1
  go_wp2_with fail
  have hc := few_any w1 f (HF.out.on HB1.out)
  rw [HV.out] at hc
  refine hc.mono ?_
  rintro e w2 ⟨rfl, hb2⟩
  have HSM := Lib.hid (few_small HF.out)
  have HF2 := Lib.hid HF.out.few
  obtain ⟨k, hk⟩ : ∃ k, k = f.few := ⟨_, rfl⟩
  rw [← hk] at HSM HF2 ⊢
  have HVK : Hid (k.v = .agg #[.int .u8 (k.kd : Int), .int .i64 k.ag, .int .u64 (k.ep : Int), .int .u64 (k.ic : Int), .int .u64 (k.ba : Int), .int .u64 (k.cu : Int), .int .u64 (k.li : Int), .slice k.Ar k.nr k.cr, .slice k.Ai k.ni k.ci]) := rfl
  have HRK : Hid (k.r = k.r) := rfl
  rw [HVK.out]
  have hblk2 := (hb2.block w.heap.size hz1).trans hblk
  have r : ∀ i, w2.cell? ⟨w.heap.size, i, none⟩ = (#[Value.int .u8 (f.kd : Int), .int .i64 f.ag, .int .u64 (f.ep : Int), .int .u64 (f.ic : Int), .int .u64 (f.ba : Int), .int .u64 (f.cu : Int), .int .u64 (f.li : Int), .slice f.Ar f.nr f.cr, .slice f.Ai f.ni f.ci] : Array Value)[i]? := fun i => cell_of_row w2 _ i _ _ _ hblk2
  have r0 : w2.cell? ⟨w.heap.size, 0, none⟩ = some (.int .u8 (f.kd : Int)) := r 0
  have f0 := frz_block (i := 0) hblk2
  have r1 : w2.cell? ⟨w.heap.size, 1, none⟩ = some (.int .i64 f.ag) := r 1
  have f1 := frz_block (i := 1) hblk2
  have r2 : w2.cell? ⟨w.heap.size, 2, none⟩ = some (.int .u64 (f.ep : Int)) := r 2
  have f2 := frz_block (i := 2) hblk2
  have r3 : w2.cell? ⟨w.heap.size, 3, none⟩ = some (.int .u64 (f.ic : Int)) := r 3
  have f3 := frz_block (i := 3) hblk2
  have r4 : w2.cell? ⟨w.heap.size, 4, none⟩ = some (.int .u64 (f.ba : Int)) := r 4
  have f4 := frz_block (i := 4) hblk2
  have r5 : w2.cell? ⟨w.heap.size, 5, none⟩ = some (.int .u64 (f.cu : Int)) := r 5
  have f5 := frz_block (i := 5) hblk2
  have r6 : w2.cell? ⟨w.heap.size, 6, none⟩ = some (.int .u64 (f.li : Int)) := r 6
  have f6 := frz_block (i := 6) hblk2
  have r7 : w2.cell? ⟨w.heap.size, 7, none⟩ = some (.slice f.Ar f.nr f.cr) := r 7
  have f7 := frz_block (i := 7) hblk2
  have r8 : w2.cell? ⟨w.heap.size, 8, none⟩ = some (.slice f.Ai f.ni f.ci) := r 8
  have f8 := frz_block (i := 8) hblk2
  have HB2 := Lib.hid (HB1.out.trans (hb2.mono HB1.out.size))
  have HB9 := Lib.hid (set9_heap (.int .u8 (k.kd : Int)) (.int .i64 k.ag) (.int .u64 (k.ep : Int)) (.int .u64 (k.ic : Int)) (.int .u64 (k.ba : Int)) (.int .u64 (k.cu : Int)) (.int .u64 (k.li : Int)) (.slice k.Ar k.nr k.cr) (.slice k.Ai k.ni k.ci) hblk2)
  have HBW := Lib.hid (set9_below (r := w.heap.size) (.int .u8 (k.kd : Int)) (.int .i64 k.ag) (.int .u64 (k.ep : Int)) (.int .u64 (k.ic : Int)) (.int .u64 (k.ba : Int)) (.int .u64 (k.cu : Int)) (.int .u64 (k.li : Int)) (.slice k.Ar k.nr k.cr) (.slice k.Ai k.ni k.ci) HB2.out (Nat.le_refl _))
  clear hc hb2 q r hblk hblk2 hz1 hk
  go_wp2_with fail
  change Code.wp _ _ _ _ (set9 w2 w.heap.size (.int .u8 (k.kd : Int)) (.int .i64 k.ag) (.int .u64 (k.ep : Int)) (.int .u64 (k.ic : Int)) (.int .u64 (k.ba : Int)) (.int .u64 (k.cu : Int)) (.int .u64 (k.li : Int)) (.slice k.Ar k.nr k.cr) (.slice k.Ai k.ni k.ci))
  generalize set9 w2 w.heap.size (.int .u8 (k.kd : Int)) (.int .i64 k.ag) (.int .u64 (k.ep : Int)) (.int .u64 (k.ic : Int)) (.int .u64 (k.ba : Int)) (.int .u64 (k.cu : Int)) (.int .u64 (k.li : Int)) (.slice k.Ar k.nr k.cr) (.slice k.Ai k.ni k.ci) = w3 at *
  obtain ⟨g, hg⟩ : ∃ g, g = w.heap.size := ⟨_, rfl⟩
  have hE : Ever (fun w' => (w'.cell? ⟨g, 0, none⟩ = some (.int .u8 (k.kd : Int)) ∧ w'.cell? ⟨g, 1, none⟩ = some (.int .i64 k.ag) ∧ w'.cell? ⟨g, 2, none⟩ = some (.int .u64 (k.ep : Int)) ∧ w'.cell? ⟨g, 3, none⟩ = some (.int .u64 (k.ic : Int)) ∧ w'.cell? ⟨g, 4, none⟩ = some (.int .u64 (k.ba : Int)) ∧ w'.cell? ⟨g, 5, none⟩ = some (.int .u64 (k.cu : Int)) ∧ w'.cell? ⟨g, 6, none⟩ = some (.int .u64 (k.li : Int)) ∧ w'.cell? ⟨g, 7, none⟩ = some (.slice k.Ar k.nr k.cr) ∧ w'.cell? ⟨g, 8, none⟩ = some (.slice k.Ai k.ni k.ci)) ∧ FrAt w' k ∧ Below w.heap.size w w') w3 := by
    intro w' hw
    have hz3 : w.heap.size < w3.heap.size := (Array.getElem?_eq_some_iff.1 HB9.out).1
    have hbk := (hw.block w.heap.size hz3).trans HB9.out
    have hbb : Below w.heap.size w w' := HBW.out.trans (hw.mono HBW.out.size)
    rw [hg]
    exact ⟨⟨by rw [cell_of_row w' _ 0 _ _ _ hbk]; rfl, by rw [cell_of_row w' _ 1 _ _ _ hbk]; rfl, by rw [cell_of_row w' _ 2 _ _ _ hbk]; rfl, by rw [cell_of_row w' _ 3 _ _ _ hbk]; rfl, by rw [cell_of_row w' _ 4 _ _ _ hbk]; rfl, by rw [cell_of_row w' _ 5 _ _ _ hbk]; rfl, by rw [cell_of_row w' _ 6 _ _ _ hbk]; rfl, by rw [cell_of_row w' _ 7 _ _ _ hbk]; rfl, by rw [cell_of_row w' _ 8 _ _ _ hbk]; rfl⟩, HF2.out.on hbb, hbb⟩
  rw [← hg]
  have HG := Lib.hid hg
  clear hg r0 r1 r2 r3 r4 r5 r6 r7 r8 f0 f1 f2 f3 f4 f5 f6 f7 f8
  obtain ⟨Ps, HP⟩ : ∃ Ps : World → Prop, Hid (Ps = fun w' => (w'.cell? ⟨g, 0, none⟩ = some (.int .u8 (k.kd : Int)) ∧ w'.cell? ⟨g, 1, none⟩ = some (.int .i64 k.ag) ∧ w'.cell? ⟨g, 2, none⟩ = some (.int .u64 (k.ep : Int)) ∧ w'.cell? ⟨g, 3, none⟩ = some (.int .u64 (k.ic : Int)) ∧ w'.cell? ⟨g, 4, none⟩ = some (.int .u64 (k.ba : Int)) ∧ w'.cell? ⟨g, 5, none⟩ = some (.int .u64 (k.cu : Int)) ∧ w'.cell? ⟨g, 6, none⟩ = some (.int .u64 (k.li : Int)) ∧ w'.cell? ⟨g, 7, none⟩ = some (.slice k.Ar k.nr k.cr) ∧ w'.cell? ⟨g, 8, none⟩ = some (.slice k.Ai k.ni k.ci)) ∧ FrAt w' k ∧ Below w.heap.size w w') := ⟨_, rfl⟩
  have HN : Hid (∀ w', Ps w' → (w'.cell? ⟨g, 0, none⟩ = some (.int .u8 (k.kd : Int)) ∧ w'.cell? ⟨g, 1, none⟩ = some (.int .i64 k.ag) ∧ w'.cell? ⟨g, 2, none⟩ = some (.int .u64 (k.ep : Int)) ∧ w'.cell? ⟨g, 3, none⟩ = some (.int .u64 (k.ic : Int)) ∧ w'.cell? ⟨g, 4, none⟩ = some (.int .u64 (k.ba : Int)) ∧ w'.cell? ⟨g, 5, none⟩ = some (.int .u64 (k.cu : Int)) ∧ w'.cell? ⟨g, 6, none⟩ = some (.int .u64 (k.li : Int)) ∧ w'.cell? ⟨g, 7, none⟩ = some (.slice k.Ar k.nr k.cr) ∧ w'.cell? ⟨g, 8, none⟩ = some (.slice k.Ai k.ni k.ci)) ∧ FrAt w' k ∧ Below w.heap.size w w') := by rw [HP.out]; exact fun _ h => h
  replace hE : Ever Ps w3 := by rw [HP.out]; exact hE
  clear HP
  have hE2 := hE.drewN 1
  clear hE
  refine wp_region_noPanic ?_
  refine wp_region_held_drew (S := (fun w' => (w'.cell? ⟨g, 0, none⟩ = some (.int .u8 (k.kd : Int)) ∧ w'.cell? ⟨g, 1, none⟩ = some (.int .i64 k.ag) ∧ w'.cell? ⟨g, 2, none⟩ = some (.int .u64 (k.ep : Int)) ∧ w'.cell? ⟨g, 3, none⟩ = some (.int .u64 (k.ic : Int)) ∧ w'.cell? ⟨g, 4, none⟩ = some (.int .u64 (k.ba : Int)) ∧ w'.cell? ⟨g, 5, none⟩ = some (.int .u64 (k.cu : Int)) ∧ w'.cell? ⟨g, 6, none⟩ = some (.int .u64 (k.li : Int)) ∧ w'.cell? ⟨g, 7, none⟩ = some (.slice k.Ar k.nr k.cr) ∧ w'.cell? ⟨g, 8, none⟩ = some (.slice k.Ai k.ni k.ci)) ∧ Ever Ps w')) (by kernel_rfl) ⟨(HN.out _ hE2.now).1, hE2⟩ (fun hHeld => ?_)
  refine wpAnyH_take (i := 0) (oi := { dst := some 7, op := Op.load 26 (Operand.tmp 1), type := 26, pos := "law.go:44", after := #[], guard := none }) (v := ?_) rfl (by kernel_rfl) (by kernel_rfl) (by kernel_rfl) (fun _ _ _ h => h) (Or.inl ⟨by rfl, ?_⟩) (by assumption) ?_
  rotate_left
  · intro w hSw; (try dsimp only at hSw); first | (go_simp; done) | (go_simp; with_reducible rfl)
  try simp only [Act.put, List.setIfInBounds_toArray, List.set_cons_zero, List.set_cons_succ]
  refine wpAnyH_take (i := 2) (oi := { dst := some 9, op := Op.load 26 (Operand.tmp 1), type := 26, pos := "law.go:44", after := #[], guard := none }) (v := ?_) rfl (by kernel_rfl) (by kernel_rfl) (by kernel_rfl) (fun _ _ _ h => h) (Or.inl ⟨by rfl, ?_⟩) (by assumption) ?_
  rotate_left
  · intro w hSw; (try dsimp only at hSw); first | (go_simp; done) | (go_simp; with_reducible rfl)
  try simp only [Act.put, List.setIfInBounds_toArray, List.set_cons_zero, List.set_cons_succ]
  refine wpAnyH_ready (rs := [1]) (by kernel_rfl) (by simp) ?_
  refine AllReadyH.cons (o := { dst := some 8, op := Op.call { callee := Callee.value (Operand.func 12), args := #[Operand.tmp 7], argTypes := #[26] }, type := 4, pos := "law.go:44", after := #[{ on := 0, ground := Ground.data }], guard := none }) rfl (fun K hK => ?_) AllReadyH.nil
  go_simp
  go_at_call 12
  have hcr := rightF_any _ k (HN.out _ hE2.now).2.1
  rw [HVK.out] at hcr
  refine hcr.mono ?_
  rintro e wa ⟨rfl, hba⟩
  replace hE2 := hE2.next hba
  clear hba hcr
  go_wp2_with fail
  clear hHeld
  refine hK.out _ _ ⟨(HN.out _ hE2.now).1, hE2⟩ (fun hHeld => ?_)
  clear hK K
  try simp only [Act.put, List.setIfInBounds_toArray, List.set_cons_zero, List.set_cons_succ]
  refine wpAnyH_ready (rs := [3]) (by kernel_rfl) (by simp) ?_
  refine AllReadyH.cons (o := { dst := some 10, op := Op.call { callee := Callee.value (Operand.func 14), args := #[Operand.tmp 9], argTypes := #[26] }, type := 33, pos := "law.go:44", after := #[{ on := 2, ground := Ground.data }, { on := 1, ground := Ground.chain }], guard := none }) rfl (fun K hK => ?_) AllReadyH.nil
  go_simp
  go_at_call 14
  have hco := own_any _ k (HN.out _ hE2.now).2.1 HSM.out.1 HSM.out.2
  rw [HVK.out] at hco
  refine hco.mono ?_
  rintro e wo ⟨k', rfl, hfo, hmo, hno, hio, hbo⟩
  replace hE2 := hE2.next hbo
  clear hbo hco
  go_wp2_with fail
  clear hHeld
  refine hK.out _ _ ⟨(HN.out _ hE2.now).1, hE2⟩ (fun hHeld => ?_)
  clear hK K
  try simp only [Act.put, List.setIfInBounds_toArray, List.set_cons_zero, List.set_cons_succ]
  refine wpAnyH_ready (rs := [4]) (by kernel_rfl) (by simp) ?_
  refine AllReadyH.cons (o := { dst := some 11, op := Op.call { callee := Callee.value (Operand.func 13), args := #[Operand.tmp 10], argTypes := #[33] }, type := 4, pos := "law.go:44", after := #[{ on := 3, ground := Ground.data }, { on := 3, ground := Ground.chain }], guard := none }) rfl (fun K hK => ?_) AllReadyH.nil
  go_simp
  go_at_call 13
  refine (refRightF_any _ k' hfo (by rw [hno]; exact HSM.out.1) (by rw [hio]; exact HSM.out.2)).mono ?_
  rintro e wr ⟨rfl, hbr⟩
  rw [hmo]
  replace hE2 := hE2.next hbr
  have hbeq : (decP (RightP k.m) == decP (RightP k.m)) = true := by simp
  clear hbr hfo hmo hno hio
  go_wp2_with fail
  clear hHeld
  refine hK.out _ _ ⟨(HN.out _ hE2.now).1, hE2⟩ (fun hHeld => ?_)
  clear hK K
  try simp only [Act.put, List.setIfInBounds_toArray, List.set_cons_zero, List.set_cons_succ]
  refine wpAnyH_take (i := 5) (oi := { dst := some 12, op := Op.binOp BinOp.eql 4 (Operand.tmp 8) (Operand.tmp 11) 4, type := 4, pos := "law.go:44", after := #[{ on := 1, ground := Ground.data }, { on := 4, ground := Ground.data }], guard := none }) (v := ?_) rfl (by kernel_rfl) (by kernel_rfl) (by kernel_rfl) (fun _ _ _ h => h) (Or.inl ⟨by rfl, ?_⟩) (by assumption) ?_
  rotate_left
  · intro w hSw; (try dsimp only at hSw); first | (go_simp; done) | (go_simp; with_reducible rfl)
  try simp only [Act.put, List.setIfInBounds_toArray, List.set_cons_zero, List.set_cons_succ]
  refine wpAnyH_take (i := 6) (oi := { dst := some 13, op := Op.move (Operand.tmp 12), type := 4, pos := "law.go:44", after := #[{ on := 5, ground := Ground.data }, { on := 4, ground := Ground.chain }], guard := none }) (v := ?_) rfl (by kernel_rfl) (by kernel_rfl) (by kernel_rfl) (fun _ _ _ h => h) (Or.inl ⟨by rfl, ?_⟩) (by assumption) ?_
  rotate_left
  · intro w hSw; (try dsimp only at hSw); first | (go_simp; done) | (go_simp; with_reducible rfl)
  try simp only [Act.put, List.setIfInBounds_toArray, List.set_cons_zero, List.set_cons_succ]
  refine wpAnyH_take (i := 7) (oi := { dst := some 14, op := Op.load 26 (Operand.tmp 1), type := 26, pos := "law.go:44", after := #[{ on := 6, ground := Ground.guard }], guard := some (6, true) }) (v := ?_) rfl (by kernel_rfl) (by kernel_rfl) (by kernel_rfl) (fun _ _ _ h => h) (Or.inl ⟨by rfl, ?_⟩) (by assumption) ?_
  rotate_left
  · intro w hSw; (try dsimp only at hSw); first | (go_simp; done) | (go_simp; with_reducible rfl)
  try simp only [Act.put, List.setIfInBounds_toArray, List.set_cons_zero, List.set_cons_succ]
  refine wpAnyH_take (i := 8) (oi := { dst := some 15, op := Op.load 26 (Operand.tmp 1), type := 26, pos := "law.go:44", after := #[{ on := 6, ground := Ground.guard }], guard := some (6, true) }) (v := ?_) rfl (by kernel_rfl) (by kernel_rfl) (by kernel_rfl) (fun _ _ _ h => h) (Or.inl ⟨by rfl, ?_⟩) (by assumption) ?_
  rotate_left
  · intro w hSw; (try dsimp only at hSw); first | (go_simp; done) | (go_simp; with_reducible rfl)
  try simp only [Act.put, List.setIfInBounds_toArray, List.set_cons_zero, List.set_cons_succ]
  refine wpAnyH_ready (rs := [9]) (by kernel_rfl) (by simp) ?_
  refine AllReadyH.cons (o := { dst := some 16, op := Op.call { callee := Callee.value (Operand.func 15), args := #[Operand.tmp 14, Operand.tmp 15], argTypes := #[26, 26] }, type := 4, pos := "law.go:44", after := #[{ on := 7, ground := Ground.data }, { on := 8, ground := Ground.data }, { on := 6, ground := Ground.chain }, { on := 6, ground := Ground.guard }], guard := some (6, true) }) rfl (fun K hK => ?_) AllReadyH.nil
  go_simp
  go_at_call 15
  have hcs := sameF_any _ k k (HN.out _ hE2.now).2.1 (HN.out _ hE2.now).2.1
  rw [decP_yes rfl, HVK.out] at hcs
  refine hcs.mono ?_
  rintro e ws ⟨rfl, hbs⟩
  replace hE2 := hE2.next hbs
  clear hbs hcs
  go_wp2_with fail
  clear hHeld
  refine hK.out _ _ ⟨(HN.out _ hE2.now).1, hE2⟩ (fun hHeld => ?_)
  clear hK K
  try simp only [Act.put, List.setIfInBounds_toArray, List.set_cons_zero, List.set_cons_succ]
  refine wpAnyH_take (i := 10) (oi := { dst := some 17, op := Op.pick (Operand.tmp 13) (Operand.tmp 16) (Operand.const (Value.bool false)), type := 4, pos := "law.go:44", after := #[{ on := 6, ground := Ground.data }, { on := 9, ground := Ground.data }], guard := none }) (v := ?_) rfl (by kernel_rfl) (by kernel_rfl) (by kernel_rfl) (fun _ _ _ h => h) (Or.inl ⟨by rfl, ?_⟩) (by assumption) ?_
  rotate_left
  · intro w hSw; (try dsimp only at hSw); first | (go_simp; done) | (go_simp; with_reducible rfl)
  try simp only [Act.put, List.setIfInBounds_toArray, List.set_cons_zero, List.set_cons_succ]
  refine wpAnyH_take (i := 11) (oi := { dst := some 2, op := Op.assign (Operand.tmp 17), type := 4, pos := "law.go:44", after := #[{ on := 10, ground := Ground.data }, { on := 9, ground := Ground.chain }, { on := 0, ground := Ground.phase }, { on := 1, ground := Ground.phase }, { on := 2, ground := Ground.phase }, { on := 3, ground := Ground.phase }, { on := 4, ground := Ground.phase }, { on := 5, ground := Ground.phase }, { on := 6, ground := Ground.phase }, { on := 7, ground := Ground.phase }, { on := 8, ground := Ground.phase }, { on := 9, ground := Ground.phase }, { on := 10, ground := Ground.phase }], guard := none }) (v := ?_) rfl (by kernel_rfl) (by kernel_rfl) (by kernel_rfl) (fun _ _ _ h => h) (Or.inl ⟨by rfl, ?_⟩) (by assumption) ?_
  rotate_left
  · intro w hSw; (try dsimp only at hSw); first | (go_simp; done) | (go_simp; with_reducible rfl)
  try simp only [Act.put, List.setIfInBounds_toArray, List.set_cons_zero, List.set_cons_succ]
  refine wpAnyH_done (by kernel_rfl) ?_ _
  refine NoPanic.normal ?_
  have HBB := Lib.hid (HN.out _ hE2.now).2.2
  clear hE2
  go_wp2
  go_ret
  exact ⟨rfl, HBB.out⟩
end Go.Proofs.YtlkcnpmgafckoaaDoor
