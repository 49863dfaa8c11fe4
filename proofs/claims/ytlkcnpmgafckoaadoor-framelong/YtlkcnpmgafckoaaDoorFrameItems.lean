/-
  CONTRACT of layer 5: a frame's items are judged.
  No statement is proved here.
-/
import Derived.Test.YtlkcnpmgafckoaaDoorFrameOne
namespace Go.Proofs.YtlkcnpmgafckoaaDoor
open Go.RowKit

def ItemsRel (w : World) (ba ni : Nat) (its : List It) (gk : Nat) (i : Value) (wr : World) : Prop :=
  ∃ j : Nat, gk + j = ni ∧ i = .int .i64 (j : Int) ∧ (∀ t x, t < j → its[t]? = some x → ItemOk ba its t x) ∧ Below w.heap.size w wr
theorem items_no {m : Fm} {its : List It} {ba j : Nat} {x : It} (e : m.its = its ∧ m.ba = ba) (hx : its[j]? = some x) (hn : ¬ ItemOk ba its j x) : ¬ ItemsP m := fun h => by
  have h1 := h.2 j x (by rw [e.1]; exact hx)
  rw [e.1, e.2] at h1
  exact hn h1

set_option maxRecDepth 100000 in
set_option maxHeartbeats 2000000 in
theorem rightItems_any (w : World) (f : Fv) (h : FrAt w f) :
    Calls Tryd.prog 79 #[f.v] w (Says w (.bool (decP (ItemsP f.m)))) := by
  obtain ⟨mm, HMM⟩ : ∃ mm, Hid (mm = f.m) := ⟨_, rfl⟩
  obtain ⟨b, HB⟩ : ∃ b, Hid (b = decP (ItemsP mm)) := ⟨_, rfl⟩
  rw [← HMM.out, ← HB.out]
  obtain ⟨kd, ag, ep, ic, ba, cu, li, Ar, nr, cr, L, Ai, ni, ci, ks⟩ := f
  have hit : Itms w w.heap.size Ai ni ci ks := h.it
  have hba : ba < two64 := h.ba
  clear h
  unfold two64 at hba
  unfold Fv.v
  dsimp only
  obtain ⟨its, hits⟩ : ∃ its, its = ks.map Ik.it := ⟨_, rfl⟩
  have HM : Hid (mm.its = its ∧ mm.ba = ba) := by have e := HMM.out; subst e; exact ⟨hits.symm, rfl⟩
  have HL : Hid (its.length = ni) := by show _ = _; rw [hits, List.length_map, hit.len]
  have HIE := Lib.hid hits
  have hmx := hit.max
  have hle := hit.le
  unfold maxLen at hmx
  have HI := Lib.hid hit
  clear HMM hits hit
  by_cases h64 : 64 < ni
  · have h64I : (64 : Int) < (ni : Int) := by omega
    have H64 := Lib.hid h64; clear h64
    go_enter Tryd.func79, Tryd.ntmps79
    go_wp2
    go_ret
    refine ⟨ret_b ?_, below_box w _⟩
    rw [HB.out, decP_no]
    intro e
    have e1 := e.1
    rw [HM.out.1, HL.out] at e1
    have := H64.out
    omega
  have h64I : ¬ (64 : Int) < (ni : Int) := by omega
  have H64 := Lib.hid h64; clear h64
  go_enter Tryd.func79, Tryd.ntmps79
  go_wp2
  have hbx := below_box w (.cells #[.int .u8 (kd : Int), .int .i64 ag, .int .u64 (ep : Int), .int .u64 (ic : Int), .int .u64 (ba : Int), .int .u64 (cu : Int), .int .u64 (li : Int), .slice Ar nr cr, .slice Ai ni ci] 26)
  have hblk := heap_alloc_new w (.cells #[.int .u8 (kd : Int), .int .i64 ag, .int .u64 (ep : Int), .int .u64 (ic : Int), .int .u64 (ba : Int), .int .u64 (cu : Int), .int .u64 (li : Int), .slice Ar nr cr, .slice Ai ni ci] 26)
  have hzb : w.heap.size < (w.alloc (.cells #[.int .u8 (kd : Int), .int .i64 ag, .int .u64 (ep : Int), .int .u64 (ic : Int), .int .u64 (ba : Int), .int .u64 (cu : Int), .int .u64 (li : Int), .slice Ar nr cr, .slice Ai ni ci] 26)).heap.size := by simp
  generalize w.alloc (.cells #[.int .u8 (kd : Int), .int .i64 ag, .int .u64 (ep : Int), .int .u64 (ic : Int), .int .u64 (ba : Int), .int .u64 (cu : Int), .int .u64 (li : Int), .slice Ar nr cr, .slice Ai ni ci] 26) = wb at *
  have q4 : wb.cell? ⟨w.heap.size, 4, none⟩ = some (.int .u64 (ba : Int)) := by rw [cell_of_row wb _ 4 _ _ _ hblk]; rfl
  have q8 : wb.cell? ⟨w.heap.size, 8, none⟩ = some (.slice Ai ni ci) := by rw [cell_of_row wb _ 8 _ _ _ hblk]; rfl
  clear hblk
  go_loopg [12] ni (fun gk i wr => ItemsRel wb ba ni its gk i wr)
  case atStart => exact ⟨0, by omega, rfl, fun t x ht => absurd ht (by omega), Below.refl _ _⟩
  case round =>
    obtain ⟨j, hj, rfl, hok, hbr⟩ := hrel
    have HJ := Lib.hid hj
    have HOK := Lib.hid hok
    clear hj hok
    by_cases hlt : j < ni
    · obtain ⟨bb, o, k, rfl, hbb, hk, c0, c1, c2, hsl, hkN⟩ := HI.out.at_ hlt
      have HX : Hid (its[j]? = some k.it) := by show _ = _; rw [HIE.out, List.getElem?_map, hk]; rfl
      have hbw : Below w.heap.size w wr := hbx.trans (hbr.mono (Nat.le_of_lt hzb))
      have d0 := (hbw.cell (p := ⟨bb, o + j * 3, none⟩) hbb).trans c0
      have d1 := (hbw.cell (p := ⟨bb, o + j * 3 + 1, none⟩) hbb).trans c1
      have d2 := (hbw.cell (p := ⟨bb, o + j * 3 + 2, none⟩) hbb).trans c2
      have e4 := (hbr.cell (p := ⟨w.heap.size, 4, none⟩) hzb).trans q4
      have e8 := (hbr.cell (p := ⟨w.heap.size, 8, none⟩) hzb).trans q8
      have hgz : w.heap.size < wr.heap.size := Nat.lt_of_lt_of_le hzb hbr.size
      have hbz : bb < wr.heap.size := Nat.lt_trans hbb hgz
      have HSL : Hid (k.q.l.length = k.q.n) := hsl.len
      have HBW := Lib.hid hbw
      have HZW := Lib.hid (Nat.le_of_lt hgz)
      unfold two64 at hkN
      have HRB := Lib.hid hbr
      clear c0 c1 c2 q4 q8 hsl hk hbw hbr hbx hzb
      obtain ⟨kN, kC, kA, kn, kc, kl⟩ := k
      dsimp only at d0 d1 d2 hkN HSL
      obtain ⟨x, hx⟩ : ∃ x, x = Ik.it ⟨kN, kC, ⟨kA, kn, kc, kl⟩⟩ := ⟨_, rfl⟩
      have HXE : Hid (x.N = kN ∧ rightB x.C x.b.length = rightB kC kn) := by
        rw [hx]
        exact ⟨rfl, by rw [← HSL.out]; rfl⟩
      rw [← hx] at HX
      clear hx HSL
      obtain ⟨g, hg⟩ : ∃ g, g = w.heap.size := ⟨_, rfl⟩
      rw [← hg] at e4 e8 hgz ⊢
      have HG := Lib.hid hg
      clear hg hbb
      by_cases hr : rightB kC kn = true
      · have Hhr := Lib.hid hr; clear hr
        by_cases hlo : kN < ba
        · have hloI : decide (kN < ba) = true := by simp; omega
          have HNO : Hid (¬ ItemOk ba its j x) := fun h => by have h1 := h.2.1; rw [HXE.out.1] at h1; omega
          clear hlo
          have hE : Ever (fun w' => (w'.cell? ⟨wr.heap.size, 0, none⟩ = some (.int .u64 (kN : Int)) ∧ w'.cell? ⟨wr.heap.size, 1, none⟩ = some (.int .i64 kC) ∧ w'.cell? ⟨wr.heap.size, 2, none⟩ = some (.slice kA kn kc) ∧ w'.cell? ⟨g, 4, none⟩ = some (.int .u64 (ba : Int)) ∧ w'.cell? ⟨g, 8, none⟩ = some (.slice (some ⟨bb, o, none⟩) ni ci)) ∧ Below wr.heap.size wr w') (wr.alloc (.cells #[.int .u64 (kN : Int), .int .i64 kC, .slice kA kn kc] 58)) := by
            intro w' hw
            have hb : Below wr.heap.size wr w' := (below_box wr (.cells #[.int .u64 (kN : Int), .int .i64 kC, .slice kA kn kc] 58)).trans (hw.mono (by simp))
            exact ⟨⟨ever_cell (cell_last wr _ _ _ 0 rfl) _ hw, ever_cell (cell_last wr _ _ _ 1 rfl) _ hw, ever_cell (cell_last wr _ _ _ 2 rfl) _ hw, (hb.cell (p := ⟨g, 4, none⟩) hgz).trans e4, (hb.cell (p := ⟨g, 8, none⟩) hgz).trans e8⟩, hb⟩
          obtain ⟨Ps, HP⟩ : ∃ Ps : World → Prop, Hid (Ps = fun w' => (w'.cell? ⟨wr.heap.size, 0, none⟩ = some (.int .u64 (kN : Int)) ∧ w'.cell? ⟨wr.heap.size, 1, none⟩ = some (.int .i64 kC) ∧ w'.cell? ⟨wr.heap.size, 2, none⟩ = some (.slice kA kn kc) ∧ w'.cell? ⟨g, 4, none⟩ = some (.int .u64 (ba : Int)) ∧ w'.cell? ⟨g, 8, none⟩ = some (.slice (some ⟨bb, o, none⟩) ni ci)) ∧ Below wr.heap.size wr w') := ⟨_, rfl⟩
          have HN : Hid (∀ w', Ps w' → (w'.cell? ⟨wr.heap.size, 0, none⟩ = some (.int .u64 (kN : Int)) ∧ w'.cell? ⟨wr.heap.size, 1, none⟩ = some (.int .i64 kC) ∧ w'.cell? ⟨wr.heap.size, 2, none⟩ = some (.slice kA kn kc) ∧ w'.cell? ⟨g, 4, none⟩ = some (.int .u64 (ba : Int)) ∧ w'.cell? ⟨g, 8, none⟩ = some (.slice (some ⟨bb, o, none⟩) ni ci)) ∧ Below wr.heap.size wr w') := by rw [HP.out]; exact fun _ h => h
          replace hE : Ever Ps (wr.alloc (.cells #[.int .u64 (kN : Int), .int .i64 kC, .slice kA kn kc] 58)) := by rw [HP.out]; exact hE
          have HA : Hid (∀ w', Ps w' → Calls Tryd.prog 89 #[.agg #[.int .i64 kC, .slice kA kn kc]] w' (Says w' (.bool true))) := fun w' _ => by have := right_any w' kC kA kn kc; rw [Hhr.out] at this; exact this
          go_wp2_with fail
          have hE2 := hE.drewN 1
          clear hE HP d0 d1 d2 e4 e8
          generalize wr.alloc (.cells #[.int .u64 (kN : Int), .int .i64 kC, .slice kA kn kc] 58) = wc at *
          refine wp_region_noPanic ?_
          refine wp_region_held_drew (S := (fun w' => (w'.cell? ⟨wr.heap.size, 0, none⟩ = some (.int .u64 (kN : Int)) ∧ w'.cell? ⟨wr.heap.size, 1, none⟩ = some (.int .i64 kC) ∧ w'.cell? ⟨wr.heap.size, 2, none⟩ = some (.slice kA kn kc) ∧ w'.cell? ⟨g, 4, none⟩ = some (.int .u64 (ba : Int)) ∧ w'.cell? ⟨g, 8, none⟩ = some (.slice (some ⟨bb, o, none⟩) ni ci)) ∧ Ever Ps w')) (by kernel_rfl) ⟨(HN.out _ hE2.now).1, hE2⟩ (fun hHeld => ?_)
          refine wpAnyH_take (i := 0) (oi := { dst := some 17, op := Op.fieldAddr 58 (Operand.tmp 4) 1, type := 0, pos := "frame.go:148", after := #[], guard := none }) (v := ?_) rfl (by kernel_rfl) (by kernel_rfl) (by kernel_rfl) (fun _ _ _ h => h) (Or.inl ⟨by rfl, ?_⟩) (by assumption) ?_
          rotate_left
          · intro w hSw; (try dsimp only at hSw); first | (go_simp; done) | (go_simp; with_reducible rfl)
          try simp only [Act.put, List.setIfInBounds_toArray, List.set_cons_zero, List.set_cons_succ]
          refine wpAnyH_take (i := 1) (oi := { dst := some 18, op := Op.load 56 (Operand.tmp 17), type := 56, pos := "frame.go:148", after := #[{ on := 0, ground := Ground.data }], guard := none }) (v := ?_) rfl (by kernel_rfl) (by kernel_rfl) (by kernel_rfl) (fun _ _ _ h => h) (Or.inl ⟨by rfl, ?_⟩) (by assumption) ?_
          rotate_left
          · intro w hSw; (try dsimp only at hSw); first | (go_simp; done) | (go_simp; with_reducible rfl)
          try simp only [Act.put, List.setIfInBounds_toArray, List.set_cons_zero, List.set_cons_succ]
          refine wpAnyH_ready (rs := [2]) (by kernel_rfl) (by simp) ?_
          refine AllReadyH.cons (o := { dst := some 19, op := Op.call { callee := Callee.value (Operand.func 89), args := #[Operand.tmp 18], argTypes := #[56] }, type := 4, pos := "frame.go:148", after := #[{ on := 1, ground := Ground.data }], guard := none }) rfl (fun K hK => ?_) AllReadyH.nil
          go_simp
          go_at_call 89
          first | with_reducible refine calls_ever (Ps := Ps) (by assumption) HA.out ?_
          clear hE2
          intro w2 hE2
          go_wp2_with fail
          clear hHeld
          refine hK.out _ _ ⟨(HN.out _ hE2.now).1, hE2⟩ (fun hHeld => ?_)
          clear hK K
          try simp only [Act.put, List.setIfInBounds_toArray, List.set_cons_zero, List.set_cons_succ]
          refine wpAnyH_take (i := 3) (oi := { dst := some 20, op := Op.unOp UnOp.not 4 (Operand.tmp 19), type := 4, pos := "frame.go:148", after := #[{ on := 2, ground := Ground.data }], guard := none }) (v := ?_) rfl (by kernel_rfl) (by kernel_rfl) (by kernel_rfl) (fun _ _ _ h => h) (Or.inl ⟨by rfl, ?_⟩) (by assumption) ?_
          rotate_left
          · intro w hSw; (try dsimp only at hSw); first | (go_simp; done) | (go_simp; with_reducible rfl)
          try simp only [Act.put, List.setIfInBounds_toArray, List.set_cons_zero, List.set_cons_succ]
          refine wpAnyH_take (i := 4) (oi := { dst := some 21, op := Op.move (Operand.tmp 20), type := 4, pos := "frame.go:148", after := #[{ on := 3, ground := Ground.data }, { on := 2, ground := Ground.chain }], guard := none }) (v := ?_) rfl (by kernel_rfl) (by kernel_rfl) (by kernel_rfl) (fun _ _ _ h => h) (Or.inl ⟨by rfl, ?_⟩) (by assumption) ?_
          rotate_left
          · intro w hSw; (try dsimp only at hSw); first | (go_simp; done) | (go_simp; with_reducible rfl)
          try simp only [Act.put, List.setIfInBounds_toArray, List.set_cons_zero, List.set_cons_succ]
          refine wpAnyH_take (i := 5) (oi := { dst := some 22, op := Op.fieldAddr 58 (Operand.tmp 4) 0, type := 0, pos := "frame.go:148", after := #[{ on := 4, ground := Ground.guard }], guard := some (4, false) }) (v := ?_) rfl (by kernel_rfl) (by kernel_rfl) (by kernel_rfl) (fun _ _ _ h => h) (Or.inl ⟨by rfl, ?_⟩) (by assumption) ?_
          rotate_left
          · intro w hSw; (try dsimp only at hSw); first | (go_simp; done) | (go_simp; with_reducible rfl)
          try simp only [Act.put, List.setIfInBounds_toArray, List.set_cons_zero, List.set_cons_succ]
          refine wpAnyH_take (i := 6) (oi := { dst := some 23, op := Op.load 22 (Operand.tmp 22), type := 22, pos := "frame.go:148", after := #[{ on := 5, ground := Ground.data }, { on := 4, ground := Ground.guard }], guard := some (4, false) }) (v := ?_) rfl (by kernel_rfl) (by kernel_rfl) (by kernel_rfl) (fun _ _ _ h => h) (Or.inl ⟨by rfl, ?_⟩) (by assumption) ?_
          rotate_left
          · intro w hSw; (try dsimp only at hSw); first | (go_simp; done) | (go_simp; with_reducible rfl)
          try simp only [Act.put, List.setIfInBounds_toArray, List.set_cons_zero, List.set_cons_succ]
          refine wpAnyH_take (i := 7) (oi := { dst := some 24, op := Op.fieldAddr 26 (Operand.tmp 1) 4, type := 0, pos := "frame.go:148", after := #[{ on := 4, ground := Ground.guard }], guard := some (4, false) }) (v := ?_) rfl (by kernel_rfl) (by kernel_rfl) (by kernel_rfl) (fun _ _ _ h => h) (Or.inl ⟨by rfl, ?_⟩) (by assumption) ?_
          rotate_left
          · intro w hSw; (try dsimp only at hSw); first | (go_simp; done) | (go_simp; with_reducible rfl)
          try simp only [Act.put, List.setIfInBounds_toArray, List.set_cons_zero, List.set_cons_succ]
          refine wpAnyH_take (i := 8) (oi := { dst := some 25, op := Op.load 22 (Operand.tmp 24), type := 22, pos := "frame.go:148", after := #[{ on := 7, ground := Ground.data }, { on := 4, ground := Ground.guard }], guard := some (4, false) }) (v := ?_) rfl (by kernel_rfl) (by kernel_rfl) (by kernel_rfl) (fun _ _ _ h => h) (Or.inl ⟨by rfl, ?_⟩) (by assumption) ?_
          rotate_left
          · intro w hSw; (try dsimp only at hSw); first | (go_simp; done) | (go_simp; with_reducible rfl)
          try simp only [Act.put, List.setIfInBounds_toArray, List.set_cons_zero, List.set_cons_succ]
          refine wpAnyH_take (i := 9) (oi := { dst := some 26, op := Op.binOp BinOp.lss 22 (Operand.tmp 23) (Operand.tmp 25) 22, type := 4, pos := "frame.go:148", after := #[{ on := 6, ground := Ground.data }, { on := 8, ground := Ground.data }, { on := 4, ground := Ground.guard }], guard := some (4, false) }) (v := ?_) rfl (by kernel_rfl) (by kernel_rfl) (by kernel_rfl) (fun _ _ _ h => h) (Or.inl ⟨by rfl, ?_⟩) (by assumption) ?_
          rotate_left
          · intro w hSw; (try dsimp only at hSw); first | (go_simp; done) | (go_simp; with_reducible rfl)
          try simp only [Act.put, List.setIfInBounds_toArray, List.set_cons_zero, List.set_cons_succ]
          refine wpAnyH_take (i := 10) (oi := { dst := some 27, op := Op.pick (Operand.tmp 21) (Operand.const (Value.bool true)) (Operand.tmp 26), type := 4, pos := "frame.go:148", after := #[{ on := 4, ground := Ground.data }, { on := 9, ground := Ground.data }], guard := none }) (v := ?_) rfl (by kernel_rfl) (by kernel_rfl) (by kernel_rfl) (fun _ _ _ h => h) (Or.inl ⟨by rfl, ?_⟩) (by assumption) ?_
          rotate_left
          · intro w hSw; (try dsimp only at hSw); first | (go_simp; done) | (go_simp; with_reducible rfl)
          try simp only [Act.put, List.setIfInBounds_toArray, List.set_cons_zero, List.set_cons_succ]
          refine wpAnyH_take (i := 11) (oi := { dst := some 28, op := Op.move (Operand.tmp 27), type := 4, pos := "frame.go:148", after := #[{ on := 10, ground := Ground.data }, { on := 4, ground := Ground.chain }], guard := none }) (v := ?_) rfl (by kernel_rfl) (by kernel_rfl) (by kernel_rfl) (fun _ _ _ h => h) (Or.inl ⟨by rfl, ?_⟩) (by assumption) ?_
          rotate_left
          · intro w hSw; (try dsimp only at hSw); first | (go_simp; done) | (go_simp; with_reducible rfl)
          try simp only [Act.put, List.setIfInBounds_toArray, List.set_cons_zero, List.set_cons_succ]
          refine wpAnyH_take (i := 12) (oi := { dst := some 29, op := Op.move (Operand.tmp 3), type := 3, pos := "frame.go:148", after := #[{ on := 11, ground := Ground.guard }], guard := some (11, false) }) (v := undef) rfl (by kernel_rfl) (by kernel_rfl) (by kernel_rfl) (fun _ _ _ h => h) (Or.inr ⟨by rfl, rfl⟩) (by assumption) ?_
          try simp only [Act.put, List.setIfInBounds_toArray, List.set_cons_zero, List.set_cons_succ]
          refine wpAnyH_take (i := 13) (oi := { dst := some 30, op := Op.binOp BinOp.gtr 3 (Operand.tmp 29) (Operand.const (Value.int IntKind.i64 0)) 3, type := 4, pos := "frame.go:148", after := #[{ on := 12, ground := Ground.data }, { on := 11, ground := Ground.guard }], guard := some (11, false) }) (v := undef) rfl (by kernel_rfl) (by kernel_rfl) (by kernel_rfl) (fun _ _ _ h => h) (Or.inr ⟨by rfl, rfl⟩) (by assumption) ?_
          try simp only [Act.put, List.setIfInBounds_toArray, List.set_cons_zero, List.set_cons_succ]
          refine wpAnyH_take (i := 14) (oi := { dst := some 31, op := Op.move (Operand.tmp 30), type := 4, pos := "frame.go:148", after := #[{ on := 13, ground := Ground.data }, { on := 11, ground := Ground.chain }, { on := 11, ground := Ground.guard }], guard := some (11, false) }) (v := undef) rfl (by kernel_rfl) (by kernel_rfl) (by kernel_rfl) (fun _ _ _ h => h) (Or.inr ⟨by rfl, rfl⟩) (by assumption) ?_
          try simp only [Act.put, List.setIfInBounds_toArray, List.set_cons_zero, List.set_cons_succ]
          refine wpAnyH_take (i := 15) (oi := { dst := some 32, op := Op.fieldAddr 58 (Operand.tmp 4) 0, type := 0, pos := "frame.go:148", after := #[{ on := 14, ground := Ground.guard }], guard := some (14, true) }) (v := undef) rfl (by kernel_rfl) (by kernel_rfl) (by kernel_rfl) (fun _ _ _ h => h) (Or.inr ⟨by rfl, rfl⟩) (by assumption) ?_
          try simp only [Act.put, List.setIfInBounds_toArray, List.set_cons_zero, List.set_cons_succ]
          refine wpAnyH_take (i := 16) (oi := { dst := some 33, op := Op.load 22 (Operand.tmp 32), type := 22, pos := "frame.go:148", after := #[{ on := 15, ground := Ground.data }, { on := 14, ground := Ground.guard }], guard := some (14, true) }) (v := undef) rfl (by kernel_rfl) (by kernel_rfl) (by kernel_rfl) (fun _ _ _ h => h) (Or.inr ⟨by rfl, rfl⟩) (by assumption) ?_
          try simp only [Act.put, List.setIfInBounds_toArray, List.set_cons_zero, List.set_cons_succ]
          refine wpAnyH_take (i := 17) (oi := { dst := some 34, op := Op.fieldAddr 26 (Operand.tmp 1) 8, type := 0, pos := "frame.go:148", after := #[{ on := 14, ground := Ground.guard }], guard := some (14, true) }) (v := undef) rfl (by kernel_rfl) (by kernel_rfl) (by kernel_rfl) (fun _ _ _ h => h) (Or.inr ⟨by rfl, rfl⟩) (by assumption) ?_
          try simp only [Act.put, List.setIfInBounds_toArray, List.set_cons_zero, List.set_cons_succ]
          refine wpAnyH_take (i := 18) (oi := { dst := some 35, op := Op.load 24 (Operand.tmp 34), type := 24, pos := "frame.go:148", after := #[{ on := 17, ground := Ground.data }, { on := 14, ground := Ground.guard }], guard := some (14, true) }) (v := undef) rfl (by kernel_rfl) (by kernel_rfl) (by kernel_rfl) (fun _ _ _ h => h) (Or.inr ⟨by rfl, rfl⟩) (by assumption) ?_
          try simp only [Act.put, List.setIfInBounds_toArray, List.set_cons_zero, List.set_cons_succ]
          refine wpAnyH_take (i := 19) (oi := { dst := some 36, op := Op.move (Operand.tmp 3), type := 3, pos := "frame.go:148", after := #[{ on := 14, ground := Ground.guard }], guard := some (14, true) }) (v := undef) rfl (by kernel_rfl) (by kernel_rfl) (by kernel_rfl) (fun _ _ _ h => h) (Or.inr ⟨by rfl, rfl⟩) (by assumption) ?_
          try simp only [Act.put, List.setIfInBounds_toArray, List.set_cons_zero, List.set_cons_succ]
          refine wpAnyH_take (i := 20) (oi := { dst := some 37, op := Op.binOp BinOp.sub 3 (Operand.tmp 36) (Operand.const (Value.int IntKind.i64 1)) 3, type := 3, pos := "frame.go:148", after := #[{ on := 19, ground := Ground.data }, { on := 14, ground := Ground.guard }], guard := some (14, true) }) (v := undef) rfl (by kernel_rfl) (by kernel_rfl) (by kernel_rfl) (fun _ _ _ h => h) (Or.inr ⟨by rfl, rfl⟩) (by assumption) ?_
          try simp only [Act.put, List.setIfInBounds_toArray, List.set_cons_zero, List.set_cons_succ]
          refine wpAnyH_take (i := 21) (oi := { dst := some 38, op := Op.indexAddr 24 (Operand.tmp 35) (Operand.tmp 37), type := 0, pos := "frame.go:148", after := #[{ on := 18, ground := Ground.data }, { on := 20, ground := Ground.data }, { on := 14, ground := Ground.guard }], guard := some (14, true) }) (v := undef) rfl (by kernel_rfl) (by kernel_rfl) (by kernel_rfl) (fun _ _ _ h => h) (Or.inr ⟨by rfl, rfl⟩) (by assumption) ?_
          try simp only [Act.put, List.setIfInBounds_toArray, List.set_cons_zero, List.set_cons_succ]
          refine wpAnyH_take (i := 22) (oi := { dst := some 39, op := Op.fieldAddr 58 (Operand.tmp 38) 0, type := 0, pos := "frame.go:148", after := #[{ on := 21, ground := Ground.data }, { on := 14, ground := Ground.guard }], guard := some (14, true) }) (v := undef) rfl (by kernel_rfl) (by kernel_rfl) (by kernel_rfl) (fun _ _ _ h => h) (Or.inr ⟨by rfl, rfl⟩) (by assumption) ?_
          try simp only [Act.put, List.setIfInBounds_toArray, List.set_cons_zero, List.set_cons_succ]
          refine wpAnyH_take (i := 23) (oi := { dst := some 40, op := Op.load 22 (Operand.tmp 39), type := 22, pos := "frame.go:148", after := #[{ on := 22, ground := Ground.data }, { on := 14, ground := Ground.guard }], guard := some (14, true) }) (v := undef) rfl (by kernel_rfl) (by kernel_rfl) (by kernel_rfl) (fun _ _ _ h => h) (Or.inr ⟨by rfl, rfl⟩) (by assumption) ?_
          try simp only [Act.put, List.setIfInBounds_toArray, List.set_cons_zero, List.set_cons_succ]
          refine wpAnyH_take (i := 24) (oi := { dst := some 41, op := Op.binOp BinOp.leq 22 (Operand.tmp 33) (Operand.tmp 40) 22, type := 4, pos := "frame.go:148", after := #[{ on := 16, ground := Ground.data }, { on := 23, ground := Ground.data }, { on := 14, ground := Ground.guard }], guard := some (14, true) }) (v := undef) rfl (by kernel_rfl) (by kernel_rfl) (by kernel_rfl) (fun _ _ _ h => h) (Or.inr ⟨by rfl, rfl⟩) (by assumption) ?_
          try simp only [Act.put, List.setIfInBounds_toArray, List.set_cons_zero, List.set_cons_succ]
          refine wpAnyH_take (i := 25) (oi := { dst := some 42, op := Op.pick (Operand.tmp 31) (Operand.tmp 41) (Operand.const (Value.bool false)), type := 4, pos := "frame.go:148", after := #[{ on := 14, ground := Ground.data }, { on := 24, ground := Ground.data }, { on := 11, ground := Ground.guard }], guard := some (11, false) }) (v := undef) rfl (by kernel_rfl) (by kernel_rfl) (by kernel_rfl) (fun _ _ _ h => h) (Or.inr ⟨by rfl, rfl⟩) (by assumption) ?_
          try simp only [Act.put, List.setIfInBounds_toArray, List.set_cons_zero, List.set_cons_succ]
          refine wpAnyH_take (i := 26) (oi := { dst := some 43, op := Op.pick (Operand.tmp 28) (Operand.const (Value.bool true)) (Operand.tmp 42), type := 4, pos := "frame.go:148", after := #[{ on := 11, ground := Ground.data }, { on := 25, ground := Ground.data }], guard := none }) (v := ?_) rfl (by kernel_rfl) (by kernel_rfl) (by kernel_rfl) (fun _ _ _ h => h) (Or.inl ⟨by rfl, ?_⟩) (by assumption) ?_
          rotate_left
          · intro w hSw; (try dsimp only at hSw); first | (go_simp; done) | (go_simp; with_reducible rfl)
          try simp only [Act.put, List.setIfInBounds_toArray, List.set_cons_zero, List.set_cons_succ]
          refine wpAnyH_done (by kernel_rfl) ?_ _
          refine NoPanic.normal ?_
          have HBB := Lib.hid (HN.out _ hE2.now).2
          clear hE2
          go_wp2
          go_ret
          refine ⟨ret_b ?_, HBW.out.trans (HBB.out.mono HZW.out)⟩
          rw [HB.out, decP_no (items_no HM.out HX.out HNO.out)]
        · have hloI : decide (kN < ba) = false := by simp; omega
          have Hlo := Lib.hid hlo; clear hlo
          by_cases hj0 : j = 0
          · have hj0I : decide (0 < j) = false := by simp; omega
            have HJ0 := Lib.hid hj0; clear hj0
            have HO : Hid (ItemOk ba its j x) := ⟨by rw [HXE.out.2]; exact Hhr.out, by rw [HXE.out.1]; have := Hlo.out; omega, fun y h => absurd h (by have := HJ0.out; omega)⟩
            have hE : Ever (fun w' => (w'.cell? ⟨wr.heap.size, 0, none⟩ = some (.int .u64 (kN : Int)) ∧ w'.cell? ⟨wr.heap.size, 1, none⟩ = some (.int .i64 kC) ∧ w'.cell? ⟨wr.heap.size, 2, none⟩ = some (.slice kA kn kc) ∧ w'.cell? ⟨g, 4, none⟩ = some (.int .u64 (ba : Int)) ∧ w'.cell? ⟨g, 8, none⟩ = some (.slice (some ⟨bb, o, none⟩) ni ci)) ∧ Below wr.heap.size wr w') (wr.alloc (.cells #[.int .u64 (kN : Int), .int .i64 kC, .slice kA kn kc] 58)) := by
              intro w' hw
              have hb : Below wr.heap.size wr w' := (below_box wr (.cells #[.int .u64 (kN : Int), .int .i64 kC, .slice kA kn kc] 58)).trans (hw.mono (by simp))
              exact ⟨⟨ever_cell (cell_last wr _ _ _ 0 rfl) _ hw, ever_cell (cell_last wr _ _ _ 1 rfl) _ hw, ever_cell (cell_last wr _ _ _ 2 rfl) _ hw, (hb.cell (p := ⟨g, 4, none⟩) hgz).trans e4, (hb.cell (p := ⟨g, 8, none⟩) hgz).trans e8⟩, hb⟩
            obtain ⟨Ps, HP⟩ : ∃ Ps : World → Prop, Hid (Ps = fun w' => (w'.cell? ⟨wr.heap.size, 0, none⟩ = some (.int .u64 (kN : Int)) ∧ w'.cell? ⟨wr.heap.size, 1, none⟩ = some (.int .i64 kC) ∧ w'.cell? ⟨wr.heap.size, 2, none⟩ = some (.slice kA kn kc) ∧ w'.cell? ⟨g, 4, none⟩ = some (.int .u64 (ba : Int)) ∧ w'.cell? ⟨g, 8, none⟩ = some (.slice (some ⟨bb, o, none⟩) ni ci)) ∧ Below wr.heap.size wr w') := ⟨_, rfl⟩
            have HN : Hid (∀ w', Ps w' → (w'.cell? ⟨wr.heap.size, 0, none⟩ = some (.int .u64 (kN : Int)) ∧ w'.cell? ⟨wr.heap.size, 1, none⟩ = some (.int .i64 kC) ∧ w'.cell? ⟨wr.heap.size, 2, none⟩ = some (.slice kA kn kc) ∧ w'.cell? ⟨g, 4, none⟩ = some (.int .u64 (ba : Int)) ∧ w'.cell? ⟨g, 8, none⟩ = some (.slice (some ⟨bb, o, none⟩) ni ci)) ∧ Below wr.heap.size wr w') := by rw [HP.out]; exact fun _ h => h
            replace hE : Ever Ps (wr.alloc (.cells #[.int .u64 (kN : Int), .int .i64 kC, .slice kA kn kc] 58)) := by rw [HP.out]; exact hE
            have HA : Hid (∀ w', Ps w' → Calls Tryd.prog 89 #[.agg #[.int .i64 kC, .slice kA kn kc]] w' (Says w' (.bool true))) := fun w' _ => by have := right_any w' kC kA kn kc; rw [Hhr.out] at this; exact this
            go_wp2_with fail
            have hE2 := hE.drewN 1
            clear hE HP d0 d1 d2 e4 e8
            generalize wr.alloc (.cells #[.int .u64 (kN : Int), .int .i64 kC, .slice kA kn kc] 58) = wc at *
            refine wp_region_noPanic ?_
            refine wp_region_held_drew (S := (fun w' => (w'.cell? ⟨wr.heap.size, 0, none⟩ = some (.int .u64 (kN : Int)) ∧ w'.cell? ⟨wr.heap.size, 1, none⟩ = some (.int .i64 kC) ∧ w'.cell? ⟨wr.heap.size, 2, none⟩ = some (.slice kA kn kc) ∧ w'.cell? ⟨g, 4, none⟩ = some (.int .u64 (ba : Int)) ∧ w'.cell? ⟨g, 8, none⟩ = some (.slice (some ⟨bb, o, none⟩) ni ci)) ∧ Ever Ps w')) (by kernel_rfl) ⟨(HN.out _ hE2.now).1, hE2⟩ (fun hHeld => ?_)
            refine wpAnyH_take (i := 0) (oi := { dst := some 17, op := Op.fieldAddr 58 (Operand.tmp 4) 1, type := 0, pos := "frame.go:148", after := #[], guard := none }) (v := ?_) rfl (by kernel_rfl) (by kernel_rfl) (by kernel_rfl) (fun _ _ _ h => h) (Or.inl ⟨by rfl, ?_⟩) (by assumption) ?_
            rotate_left
            · intro w hSw; (try dsimp only at hSw); first | (go_simp; done) | (go_simp; with_reducible rfl)
            try simp only [Act.put, List.setIfInBounds_toArray, List.set_cons_zero, List.set_cons_succ]
            refine wpAnyH_take (i := 1) (oi := { dst := some 18, op := Op.load 56 (Operand.tmp 17), type := 56, pos := "frame.go:148", after := #[{ on := 0, ground := Ground.data }], guard := none }) (v := ?_) rfl (by kernel_rfl) (by kernel_rfl) (by kernel_rfl) (fun _ _ _ h => h) (Or.inl ⟨by rfl, ?_⟩) (by assumption) ?_
            rotate_left
            · intro w hSw; (try dsimp only at hSw); first | (go_simp; done) | (go_simp; with_reducible rfl)
            try simp only [Act.put, List.setIfInBounds_toArray, List.set_cons_zero, List.set_cons_succ]
            refine wpAnyH_ready (rs := [2]) (by kernel_rfl) (by simp) ?_
            refine AllReadyH.cons (o := { dst := some 19, op := Op.call { callee := Callee.value (Operand.func 89), args := #[Operand.tmp 18], argTypes := #[56] }, type := 4, pos := "frame.go:148", after := #[{ on := 1, ground := Ground.data }], guard := none }) rfl (fun K hK => ?_) AllReadyH.nil
            go_simp
            go_at_call 89
            first | with_reducible refine calls_ever (Ps := Ps) (by assumption) HA.out ?_
            clear hE2
            intro w2 hE2
            go_wp2_with fail
            clear hHeld
            refine hK.out _ _ ⟨(HN.out _ hE2.now).1, hE2⟩ (fun hHeld => ?_)
            clear hK K
            try simp only [Act.put, List.setIfInBounds_toArray, List.set_cons_zero, List.set_cons_succ]
            refine wpAnyH_take (i := 3) (oi := { dst := some 20, op := Op.unOp UnOp.not 4 (Operand.tmp 19), type := 4, pos := "frame.go:148", after := #[{ on := 2, ground := Ground.data }], guard := none }) (v := ?_) rfl (by kernel_rfl) (by kernel_rfl) (by kernel_rfl) (fun _ _ _ h => h) (Or.inl ⟨by rfl, ?_⟩) (by assumption) ?_
            rotate_left
            · intro w hSw; (try dsimp only at hSw); first | (go_simp; done) | (go_simp; with_reducible rfl)
            try simp only [Act.put, List.setIfInBounds_toArray, List.set_cons_zero, List.set_cons_succ]
            refine wpAnyH_take (i := 4) (oi := { dst := some 21, op := Op.move (Operand.tmp 20), type := 4, pos := "frame.go:148", after := #[{ on := 3, ground := Ground.data }, { on := 2, ground := Ground.chain }], guard := none }) (v := ?_) rfl (by kernel_rfl) (by kernel_rfl) (by kernel_rfl) (fun _ _ _ h => h) (Or.inl ⟨by rfl, ?_⟩) (by assumption) ?_
            rotate_left
            · intro w hSw; (try dsimp only at hSw); first | (go_simp; done) | (go_simp; with_reducible rfl)
            try simp only [Act.put, List.setIfInBounds_toArray, List.set_cons_zero, List.set_cons_succ]
            refine wpAnyH_take (i := 5) (oi := { dst := some 22, op := Op.fieldAddr 58 (Operand.tmp 4) 0, type := 0, pos := "frame.go:148", after := #[{ on := 4, ground := Ground.guard }], guard := some (4, false) }) (v := ?_) rfl (by kernel_rfl) (by kernel_rfl) (by kernel_rfl) (fun _ _ _ h => h) (Or.inl ⟨by rfl, ?_⟩) (by assumption) ?_
            rotate_left
            · intro w hSw; (try dsimp only at hSw); first | (go_simp; done) | (go_simp; with_reducible rfl)
            try simp only [Act.put, List.setIfInBounds_toArray, List.set_cons_zero, List.set_cons_succ]
            refine wpAnyH_take (i := 6) (oi := { dst := some 23, op := Op.load 22 (Operand.tmp 22), type := 22, pos := "frame.go:148", after := #[{ on := 5, ground := Ground.data }, { on := 4, ground := Ground.guard }], guard := some (4, false) }) (v := ?_) rfl (by kernel_rfl) (by kernel_rfl) (by kernel_rfl) (fun _ _ _ h => h) (Or.inl ⟨by rfl, ?_⟩) (by assumption) ?_
            rotate_left
            · intro w hSw; (try dsimp only at hSw); first | (go_simp; done) | (go_simp; with_reducible rfl)
            try simp only [Act.put, List.setIfInBounds_toArray, List.set_cons_zero, List.set_cons_succ]
            refine wpAnyH_take (i := 7) (oi := { dst := some 24, op := Op.fieldAddr 26 (Operand.tmp 1) 4, type := 0, pos := "frame.go:148", after := #[{ on := 4, ground := Ground.guard }], guard := some (4, false) }) (v := ?_) rfl (by kernel_rfl) (by kernel_rfl) (by kernel_rfl) (fun _ _ _ h => h) (Or.inl ⟨by rfl, ?_⟩) (by assumption) ?_
            rotate_left
            · intro w hSw; (try dsimp only at hSw); first | (go_simp; done) | (go_simp; with_reducible rfl)
            try simp only [Act.put, List.setIfInBounds_toArray, List.set_cons_zero, List.set_cons_succ]
            refine wpAnyH_take (i := 8) (oi := { dst := some 25, op := Op.load 22 (Operand.tmp 24), type := 22, pos := "frame.go:148", after := #[{ on := 7, ground := Ground.data }, { on := 4, ground := Ground.guard }], guard := some (4, false) }) (v := ?_) rfl (by kernel_rfl) (by kernel_rfl) (by kernel_rfl) (fun _ _ _ h => h) (Or.inl ⟨by rfl, ?_⟩) (by assumption) ?_
            rotate_left
            · intro w hSw; (try dsimp only at hSw); first | (go_simp; done) | (go_simp; with_reducible rfl)
            try simp only [Act.put, List.setIfInBounds_toArray, List.set_cons_zero, List.set_cons_succ]
            refine wpAnyH_take (i := 9) (oi := { dst := some 26, op := Op.binOp BinOp.lss 22 (Operand.tmp 23) (Operand.tmp 25) 22, type := 4, pos := "frame.go:148", after := #[{ on := 6, ground := Ground.data }, { on := 8, ground := Ground.data }, { on := 4, ground := Ground.guard }], guard := some (4, false) }) (v := ?_) rfl (by kernel_rfl) (by kernel_rfl) (by kernel_rfl) (fun _ _ _ h => h) (Or.inl ⟨by rfl, ?_⟩) (by assumption) ?_
            rotate_left
            · intro w hSw; (try dsimp only at hSw); first | (go_simp; done) | (go_simp; with_reducible rfl)
            try simp only [Act.put, List.setIfInBounds_toArray, List.set_cons_zero, List.set_cons_succ]
            refine wpAnyH_take (i := 10) (oi := { dst := some 27, op := Op.pick (Operand.tmp 21) (Operand.const (Value.bool true)) (Operand.tmp 26), type := 4, pos := "frame.go:148", after := #[{ on := 4, ground := Ground.data }, { on := 9, ground := Ground.data }], guard := none }) (v := ?_) rfl (by kernel_rfl) (by kernel_rfl) (by kernel_rfl) (fun _ _ _ h => h) (Or.inl ⟨by rfl, ?_⟩) (by assumption) ?_
            rotate_left
            · intro w hSw; (try dsimp only at hSw); first | (go_simp; done) | (go_simp; with_reducible rfl)
            try simp only [Act.put, List.setIfInBounds_toArray, List.set_cons_zero, List.set_cons_succ]
            refine wpAnyH_take (i := 11) (oi := { dst := some 28, op := Op.move (Operand.tmp 27), type := 4, pos := "frame.go:148", after := #[{ on := 10, ground := Ground.data }, { on := 4, ground := Ground.chain }], guard := none }) (v := ?_) rfl (by kernel_rfl) (by kernel_rfl) (by kernel_rfl) (fun _ _ _ h => h) (Or.inl ⟨by rfl, ?_⟩) (by assumption) ?_
            rotate_left
            · intro w hSw; (try dsimp only at hSw); first | (go_simp; done) | (go_simp; with_reducible rfl)
            try simp only [Act.put, List.setIfInBounds_toArray, List.set_cons_zero, List.set_cons_succ]
            refine wpAnyH_take (i := 12) (oi := { dst := some 29, op := Op.move (Operand.tmp 3), type := 3, pos := "frame.go:148", after := #[{ on := 11, ground := Ground.guard }], guard := some (11, false) }) (v := ?_) rfl (by kernel_rfl) (by kernel_rfl) (by kernel_rfl) (fun _ _ _ h => h) (Or.inl ⟨by rfl, ?_⟩) (by assumption) ?_
            rotate_left
            · intro w hSw; (try dsimp only at hSw); first | (go_simp; done) | (go_simp; with_reducible rfl)
            try simp only [Act.put, List.setIfInBounds_toArray, List.set_cons_zero, List.set_cons_succ]
            refine wpAnyH_take (i := 13) (oi := { dst := some 30, op := Op.binOp BinOp.gtr 3 (Operand.tmp 29) (Operand.const (Value.int IntKind.i64 0)) 3, type := 4, pos := "frame.go:148", after := #[{ on := 12, ground := Ground.data }, { on := 11, ground := Ground.guard }], guard := some (11, false) }) (v := ?_) rfl (by kernel_rfl) (by kernel_rfl) (by kernel_rfl) (fun _ _ _ h => h) (Or.inl ⟨by rfl, ?_⟩) (by assumption) ?_
            rotate_left
            · intro w hSw; (try dsimp only at hSw); first | (go_simp; done) | (go_simp; with_reducible rfl)
            try simp only [Act.put, List.setIfInBounds_toArray, List.set_cons_zero, List.set_cons_succ]
            refine wpAnyH_take (i := 14) (oi := { dst := some 31, op := Op.move (Operand.tmp 30), type := 4, pos := "frame.go:148", after := #[{ on := 13, ground := Ground.data }, { on := 11, ground := Ground.chain }, { on := 11, ground := Ground.guard }], guard := some (11, false) }) (v := ?_) rfl (by kernel_rfl) (by kernel_rfl) (by kernel_rfl) (fun _ _ _ h => h) (Or.inl ⟨by rfl, ?_⟩) (by assumption) ?_
            rotate_left
            · intro w hSw; (try dsimp only at hSw); first | (go_simp; done) | (go_simp; with_reducible rfl)
            try simp only [Act.put, List.setIfInBounds_toArray, List.set_cons_zero, List.set_cons_succ]
            refine wpAnyH_take (i := 15) (oi := { dst := some 32, op := Op.fieldAddr 58 (Operand.tmp 4) 0, type := 0, pos := "frame.go:148", after := #[{ on := 14, ground := Ground.guard }], guard := some (14, true) }) (v := undef) rfl (by kernel_rfl) (by kernel_rfl) (by kernel_rfl) (fun _ _ _ h => h) (Or.inr ⟨by rfl, rfl⟩) (by assumption) ?_
            try simp only [Act.put, List.setIfInBounds_toArray, List.set_cons_zero, List.set_cons_succ]
            refine wpAnyH_take (i := 16) (oi := { dst := some 33, op := Op.load 22 (Operand.tmp 32), type := 22, pos := "frame.go:148", after := #[{ on := 15, ground := Ground.data }, { on := 14, ground := Ground.guard }], guard := some (14, true) }) (v := undef) rfl (by kernel_rfl) (by kernel_rfl) (by kernel_rfl) (fun _ _ _ h => h) (Or.inr ⟨by rfl, rfl⟩) (by assumption) ?_
            try simp only [Act.put, List.setIfInBounds_toArray, List.set_cons_zero, List.set_cons_succ]
            refine wpAnyH_take (i := 17) (oi := { dst := some 34, op := Op.fieldAddr 26 (Operand.tmp 1) 8, type := 0, pos := "frame.go:148", after := #[{ on := 14, ground := Ground.guard }], guard := some (14, true) }) (v := undef) rfl (by kernel_rfl) (by kernel_rfl) (by kernel_rfl) (fun _ _ _ h => h) (Or.inr ⟨by rfl, rfl⟩) (by assumption) ?_
            try simp only [Act.put, List.setIfInBounds_toArray, List.set_cons_zero, List.set_cons_succ]
            refine wpAnyH_take (i := 18) (oi := { dst := some 35, op := Op.load 24 (Operand.tmp 34), type := 24, pos := "frame.go:148", after := #[{ on := 17, ground := Ground.data }, { on := 14, ground := Ground.guard }], guard := some (14, true) }) (v := undef) rfl (by kernel_rfl) (by kernel_rfl) (by kernel_rfl) (fun _ _ _ h => h) (Or.inr ⟨by rfl, rfl⟩) (by assumption) ?_
            try simp only [Act.put, List.setIfInBounds_toArray, List.set_cons_zero, List.set_cons_succ]
            refine wpAnyH_take (i := 19) (oi := { dst := some 36, op := Op.move (Operand.tmp 3), type := 3, pos := "frame.go:148", after := #[{ on := 14, ground := Ground.guard }], guard := some (14, true) }) (v := undef) rfl (by kernel_rfl) (by kernel_rfl) (by kernel_rfl) (fun _ _ _ h => h) (Or.inr ⟨by rfl, rfl⟩) (by assumption) ?_
            try simp only [Act.put, List.setIfInBounds_toArray, List.set_cons_zero, List.set_cons_succ]
            refine wpAnyH_take (i := 20) (oi := { dst := some 37, op := Op.binOp BinOp.sub 3 (Operand.tmp 36) (Operand.const (Value.int IntKind.i64 1)) 3, type := 3, pos := "frame.go:148", after := #[{ on := 19, ground := Ground.data }, { on := 14, ground := Ground.guard }], guard := some (14, true) }) (v := undef) rfl (by kernel_rfl) (by kernel_rfl) (by kernel_rfl) (fun _ _ _ h => h) (Or.inr ⟨by rfl, rfl⟩) (by assumption) ?_
            try simp only [Act.put, List.setIfInBounds_toArray, List.set_cons_zero, List.set_cons_succ]
            refine wpAnyH_take (i := 21) (oi := { dst := some 38, op := Op.indexAddr 24 (Operand.tmp 35) (Operand.tmp 37), type := 0, pos := "frame.go:148", after := #[{ on := 18, ground := Ground.data }, { on := 20, ground := Ground.data }, { on := 14, ground := Ground.guard }], guard := some (14, true) }) (v := undef) rfl (by kernel_rfl) (by kernel_rfl) (by kernel_rfl) (fun _ _ _ h => h) (Or.inr ⟨by rfl, rfl⟩) (by assumption) ?_
            try simp only [Act.put, List.setIfInBounds_toArray, List.set_cons_zero, List.set_cons_succ]
            refine wpAnyH_take (i := 22) (oi := { dst := some 39, op := Op.fieldAddr 58 (Operand.tmp 38) 0, type := 0, pos := "frame.go:148", after := #[{ on := 21, ground := Ground.data }, { on := 14, ground := Ground.guard }], guard := some (14, true) }) (v := undef) rfl (by kernel_rfl) (by kernel_rfl) (by kernel_rfl) (fun _ _ _ h => h) (Or.inr ⟨by rfl, rfl⟩) (by assumption) ?_
            try simp only [Act.put, List.setIfInBounds_toArray, List.set_cons_zero, List.set_cons_succ]
            refine wpAnyH_take (i := 23) (oi := { dst := some 40, op := Op.load 22 (Operand.tmp 39), type := 22, pos := "frame.go:148", after := #[{ on := 22, ground := Ground.data }, { on := 14, ground := Ground.guard }], guard := some (14, true) }) (v := undef) rfl (by kernel_rfl) (by kernel_rfl) (by kernel_rfl) (fun _ _ _ h => h) (Or.inr ⟨by rfl, rfl⟩) (by assumption) ?_
            try simp only [Act.put, List.setIfInBounds_toArray, List.set_cons_zero, List.set_cons_succ]
            refine wpAnyH_take (i := 24) (oi := { dst := some 41, op := Op.binOp BinOp.leq 22 (Operand.tmp 33) (Operand.tmp 40) 22, type := 4, pos := "frame.go:148", after := #[{ on := 16, ground := Ground.data }, { on := 23, ground := Ground.data }, { on := 14, ground := Ground.guard }], guard := some (14, true) }) (v := undef) rfl (by kernel_rfl) (by kernel_rfl) (by kernel_rfl) (fun _ _ _ h => h) (Or.inr ⟨by rfl, rfl⟩) (by assumption) ?_
            try simp only [Act.put, List.setIfInBounds_toArray, List.set_cons_zero, List.set_cons_succ]
            refine wpAnyH_take (i := 25) (oi := { dst := some 42, op := Op.pick (Operand.tmp 31) (Operand.tmp 41) (Operand.const (Value.bool false)), type := 4, pos := "frame.go:148", after := #[{ on := 14, ground := Ground.data }, { on := 24, ground := Ground.data }, { on := 11, ground := Ground.guard }], guard := some (11, false) }) (v := ?_) rfl (by kernel_rfl) (by kernel_rfl) (by kernel_rfl) (fun _ _ _ h => h) (Or.inl ⟨by rfl, ?_⟩) (by assumption) ?_
            rotate_left
            · intro w hSw; (try dsimp only at hSw); first | (go_simp; done) | (go_simp; with_reducible rfl)
            try simp only [Act.put, List.setIfInBounds_toArray, List.set_cons_zero, List.set_cons_succ]
            refine wpAnyH_take (i := 26) (oi := { dst := some 43, op := Op.pick (Operand.tmp 28) (Operand.const (Value.bool true)) (Operand.tmp 42), type := 4, pos := "frame.go:148", after := #[{ on := 11, ground := Ground.data }, { on := 25, ground := Ground.data }], guard := none }) (v := ?_) rfl (by kernel_rfl) (by kernel_rfl) (by kernel_rfl) (fun _ _ _ h => h) (Or.inl ⟨by rfl, ?_⟩) (by assumption) ?_
            rotate_left
            · intro w hSw; (try dsimp only at hSw); first | (go_simp; done) | (go_simp; with_reducible rfl)
            try simp only [Act.put, List.setIfInBounds_toArray, List.set_cons_zero, List.set_cons_succ]
            refine wpAnyH_done (by kernel_rfl) ?_ _
            refine NoPanic.normal ?_
            have HBB := Lib.hid (HN.out _ hE2.now).2
            clear hE2
            go_wp2
            rw [HG.out]
            go_roundg (gk - 1)
            case measure => have := HJ.out; omega
            case rel =>
              refine ⟨j + 1, by have := HJ.out; omega, by go_num, fun t y ht hy => ?_, HRB.out.trans (HBB.out.mono HRB.out.size)⟩
              rcases Nat.lt_or_ge t j with h1 | h1
              · exact HOK.out t y h1 hy
              · have e : t = j := by omega
                subst e
                rw [HX.out] at hy
                injection hy with hy
                subst hy
                exact HO.out
          · obtain ⟨m, hm⟩ : ∃ m, j = m + 1 := ⟨j - 1, by omega⟩
            have hj0I : decide (0 < j) = true := by simp; omega
            have hwm : IntKind.i64.wrap ((j : Int) - 1) = (m : Int) := by rw [IntKind.wrap_i64]; omega
            have hm0 : (0 : Int) ≤ (m : Int) := by omega
            have hmn : (m : Int) < (ni : Int) := by omega
            have HM1 := Lib.hid hm; clear hj0
            obtain ⟨bb2, o2, p, e2, _, hp, c0, _, _, _, hpN⟩ := HI.out.at_ (show m < ni by omega)
            injection e2 with e2
            injection e2 with e3 e5
            subst e3 e5
            have dp := (HBW.out.cell (p := ⟨bb, o + m * 3, none⟩) (World.block_lt_of_cell? w _ c0)).trans c0
            have HPX : Hid (its[m]? = some p.it) := by show _ = _; rw [HIE.out, List.getElem?_map, hp]; rfl
            obtain ⟨pN, hpe⟩ : ∃ pN, pN = p.N := ⟨_, rfl⟩
            have HPE : Hid (p.it.N = pN) := hpe.symm
            rw [← hpe] at dp hpN
            unfold two64 at hpN
            clear hp c0 hpe hm
            by_cases hle2 : kN ≤ pN
            · have hle2I : decide (kN ≤ pN) = true := by simp; omega
              have HNO : Hid (¬ ItemOk ba its j x) := fun h => by have h1 := h.2.2 _ (by have := HM1.out; omega) (by rw [HM1.out, Nat.add_sub_cancel]; exact HPX.out); rw [HXE.out.1, HPE.out] at h1; omega
              clear hle2
              have hE : Ever (fun w' => (w'.cell? ⟨wr.heap.size, 0, none⟩ = some (.int .u64 (kN : Int)) ∧ w'.cell? ⟨wr.heap.size, 1, none⟩ = some (.int .i64 kC) ∧ w'.cell? ⟨wr.heap.size, 2, none⟩ = some (.slice kA kn kc) ∧ w'.cell? ⟨g, 4, none⟩ = some (.int .u64 (ba : Int)) ∧ w'.cell? ⟨g, 8, none⟩ = some (.slice (some ⟨bb, o, none⟩) ni ci) ∧ w'.cell? ⟨bb, o + m * 3, none⟩ = some (.int .u64 (pN : Int))) ∧ Below wr.heap.size wr w') (wr.alloc (.cells #[.int .u64 (kN : Int), .int .i64 kC, .slice kA kn kc] 58)) := by
                intro w' hw
                have hb : Below wr.heap.size wr w' := (below_box wr (.cells #[.int .u64 (kN : Int), .int .i64 kC, .slice kA kn kc] 58)).trans (hw.mono (by simp))
                exact ⟨⟨ever_cell (cell_last wr _ _ _ 0 rfl) _ hw, ever_cell (cell_last wr _ _ _ 1 rfl) _ hw, ever_cell (cell_last wr _ _ _ 2 rfl) _ hw, (hb.cell (p := ⟨g, 4, none⟩) hgz).trans e4, (hb.cell (p := ⟨g, 8, none⟩) hgz).trans e8, (hb.cell (p := ⟨bb, o + m * 3, none⟩) hbz).trans dp⟩, hb⟩
              obtain ⟨Ps, HP⟩ : ∃ Ps : World → Prop, Hid (Ps = fun w' => (w'.cell? ⟨wr.heap.size, 0, none⟩ = some (.int .u64 (kN : Int)) ∧ w'.cell? ⟨wr.heap.size, 1, none⟩ = some (.int .i64 kC) ∧ w'.cell? ⟨wr.heap.size, 2, none⟩ = some (.slice kA kn kc) ∧ w'.cell? ⟨g, 4, none⟩ = some (.int .u64 (ba : Int)) ∧ w'.cell? ⟨g, 8, none⟩ = some (.slice (some ⟨bb, o, none⟩) ni ci) ∧ w'.cell? ⟨bb, o + m * 3, none⟩ = some (.int .u64 (pN : Int))) ∧ Below wr.heap.size wr w') := ⟨_, rfl⟩
              have HN : Hid (∀ w', Ps w' → (w'.cell? ⟨wr.heap.size, 0, none⟩ = some (.int .u64 (kN : Int)) ∧ w'.cell? ⟨wr.heap.size, 1, none⟩ = some (.int .i64 kC) ∧ w'.cell? ⟨wr.heap.size, 2, none⟩ = some (.slice kA kn kc) ∧ w'.cell? ⟨g, 4, none⟩ = some (.int .u64 (ba : Int)) ∧ w'.cell? ⟨g, 8, none⟩ = some (.slice (some ⟨bb, o, none⟩) ni ci) ∧ w'.cell? ⟨bb, o + m * 3, none⟩ = some (.int .u64 (pN : Int))) ∧ Below wr.heap.size wr w') := by rw [HP.out]; exact fun _ h => h
              replace hE : Ever Ps (wr.alloc (.cells #[.int .u64 (kN : Int), .int .i64 kC, .slice kA kn kc] 58)) := by rw [HP.out]; exact hE
              have HA : Hid (∀ w', Ps w' → Calls Tryd.prog 89 #[.agg #[.int .i64 kC, .slice kA kn kc]] w' (Says w' (.bool true))) := fun w' _ => by have := right_any w' kC kA kn kc; rw [Hhr.out] at this; exact this
              go_wp2_with fail
              have hE2 := hE.drewN 1
              clear hE HP d0 d1 d2 e4 e8 dp
              generalize wr.alloc (.cells #[.int .u64 (kN : Int), .int .i64 kC, .slice kA kn kc] 58) = wc at *
              refine wp_region_noPanic ?_
              refine wp_region_held_drew (S := (fun w' => (w'.cell? ⟨wr.heap.size, 0, none⟩ = some (.int .u64 (kN : Int)) ∧ w'.cell? ⟨wr.heap.size, 1, none⟩ = some (.int .i64 kC) ∧ w'.cell? ⟨wr.heap.size, 2, none⟩ = some (.slice kA kn kc) ∧ w'.cell? ⟨g, 4, none⟩ = some (.int .u64 (ba : Int)) ∧ w'.cell? ⟨g, 8, none⟩ = some (.slice (some ⟨bb, o, none⟩) ni ci) ∧ w'.cell? ⟨bb, o + m * 3, none⟩ = some (.int .u64 (pN : Int))) ∧ Ever Ps w')) (by kernel_rfl) ⟨(HN.out _ hE2.now).1, hE2⟩ (fun hHeld => ?_)
              refine wpAnyH_take (i := 0) (oi := { dst := some 17, op := Op.fieldAddr 58 (Operand.tmp 4) 1, type := 0, pos := "frame.go:148", after := #[], guard := none }) (v := ?_) rfl (by kernel_rfl) (by kernel_rfl) (by kernel_rfl) (fun _ _ _ h => h) (Or.inl ⟨by rfl, ?_⟩) (by assumption) ?_
              rotate_left
              · intro w hSw; (try dsimp only at hSw); first | (go_simp; done) | (go_simp; with_reducible rfl)
              try simp only [Act.put, List.setIfInBounds_toArray, List.set_cons_zero, List.set_cons_succ]
              refine wpAnyH_take (i := 1) (oi := { dst := some 18, op := Op.load 56 (Operand.tmp 17), type := 56, pos := "frame.go:148", after := #[{ on := 0, ground := Ground.data }], guard := none }) (v := ?_) rfl (by kernel_rfl) (by kernel_rfl) (by kernel_rfl) (fun _ _ _ h => h) (Or.inl ⟨by rfl, ?_⟩) (by assumption) ?_
              rotate_left
              · intro w hSw; (try dsimp only at hSw); first | (go_simp; done) | (go_simp; with_reducible rfl)
              try simp only [Act.put, List.setIfInBounds_toArray, List.set_cons_zero, List.set_cons_succ]
              refine wpAnyH_ready (rs := [2]) (by kernel_rfl) (by simp) ?_
              refine AllReadyH.cons (o := { dst := some 19, op := Op.call { callee := Callee.value (Operand.func 89), args := #[Operand.tmp 18], argTypes := #[56] }, type := 4, pos := "frame.go:148", after := #[{ on := 1, ground := Ground.data }], guard := none }) rfl (fun K hK => ?_) AllReadyH.nil
              go_simp
              go_at_call 89
              first | with_reducible refine calls_ever (Ps := Ps) (by assumption) HA.out ?_
              clear hE2
              intro w2 hE2
              go_wp2_with fail
              clear hHeld
              refine hK.out _ _ ⟨(HN.out _ hE2.now).1, hE2⟩ (fun hHeld => ?_)
              clear hK K
              try simp only [Act.put, List.setIfInBounds_toArray, List.set_cons_zero, List.set_cons_succ]
              refine wpAnyH_take (i := 3) (oi := { dst := some 20, op := Op.unOp UnOp.not 4 (Operand.tmp 19), type := 4, pos := "frame.go:148", after := #[{ on := 2, ground := Ground.data }], guard := none }) (v := ?_) rfl (by kernel_rfl) (by kernel_rfl) (by kernel_rfl) (fun _ _ _ h => h) (Or.inl ⟨by rfl, ?_⟩) (by assumption) ?_
              rotate_left
              · intro w hSw; (try dsimp only at hSw); first | (go_simp; done) | (go_simp; with_reducible rfl)
              try simp only [Act.put, List.setIfInBounds_toArray, List.set_cons_zero, List.set_cons_succ]
              refine wpAnyH_take (i := 4) (oi := { dst := some 21, op := Op.move (Operand.tmp 20), type := 4, pos := "frame.go:148", after := #[{ on := 3, ground := Ground.data }, { on := 2, ground := Ground.chain }], guard := none }) (v := ?_) rfl (by kernel_rfl) (by kernel_rfl) (by kernel_rfl) (fun _ _ _ h => h) (Or.inl ⟨by rfl, ?_⟩) (by assumption) ?_
              rotate_left
              · intro w hSw; (try dsimp only at hSw); first | (go_simp; done) | (go_simp; with_reducible rfl)
              try simp only [Act.put, List.setIfInBounds_toArray, List.set_cons_zero, List.set_cons_succ]
              refine wpAnyH_take (i := 5) (oi := { dst := some 22, op := Op.fieldAddr 58 (Operand.tmp 4) 0, type := 0, pos := "frame.go:148", after := #[{ on := 4, ground := Ground.guard }], guard := some (4, false) }) (v := ?_) rfl (by kernel_rfl) (by kernel_rfl) (by kernel_rfl) (fun _ _ _ h => h) (Or.inl ⟨by rfl, ?_⟩) (by assumption) ?_
              rotate_left
              · intro w hSw; (try dsimp only at hSw); first | (go_simp; done) | (go_simp; with_reducible rfl)
              try simp only [Act.put, List.setIfInBounds_toArray, List.set_cons_zero, List.set_cons_succ]
              refine wpAnyH_take (i := 6) (oi := { dst := some 23, op := Op.load 22 (Operand.tmp 22), type := 22, pos := "frame.go:148", after := #[{ on := 5, ground := Ground.data }, { on := 4, ground := Ground.guard }], guard := some (4, false) }) (v := ?_) rfl (by kernel_rfl) (by kernel_rfl) (by kernel_rfl) (fun _ _ _ h => h) (Or.inl ⟨by rfl, ?_⟩) (by assumption) ?_
              rotate_left
              · intro w hSw; (try dsimp only at hSw); first | (go_simp; done) | (go_simp; with_reducible rfl)
              try simp only [Act.put, List.setIfInBounds_toArray, List.set_cons_zero, List.set_cons_succ]
              refine wpAnyH_take (i := 7) (oi := { dst := some 24, op := Op.fieldAddr 26 (Operand.tmp 1) 4, type := 0, pos := "frame.go:148", after := #[{ on := 4, ground := Ground.guard }], guard := some (4, false) }) (v := ?_) rfl (by kernel_rfl) (by kernel_rfl) (by kernel_rfl) (fun _ _ _ h => h) (Or.inl ⟨by rfl, ?_⟩) (by assumption) ?_
              rotate_left
              · intro w hSw; (try dsimp only at hSw); first | (go_simp; done) | (go_simp; with_reducible rfl)
              try simp only [Act.put, List.setIfInBounds_toArray, List.set_cons_zero, List.set_cons_succ]
              refine wpAnyH_take (i := 8) (oi := { dst := some 25, op := Op.load 22 (Operand.tmp 24), type := 22, pos := "frame.go:148", after := #[{ on := 7, ground := Ground.data }, { on := 4, ground := Ground.guard }], guard := some (4, false) }) (v := ?_) rfl (by kernel_rfl) (by kernel_rfl) (by kernel_rfl) (fun _ _ _ h => h) (Or.inl ⟨by rfl, ?_⟩) (by assumption) ?_
              rotate_left
              · intro w hSw; (try dsimp only at hSw); first | (go_simp; done) | (go_simp; with_reducible rfl)
              try simp only [Act.put, List.setIfInBounds_toArray, List.set_cons_zero, List.set_cons_succ]
              refine wpAnyH_take (i := 9) (oi := { dst := some 26, op := Op.binOp BinOp.lss 22 (Operand.tmp 23) (Operand.tmp 25) 22, type := 4, pos := "frame.go:148", after := #[{ on := 6, ground := Ground.data }, { on := 8, ground := Ground.data }, { on := 4, ground := Ground.guard }], guard := some (4, false) }) (v := ?_) rfl (by kernel_rfl) (by kernel_rfl) (by kernel_rfl) (fun _ _ _ h => h) (Or.inl ⟨by rfl, ?_⟩) (by assumption) ?_
              rotate_left
              · intro w hSw; (try dsimp only at hSw); first | (go_simp; done) | (go_simp; with_reducible rfl)
              try simp only [Act.put, List.setIfInBounds_toArray, List.set_cons_zero, List.set_cons_succ]
              refine wpAnyH_take (i := 10) (oi := { dst := some 27, op := Op.pick (Operand.tmp 21) (Operand.const (Value.bool true)) (Operand.tmp 26), type := 4, pos := "frame.go:148", after := #[{ on := 4, ground := Ground.data }, { on := 9, ground := Ground.data }], guard := none }) (v := ?_) rfl (by kernel_rfl) (by kernel_rfl) (by kernel_rfl) (fun _ _ _ h => h) (Or.inl ⟨by rfl, ?_⟩) (by assumption) ?_
              rotate_left
              · intro w hSw; (try dsimp only at hSw); first | (go_simp; done) | (go_simp; with_reducible rfl)
              try simp only [Act.put, List.setIfInBounds_toArray, List.set_cons_zero, List.set_cons_succ]
              refine wpAnyH_take (i := 11) (oi := { dst := some 28, op := Op.move (Operand.tmp 27), type := 4, pos := "frame.go:148", after := #[{ on := 10, ground := Ground.data }, { on := 4, ground := Ground.chain }], guard := none }) (v := ?_) rfl (by kernel_rfl) (by kernel_rfl) (by kernel_rfl) (fun _ _ _ h => h) (Or.inl ⟨by rfl, ?_⟩) (by assumption) ?_
              rotate_left
              · intro w hSw; (try dsimp only at hSw); first | (go_simp; done) | (go_simp; with_reducible rfl)
              try simp only [Act.put, List.setIfInBounds_toArray, List.set_cons_zero, List.set_cons_succ]
              refine wpAnyH_take (i := 12) (oi := { dst := some 29, op := Op.move (Operand.tmp 3), type := 3, pos := "frame.go:148", after := #[{ on := 11, ground := Ground.guard }], guard := some (11, false) }) (v := ?_) rfl (by kernel_rfl) (by kernel_rfl) (by kernel_rfl) (fun _ _ _ h => h) (Or.inl ⟨by rfl, ?_⟩) (by assumption) ?_
              rotate_left
              · intro w hSw; (try dsimp only at hSw); first | (go_simp; done) | (go_simp; with_reducible rfl)
              try simp only [Act.put, List.setIfInBounds_toArray, List.set_cons_zero, List.set_cons_succ]
              refine wpAnyH_take (i := 13) (oi := { dst := some 30, op := Op.binOp BinOp.gtr 3 (Operand.tmp 29) (Operand.const (Value.int IntKind.i64 0)) 3, type := 4, pos := "frame.go:148", after := #[{ on := 12, ground := Ground.data }, { on := 11, ground := Ground.guard }], guard := some (11, false) }) (v := ?_) rfl (by kernel_rfl) (by kernel_rfl) (by kernel_rfl) (fun _ _ _ h => h) (Or.inl ⟨by rfl, ?_⟩) (by assumption) ?_
              rotate_left
              · intro w hSw; (try dsimp only at hSw); first | (go_simp; done) | (go_simp; with_reducible rfl)
              try simp only [Act.put, List.setIfInBounds_toArray, List.set_cons_zero, List.set_cons_succ]
              refine wpAnyH_take (i := 14) (oi := { dst := some 31, op := Op.move (Operand.tmp 30), type := 4, pos := "frame.go:148", after := #[{ on := 13, ground := Ground.data }, { on := 11, ground := Ground.chain }, { on := 11, ground := Ground.guard }], guard := some (11, false) }) (v := ?_) rfl (by kernel_rfl) (by kernel_rfl) (by kernel_rfl) (fun _ _ _ h => h) (Or.inl ⟨by rfl, ?_⟩) (by assumption) ?_
              rotate_left
              · intro w hSw; (try dsimp only at hSw); first | (go_simp; done) | (go_simp; with_reducible rfl)
              try simp only [Act.put, List.setIfInBounds_toArray, List.set_cons_zero, List.set_cons_succ]
              refine wpAnyH_take (i := 15) (oi := { dst := some 32, op := Op.fieldAddr 58 (Operand.tmp 4) 0, type := 0, pos := "frame.go:148", after := #[{ on := 14, ground := Ground.guard }], guard := some (14, true) }) (v := ?_) rfl (by kernel_rfl) (by kernel_rfl) (by kernel_rfl) (fun _ _ _ h => h) (Or.inl ⟨by rfl, ?_⟩) (by assumption) ?_
              rotate_left
              · intro w hSw; (try dsimp only at hSw); first | (go_simp; done) | (go_simp; with_reducible rfl)
              try simp only [Act.put, List.setIfInBounds_toArray, List.set_cons_zero, List.set_cons_succ]
              refine wpAnyH_take (i := 16) (oi := { dst := some 33, op := Op.load 22 (Operand.tmp 32), type := 22, pos := "frame.go:148", after := #[{ on := 15, ground := Ground.data }, { on := 14, ground := Ground.guard }], guard := some (14, true) }) (v := ?_) rfl (by kernel_rfl) (by kernel_rfl) (by kernel_rfl) (fun _ _ _ h => h) (Or.inl ⟨by rfl, ?_⟩) (by assumption) ?_
              rotate_left
              · intro w hSw; (try dsimp only at hSw); first | (go_simp; done) | (go_simp; with_reducible rfl)
              try simp only [Act.put, List.setIfInBounds_toArray, List.set_cons_zero, List.set_cons_succ]
              refine wpAnyH_take (i := 17) (oi := { dst := some 34, op := Op.fieldAddr 26 (Operand.tmp 1) 8, type := 0, pos := "frame.go:148", after := #[{ on := 14, ground := Ground.guard }], guard := some (14, true) }) (v := ?_) rfl (by kernel_rfl) (by kernel_rfl) (by kernel_rfl) (fun _ _ _ h => h) (Or.inl ⟨by rfl, ?_⟩) (by assumption) ?_
              rotate_left
              · intro w hSw; (try dsimp only at hSw); first | (go_simp; done) | (go_simp; with_reducible rfl)
              try simp only [Act.put, List.setIfInBounds_toArray, List.set_cons_zero, List.set_cons_succ]
              refine wpAnyH_take (i := 18) (oi := { dst := some 35, op := Op.load 24 (Operand.tmp 34), type := 24, pos := "frame.go:148", after := #[{ on := 17, ground := Ground.data }, { on := 14, ground := Ground.guard }], guard := some (14, true) }) (v := ?_) rfl (by kernel_rfl) (by kernel_rfl) (by kernel_rfl) (fun _ _ _ h => h) (Or.inl ⟨by rfl, ?_⟩) (by assumption) ?_
              rotate_left
              · intro w hSw; (try dsimp only at hSw); first | (go_simp; done) | (go_simp; with_reducible rfl)
              try simp only [Act.put, List.setIfInBounds_toArray, List.set_cons_zero, List.set_cons_succ]
              refine wpAnyH_take (i := 19) (oi := { dst := some 36, op := Op.move (Operand.tmp 3), type := 3, pos := "frame.go:148", after := #[{ on := 14, ground := Ground.guard }], guard := some (14, true) }) (v := ?_) rfl (by kernel_rfl) (by kernel_rfl) (by kernel_rfl) (fun _ _ _ h => h) (Or.inl ⟨by rfl, ?_⟩) (by assumption) ?_
              rotate_left
              · intro w hSw; (try dsimp only at hSw); first | (go_simp; done) | (go_simp; with_reducible rfl)
              try simp only [Act.put, List.setIfInBounds_toArray, List.set_cons_zero, List.set_cons_succ]
              refine wpAnyH_take (i := 20) (oi := { dst := some 37, op := Op.binOp BinOp.sub 3 (Operand.tmp 36) (Operand.const (Value.int IntKind.i64 1)) 3, type := 3, pos := "frame.go:148", after := #[{ on := 19, ground := Ground.data }, { on := 14, ground := Ground.guard }], guard := some (14, true) }) (v := ?_) rfl (by kernel_rfl) (by kernel_rfl) (by kernel_rfl) (fun _ _ _ h => h) (Or.inl ⟨by rfl, ?_⟩) (by assumption) ?_
              rotate_left
              · intro w hSw; (try dsimp only at hSw); first | (go_simp; done) | (go_simp; with_reducible rfl)
              try simp only [Act.put, List.setIfInBounds_toArray, List.set_cons_zero, List.set_cons_succ]
              refine wpAnyH_take (i := 21) (oi := { dst := some 38, op := Op.indexAddr 24 (Operand.tmp 35) (Operand.tmp 37), type := 0, pos := "frame.go:148", after := #[{ on := 18, ground := Ground.data }, { on := 20, ground := Ground.data }, { on := 14, ground := Ground.guard }], guard := some (14, true) }) (v := ?_) rfl (by kernel_rfl) (by kernel_rfl) (by kernel_rfl) (fun _ _ _ h => h) (Or.inl ⟨by rfl, ?_⟩) (by assumption) ?_
              rotate_left
              · intro w hSw; (try dsimp only at hSw); first | (go_simp; done) | (go_simp; with_reducible rfl)
              try simp only [Act.put, List.setIfInBounds_toArray, List.set_cons_zero, List.set_cons_succ]
              refine wpAnyH_take (i := 22) (oi := { dst := some 39, op := Op.fieldAddr 58 (Operand.tmp 38) 0, type := 0, pos := "frame.go:148", after := #[{ on := 21, ground := Ground.data }, { on := 14, ground := Ground.guard }], guard := some (14, true) }) (v := ?_) rfl (by kernel_rfl) (by kernel_rfl) (by kernel_rfl) (fun _ _ _ h => h) (Or.inl ⟨by rfl, ?_⟩) (by assumption) ?_
              rotate_left
              · intro w hSw; (try dsimp only at hSw); first | (go_simp; done) | (go_simp; with_reducible rfl)
              try simp only [Act.put, List.setIfInBounds_toArray, List.set_cons_zero, List.set_cons_succ]
              refine wpAnyH_take (i := 23) (oi := { dst := some 40, op := Op.load 22 (Operand.tmp 39), type := 22, pos := "frame.go:148", after := #[{ on := 22, ground := Ground.data }, { on := 14, ground := Ground.guard }], guard := some (14, true) }) (v := ?_) rfl (by kernel_rfl) (by kernel_rfl) (by kernel_rfl) (fun _ _ _ h => h) (Or.inl ⟨by rfl, ?_⟩) (by assumption) ?_
              rotate_left
              · intro w hSw; (try dsimp only at hSw); first | (go_simp; done) | (go_simp; with_reducible rfl)
              try simp only [Act.put, List.setIfInBounds_toArray, List.set_cons_zero, List.set_cons_succ]
              refine wpAnyH_take (i := 24) (oi := { dst := some 41, op := Op.binOp BinOp.leq 22 (Operand.tmp 33) (Operand.tmp 40) 22, type := 4, pos := "frame.go:148", after := #[{ on := 16, ground := Ground.data }, { on := 23, ground := Ground.data }, { on := 14, ground := Ground.guard }], guard := some (14, true) }) (v := ?_) rfl (by kernel_rfl) (by kernel_rfl) (by kernel_rfl) (fun _ _ _ h => h) (Or.inl ⟨by rfl, ?_⟩) (by assumption) ?_
              rotate_left
              · intro w hSw; (try dsimp only at hSw); first | (go_simp; done) | (go_simp; with_reducible rfl)
              try simp only [Act.put, List.setIfInBounds_toArray, List.set_cons_zero, List.set_cons_succ]
              refine wpAnyH_take (i := 25) (oi := { dst := some 42, op := Op.pick (Operand.tmp 31) (Operand.tmp 41) (Operand.const (Value.bool false)), type := 4, pos := "frame.go:148", after := #[{ on := 14, ground := Ground.data }, { on := 24, ground := Ground.data }, { on := 11, ground := Ground.guard }], guard := some (11, false) }) (v := ?_) rfl (by kernel_rfl) (by kernel_rfl) (by kernel_rfl) (fun _ _ _ h => h) (Or.inl ⟨by rfl, ?_⟩) (by assumption) ?_
              rotate_left
              · intro w hSw; (try dsimp only at hSw); first | (go_simp; done) | (go_simp; with_reducible rfl)
              try simp only [Act.put, List.setIfInBounds_toArray, List.set_cons_zero, List.set_cons_succ]
              refine wpAnyH_take (i := 26) (oi := { dst := some 43, op := Op.pick (Operand.tmp 28) (Operand.const (Value.bool true)) (Operand.tmp 42), type := 4, pos := "frame.go:148", after := #[{ on := 11, ground := Ground.data }, { on := 25, ground := Ground.data }], guard := none }) (v := ?_) rfl (by kernel_rfl) (by kernel_rfl) (by kernel_rfl) (fun _ _ _ h => h) (Or.inl ⟨by rfl, ?_⟩) (by assumption) ?_
              rotate_left
              · intro w hSw; (try dsimp only at hSw); first | (go_simp; done) | (go_simp; with_reducible rfl)
              try simp only [Act.put, List.setIfInBounds_toArray, List.set_cons_zero, List.set_cons_succ]
              refine wpAnyH_done (by kernel_rfl) ?_ _
              refine NoPanic.normal ?_
              have HBB := Lib.hid (HN.out _ hE2.now).2
              clear hE2
              go_wp2
              go_ret
              refine ⟨ret_b ?_, HBW.out.trans (HBB.out.mono HZW.out)⟩
              rw [HB.out, decP_no (items_no HM.out HX.out HNO.out)]
            · have hle2I : decide (kN ≤ pN) = false := by simp; omega
              have HO : Hid (ItemOk ba its j x) := ⟨by rw [HXE.out.2]; exact Hhr.out, by rw [HXE.out.1]; have := Hlo.out; omega, fun y _ hy => by rw [HM1.out, Nat.add_sub_cancel, HPX.out] at hy; injection hy with hy; subst hy; rw [HXE.out.1, HPE.out]; omega⟩
              clear hle2
              have hE : Ever (fun w' => (w'.cell? ⟨wr.heap.size, 0, none⟩ = some (.int .u64 (kN : Int)) ∧ w'.cell? ⟨wr.heap.size, 1, none⟩ = some (.int .i64 kC) ∧ w'.cell? ⟨wr.heap.size, 2, none⟩ = some (.slice kA kn kc) ∧ w'.cell? ⟨g, 4, none⟩ = some (.int .u64 (ba : Int)) ∧ w'.cell? ⟨g, 8, none⟩ = some (.slice (some ⟨bb, o, none⟩) ni ci) ∧ w'.cell? ⟨bb, o + m * 3, none⟩ = some (.int .u64 (pN : Int))) ∧ Below wr.heap.size wr w') (wr.alloc (.cells #[.int .u64 (kN : Int), .int .i64 kC, .slice kA kn kc] 58)) := by
                intro w' hw
                have hb : Below wr.heap.size wr w' := (below_box wr (.cells #[.int .u64 (kN : Int), .int .i64 kC, .slice kA kn kc] 58)).trans (hw.mono (by simp))
                exact ⟨⟨ever_cell (cell_last wr _ _ _ 0 rfl) _ hw, ever_cell (cell_last wr _ _ _ 1 rfl) _ hw, ever_cell (cell_last wr _ _ _ 2 rfl) _ hw, (hb.cell (p := ⟨g, 4, none⟩) hgz).trans e4, (hb.cell (p := ⟨g, 8, none⟩) hgz).trans e8, (hb.cell (p := ⟨bb, o + m * 3, none⟩) hbz).trans dp⟩, hb⟩
              obtain ⟨Ps, HP⟩ : ∃ Ps : World → Prop, Hid (Ps = fun w' => (w'.cell? ⟨wr.heap.size, 0, none⟩ = some (.int .u64 (kN : Int)) ∧ w'.cell? ⟨wr.heap.size, 1, none⟩ = some (.int .i64 kC) ∧ w'.cell? ⟨wr.heap.size, 2, none⟩ = some (.slice kA kn kc) ∧ w'.cell? ⟨g, 4, none⟩ = some (.int .u64 (ba : Int)) ∧ w'.cell? ⟨g, 8, none⟩ = some (.slice (some ⟨bb, o, none⟩) ni ci) ∧ w'.cell? ⟨bb, o + m * 3, none⟩ = some (.int .u64 (pN : Int))) ∧ Below wr.heap.size wr w') := ⟨_, rfl⟩
              have HN : Hid (∀ w', Ps w' → (w'.cell? ⟨wr.heap.size, 0, none⟩ = some (.int .u64 (kN : Int)) ∧ w'.cell? ⟨wr.heap.size, 1, none⟩ = some (.int .i64 kC) ∧ w'.cell? ⟨wr.heap.size, 2, none⟩ = some (.slice kA kn kc) ∧ w'.cell? ⟨g, 4, none⟩ = some (.int .u64 (ba : Int)) ∧ w'.cell? ⟨g, 8, none⟩ = some (.slice (some ⟨bb, o, none⟩) ni ci) ∧ w'.cell? ⟨bb, o + m * 3, none⟩ = some (.int .u64 (pN : Int))) ∧ Below wr.heap.size wr w') := by rw [HP.out]; exact fun _ h => h
              replace hE : Ever Ps (wr.alloc (.cells #[.int .u64 (kN : Int), .int .i64 kC, .slice kA kn kc] 58)) := by rw [HP.out]; exact hE
              have HA : Hid (∀ w', Ps w' → Calls Tryd.prog 89 #[.agg #[.int .i64 kC, .slice kA kn kc]] w' (Says w' (.bool true))) := fun w' _ => by have := right_any w' kC kA kn kc; rw [Hhr.out] at this; exact this
              go_wp2_with fail
              have hE2 := hE.drewN 1
              clear hE HP d0 d1 d2 e4 e8 dp
              generalize wr.alloc (.cells #[.int .u64 (kN : Int), .int .i64 kC, .slice kA kn kc] 58) = wc at *
              refine wp_region_noPanic ?_
              refine wp_region_held_drew (S := (fun w' => (w'.cell? ⟨wr.heap.size, 0, none⟩ = some (.int .u64 (kN : Int)) ∧ w'.cell? ⟨wr.heap.size, 1, none⟩ = some (.int .i64 kC) ∧ w'.cell? ⟨wr.heap.size, 2, none⟩ = some (.slice kA kn kc) ∧ w'.cell? ⟨g, 4, none⟩ = some (.int .u64 (ba : Int)) ∧ w'.cell? ⟨g, 8, none⟩ = some (.slice (some ⟨bb, o, none⟩) ni ci) ∧ w'.cell? ⟨bb, o + m * 3, none⟩ = some (.int .u64 (pN : Int))) ∧ Ever Ps w')) (by kernel_rfl) ⟨(HN.out _ hE2.now).1, hE2⟩ (fun hHeld => ?_)
              refine wpAnyH_take (i := 0) (oi := { dst := some 17, op := Op.fieldAddr 58 (Operand.tmp 4) 1, type := 0, pos := "frame.go:148", after := #[], guard := none }) (v := ?_) rfl (by kernel_rfl) (by kernel_rfl) (by kernel_rfl) (fun _ _ _ h => h) (Or.inl ⟨by rfl, ?_⟩) (by assumption) ?_
              rotate_left
              · intro w hSw; (try dsimp only at hSw); first | (go_simp; done) | (go_simp; with_reducible rfl)
              try simp only [Act.put, List.setIfInBounds_toArray, List.set_cons_zero, List.set_cons_succ]
              refine wpAnyH_take (i := 1) (oi := { dst := some 18, op := Op.load 56 (Operand.tmp 17), type := 56, pos := "frame.go:148", after := #[{ on := 0, ground := Ground.data }], guard := none }) (v := ?_) rfl (by kernel_rfl) (by kernel_rfl) (by kernel_rfl) (fun _ _ _ h => h) (Or.inl ⟨by rfl, ?_⟩) (by assumption) ?_
              rotate_left
              · intro w hSw; (try dsimp only at hSw); first | (go_simp; done) | (go_simp; with_reducible rfl)
              try simp only [Act.put, List.setIfInBounds_toArray, List.set_cons_zero, List.set_cons_succ]
              refine wpAnyH_ready (rs := [2]) (by kernel_rfl) (by simp) ?_
              refine AllReadyH.cons (o := { dst := some 19, op := Op.call { callee := Callee.value (Operand.func 89), args := #[Operand.tmp 18], argTypes := #[56] }, type := 4, pos := "frame.go:148", after := #[{ on := 1, ground := Ground.data }], guard := none }) rfl (fun K hK => ?_) AllReadyH.nil
              go_simp
              go_at_call 89
              first | with_reducible refine calls_ever (Ps := Ps) (by assumption) HA.out ?_
              clear hE2
              intro w2 hE2
              go_wp2_with fail
              clear hHeld
              refine hK.out _ _ ⟨(HN.out _ hE2.now).1, hE2⟩ (fun hHeld => ?_)
              clear hK K
              try simp only [Act.put, List.setIfInBounds_toArray, List.set_cons_zero, List.set_cons_succ]
              refine wpAnyH_take (i := 3) (oi := { dst := some 20, op := Op.unOp UnOp.not 4 (Operand.tmp 19), type := 4, pos := "frame.go:148", after := #[{ on := 2, ground := Ground.data }], guard := none }) (v := ?_) rfl (by kernel_rfl) (by kernel_rfl) (by kernel_rfl) (fun _ _ _ h => h) (Or.inl ⟨by rfl, ?_⟩) (by assumption) ?_
              rotate_left
              · intro w hSw; (try dsimp only at hSw); first | (go_simp; done) | (go_simp; with_reducible rfl)
              try simp only [Act.put, List.setIfInBounds_toArray, List.set_cons_zero, List.set_cons_succ]
              refine wpAnyH_take (i := 4) (oi := { dst := some 21, op := Op.move (Operand.tmp 20), type := 4, pos := "frame.go:148", after := #[{ on := 3, ground := Ground.data }, { on := 2, ground := Ground.chain }], guard := none }) (v := ?_) rfl (by kernel_rfl) (by kernel_rfl) (by kernel_rfl) (fun _ _ _ h => h) (Or.inl ⟨by rfl, ?_⟩) (by assumption) ?_
              rotate_left
              · intro w hSw; (try dsimp only at hSw); first | (go_simp; done) | (go_simp; with_reducible rfl)
              try simp only [Act.put, List.setIfInBounds_toArray, List.set_cons_zero, List.set_cons_succ]
              refine wpAnyH_take (i := 5) (oi := { dst := some 22, op := Op.fieldAddr 58 (Operand.tmp 4) 0, type := 0, pos := "frame.go:148", after := #[{ on := 4, ground := Ground.guard }], guard := some (4, false) }) (v := ?_) rfl (by kernel_rfl) (by kernel_rfl) (by kernel_rfl) (fun _ _ _ h => h) (Or.inl ⟨by rfl, ?_⟩) (by assumption) ?_
              rotate_left
              · intro w hSw; (try dsimp only at hSw); first | (go_simp; done) | (go_simp; with_reducible rfl)
              try simp only [Act.put, List.setIfInBounds_toArray, List.set_cons_zero, List.set_cons_succ]
              refine wpAnyH_take (i := 6) (oi := { dst := some 23, op := Op.load 22 (Operand.tmp 22), type := 22, pos := "frame.go:148", after := #[{ on := 5, ground := Ground.data }, { on := 4, ground := Ground.guard }], guard := some (4, false) }) (v := ?_) rfl (by kernel_rfl) (by kernel_rfl) (by kernel_rfl) (fun _ _ _ h => h) (Or.inl ⟨by rfl, ?_⟩) (by assumption) ?_
              rotate_left
              · intro w hSw; (try dsimp only at hSw); first | (go_simp; done) | (go_simp; with_reducible rfl)
              try simp only [Act.put, List.setIfInBounds_toArray, List.set_cons_zero, List.set_cons_succ]
              refine wpAnyH_take (i := 7) (oi := { dst := some 24, op := Op.fieldAddr 26 (Operand.tmp 1) 4, type := 0, pos := "frame.go:148", after := #[{ on := 4, ground := Ground.guard }], guard := some (4, false) }) (v := ?_) rfl (by kernel_rfl) (by kernel_rfl) (by kernel_rfl) (fun _ _ _ h => h) (Or.inl ⟨by rfl, ?_⟩) (by assumption) ?_
              rotate_left
              · intro w hSw; (try dsimp only at hSw); first | (go_simp; done) | (go_simp; with_reducible rfl)
              try simp only [Act.put, List.setIfInBounds_toArray, List.set_cons_zero, List.set_cons_succ]
              refine wpAnyH_take (i := 8) (oi := { dst := some 25, op := Op.load 22 (Operand.tmp 24), type := 22, pos := "frame.go:148", after := #[{ on := 7, ground := Ground.data }, { on := 4, ground := Ground.guard }], guard := some (4, false) }) (v := ?_) rfl (by kernel_rfl) (by kernel_rfl) (by kernel_rfl) (fun _ _ _ h => h) (Or.inl ⟨by rfl, ?_⟩) (by assumption) ?_
              rotate_left
              · intro w hSw; (try dsimp only at hSw); first | (go_simp; done) | (go_simp; with_reducible rfl)
              try simp only [Act.put, List.setIfInBounds_toArray, List.set_cons_zero, List.set_cons_succ]
              refine wpAnyH_take (i := 9) (oi := { dst := some 26, op := Op.binOp BinOp.lss 22 (Operand.tmp 23) (Operand.tmp 25) 22, type := 4, pos := "frame.go:148", after := #[{ on := 6, ground := Ground.data }, { on := 8, ground := Ground.data }, { on := 4, ground := Ground.guard }], guard := some (4, false) }) (v := ?_) rfl (by kernel_rfl) (by kernel_rfl) (by kernel_rfl) (fun _ _ _ h => h) (Or.inl ⟨by rfl, ?_⟩) (by assumption) ?_
              rotate_left
              · intro w hSw; (try dsimp only at hSw); first | (go_simp; done) | (go_simp; with_reducible rfl)
              try simp only [Act.put, List.setIfInBounds_toArray, List.set_cons_zero, List.set_cons_succ]
              refine wpAnyH_take (i := 10) (oi := { dst := some 27, op := Op.pick (Operand.tmp 21) (Operand.const (Value.bool true)) (Operand.tmp 26), type := 4, pos := "frame.go:148", after := #[{ on := 4, ground := Ground.data }, { on := 9, ground := Ground.data }], guard := none }) (v := ?_) rfl (by kernel_rfl) (by kernel_rfl) (by kernel_rfl) (fun _ _ _ h => h) (Or.inl ⟨by rfl, ?_⟩) (by assumption) ?_
              rotate_left
              · intro w hSw; (try dsimp only at hSw); first | (go_simp; done) | (go_simp; with_reducible rfl)
              try simp only [Act.put, List.setIfInBounds_toArray, List.set_cons_zero, List.set_cons_succ]
              refine wpAnyH_take (i := 11) (oi := { dst := some 28, op := Op.move (Operand.tmp 27), type := 4, pos := "frame.go:148", after := #[{ on := 10, ground := Ground.data }, { on := 4, ground := Ground.chain }], guard := none }) (v := ?_) rfl (by kernel_rfl) (by kernel_rfl) (by kernel_rfl) (fun _ _ _ h => h) (Or.inl ⟨by rfl, ?_⟩) (by assumption) ?_
              rotate_left
              · intro w hSw; (try dsimp only at hSw); first | (go_simp; done) | (go_simp; with_reducible rfl)
              try simp only [Act.put, List.setIfInBounds_toArray, List.set_cons_zero, List.set_cons_succ]
              refine wpAnyH_take (i := 12) (oi := { dst := some 29, op := Op.move (Operand.tmp 3), type := 3, pos := "frame.go:148", after := #[{ on := 11, ground := Ground.guard }], guard := some (11, false) }) (v := ?_) rfl (by kernel_rfl) (by kernel_rfl) (by kernel_rfl) (fun _ _ _ h => h) (Or.inl ⟨by rfl, ?_⟩) (by assumption) ?_
              rotate_left
              · intro w hSw; (try dsimp only at hSw); first | (go_simp; done) | (go_simp; with_reducible rfl)
              try simp only [Act.put, List.setIfInBounds_toArray, List.set_cons_zero, List.set_cons_succ]
              refine wpAnyH_take (i := 13) (oi := { dst := some 30, op := Op.binOp BinOp.gtr 3 (Operand.tmp 29) (Operand.const (Value.int IntKind.i64 0)) 3, type := 4, pos := "frame.go:148", after := #[{ on := 12, ground := Ground.data }, { on := 11, ground := Ground.guard }], guard := some (11, false) }) (v := ?_) rfl (by kernel_rfl) (by kernel_rfl) (by kernel_rfl) (fun _ _ _ h => h) (Or.inl ⟨by rfl, ?_⟩) (by assumption) ?_
              rotate_left
              · intro w hSw; (try dsimp only at hSw); first | (go_simp; done) | (go_simp; with_reducible rfl)
              try simp only [Act.put, List.setIfInBounds_toArray, List.set_cons_zero, List.set_cons_succ]
              refine wpAnyH_take (i := 14) (oi := { dst := some 31, op := Op.move (Operand.tmp 30), type := 4, pos := "frame.go:148", after := #[{ on := 13, ground := Ground.data }, { on := 11, ground := Ground.chain }, { on := 11, ground := Ground.guard }], guard := some (11, false) }) (v := ?_) rfl (by kernel_rfl) (by kernel_rfl) (by kernel_rfl) (fun _ _ _ h => h) (Or.inl ⟨by rfl, ?_⟩) (by assumption) ?_
              rotate_left
              · intro w hSw; (try dsimp only at hSw); first | (go_simp; done) | (go_simp; with_reducible rfl)
              try simp only [Act.put, List.setIfInBounds_toArray, List.set_cons_zero, List.set_cons_succ]
              refine wpAnyH_take (i := 15) (oi := { dst := some 32, op := Op.fieldAddr 58 (Operand.tmp 4) 0, type := 0, pos := "frame.go:148", after := #[{ on := 14, ground := Ground.guard }], guard := some (14, true) }) (v := ?_) rfl (by kernel_rfl) (by kernel_rfl) (by kernel_rfl) (fun _ _ _ h => h) (Or.inl ⟨by rfl, ?_⟩) (by assumption) ?_
              rotate_left
              · intro w hSw; (try dsimp only at hSw); first | (go_simp; done) | (go_simp; with_reducible rfl)
              try simp only [Act.put, List.setIfInBounds_toArray, List.set_cons_zero, List.set_cons_succ]
              refine wpAnyH_take (i := 16) (oi := { dst := some 33, op := Op.load 22 (Operand.tmp 32), type := 22, pos := "frame.go:148", after := #[{ on := 15, ground := Ground.data }, { on := 14, ground := Ground.guard }], guard := some (14, true) }) (v := ?_) rfl (by kernel_rfl) (by kernel_rfl) (by kernel_rfl) (fun _ _ _ h => h) (Or.inl ⟨by rfl, ?_⟩) (by assumption) ?_
              rotate_left
              · intro w hSw; (try dsimp only at hSw); first | (go_simp; done) | (go_simp; with_reducible rfl)
              try simp only [Act.put, List.setIfInBounds_toArray, List.set_cons_zero, List.set_cons_succ]
              refine wpAnyH_take (i := 17) (oi := { dst := some 34, op := Op.fieldAddr 26 (Operand.tmp 1) 8, type := 0, pos := "frame.go:148", after := #[{ on := 14, ground := Ground.guard }], guard := some (14, true) }) (v := ?_) rfl (by kernel_rfl) (by kernel_rfl) (by kernel_rfl) (fun _ _ _ h => h) (Or.inl ⟨by rfl, ?_⟩) (by assumption) ?_
              rotate_left
              · intro w hSw; (try dsimp only at hSw); first | (go_simp; done) | (go_simp; with_reducible rfl)
              try simp only [Act.put, List.setIfInBounds_toArray, List.set_cons_zero, List.set_cons_succ]
              refine wpAnyH_take (i := 18) (oi := { dst := some 35, op := Op.load 24 (Operand.tmp 34), type := 24, pos := "frame.go:148", after := #[{ on := 17, ground := Ground.data }, { on := 14, ground := Ground.guard }], guard := some (14, true) }) (v := ?_) rfl (by kernel_rfl) (by kernel_rfl) (by kernel_rfl) (fun _ _ _ h => h) (Or.inl ⟨by rfl, ?_⟩) (by assumption) ?_
              rotate_left
              · intro w hSw; (try dsimp only at hSw); first | (go_simp; done) | (go_simp; with_reducible rfl)
              try simp only [Act.put, List.setIfInBounds_toArray, List.set_cons_zero, List.set_cons_succ]
              refine wpAnyH_take (i := 19) (oi := { dst := some 36, op := Op.move (Operand.tmp 3), type := 3, pos := "frame.go:148", after := #[{ on := 14, ground := Ground.guard }], guard := some (14, true) }) (v := ?_) rfl (by kernel_rfl) (by kernel_rfl) (by kernel_rfl) (fun _ _ _ h => h) (Or.inl ⟨by rfl, ?_⟩) (by assumption) ?_
              rotate_left
              · intro w hSw; (try dsimp only at hSw); first | (go_simp; done) | (go_simp; with_reducible rfl)
              try simp only [Act.put, List.setIfInBounds_toArray, List.set_cons_zero, List.set_cons_succ]
              refine wpAnyH_take (i := 20) (oi := { dst := some 37, op := Op.binOp BinOp.sub 3 (Operand.tmp 36) (Operand.const (Value.int IntKind.i64 1)) 3, type := 3, pos := "frame.go:148", after := #[{ on := 19, ground := Ground.data }, { on := 14, ground := Ground.guard }], guard := some (14, true) }) (v := ?_) rfl (by kernel_rfl) (by kernel_rfl) (by kernel_rfl) (fun _ _ _ h => h) (Or.inl ⟨by rfl, ?_⟩) (by assumption) ?_
              rotate_left
              · intro w hSw; (try dsimp only at hSw); first | (go_simp; done) | (go_simp; with_reducible rfl)
              try simp only [Act.put, List.setIfInBounds_toArray, List.set_cons_zero, List.set_cons_succ]
              refine wpAnyH_take (i := 21) (oi := { dst := some 38, op := Op.indexAddr 24 (Operand.tmp 35) (Operand.tmp 37), type := 0, pos := "frame.go:148", after := #[{ on := 18, ground := Ground.data }, { on := 20, ground := Ground.data }, { on := 14, ground := Ground.guard }], guard := some (14, true) }) (v := ?_) rfl (by kernel_rfl) (by kernel_rfl) (by kernel_rfl) (fun _ _ _ h => h) (Or.inl ⟨by rfl, ?_⟩) (by assumption) ?_
              rotate_left
              · intro w hSw; (try dsimp only at hSw); first | (go_simp; done) | (go_simp; with_reducible rfl)
              try simp only [Act.put, List.setIfInBounds_toArray, List.set_cons_zero, List.set_cons_succ]
              refine wpAnyH_take (i := 22) (oi := { dst := some 39, op := Op.fieldAddr 58 (Operand.tmp 38) 0, type := 0, pos := "frame.go:148", after := #[{ on := 21, ground := Ground.data }, { on := 14, ground := Ground.guard }], guard := some (14, true) }) (v := ?_) rfl (by kernel_rfl) (by kernel_rfl) (by kernel_rfl) (fun _ _ _ h => h) (Or.inl ⟨by rfl, ?_⟩) (by assumption) ?_
              rotate_left
              · intro w hSw; (try dsimp only at hSw); first | (go_simp; done) | (go_simp; with_reducible rfl)
              try simp only [Act.put, List.setIfInBounds_toArray, List.set_cons_zero, List.set_cons_succ]
              refine wpAnyH_take (i := 23) (oi := { dst := some 40, op := Op.load 22 (Operand.tmp 39), type := 22, pos := "frame.go:148", after := #[{ on := 22, ground := Ground.data }, { on := 14, ground := Ground.guard }], guard := some (14, true) }) (v := ?_) rfl (by kernel_rfl) (by kernel_rfl) (by kernel_rfl) (fun _ _ _ h => h) (Or.inl ⟨by rfl, ?_⟩) (by assumption) ?_
              rotate_left
              · intro w hSw; (try dsimp only at hSw); first | (go_simp; done) | (go_simp; with_reducible rfl)
              try simp only [Act.put, List.setIfInBounds_toArray, List.set_cons_zero, List.set_cons_succ]
              refine wpAnyH_take (i := 24) (oi := { dst := some 41, op := Op.binOp BinOp.leq 22 (Operand.tmp 33) (Operand.tmp 40) 22, type := 4, pos := "frame.go:148", after := #[{ on := 16, ground := Ground.data }, { on := 23, ground := Ground.data }, { on := 14, ground := Ground.guard }], guard := some (14, true) }) (v := ?_) rfl (by kernel_rfl) (by kernel_rfl) (by kernel_rfl) (fun _ _ _ h => h) (Or.inl ⟨by rfl, ?_⟩) (by assumption) ?_
              rotate_left
              · intro w hSw; (try dsimp only at hSw); first | (go_simp; done) | (go_simp; with_reducible rfl)
              try simp only [Act.put, List.setIfInBounds_toArray, List.set_cons_zero, List.set_cons_succ]
              refine wpAnyH_take (i := 25) (oi := { dst := some 42, op := Op.pick (Operand.tmp 31) (Operand.tmp 41) (Operand.const (Value.bool false)), type := 4, pos := "frame.go:148", after := #[{ on := 14, ground := Ground.data }, { on := 24, ground := Ground.data }, { on := 11, ground := Ground.guard }], guard := some (11, false) }) (v := ?_) rfl (by kernel_rfl) (by kernel_rfl) (by kernel_rfl) (fun _ _ _ h => h) (Or.inl ⟨by rfl, ?_⟩) (by assumption) ?_
              rotate_left
              · intro w hSw; (try dsimp only at hSw); first | (go_simp; done) | (go_simp; with_reducible rfl)
              try simp only [Act.put, List.setIfInBounds_toArray, List.set_cons_zero, List.set_cons_succ]
              refine wpAnyH_take (i := 26) (oi := { dst := some 43, op := Op.pick (Operand.tmp 28) (Operand.const (Value.bool true)) (Operand.tmp 42), type := 4, pos := "frame.go:148", after := #[{ on := 11, ground := Ground.data }, { on := 25, ground := Ground.data }], guard := none }) (v := ?_) rfl (by kernel_rfl) (by kernel_rfl) (by kernel_rfl) (fun _ _ _ h => h) (Or.inl ⟨by rfl, ?_⟩) (by assumption) ?_
              rotate_left
              · intro w hSw; (try dsimp only at hSw); first | (go_simp; done) | (go_simp; with_reducible rfl)
              try simp only [Act.put, List.setIfInBounds_toArray, List.set_cons_zero, List.set_cons_succ]
              refine wpAnyH_done (by kernel_rfl) ?_ _
              refine NoPanic.normal ?_
              have HBB := Lib.hid (HN.out _ hE2.now).2
              clear hE2
              go_wp2
              rw [HG.out]
              go_roundg (gk - 1)
              case measure => have := HJ.out; omega
              case rel =>
                refine ⟨j + 1, by have := HJ.out; omega, by go_num, fun t y ht hy => ?_, HRB.out.trans (HBB.out.mono HRB.out.size)⟩
                rcases Nat.lt_or_ge t j with h1 | h1
                · exact HOK.out t y h1 hy
                · have e : t = j := by omega
                  subst e
                  rw [HX.out] at hy
                  injection hy with hy
                  subst hy
                  exact HO.out
      · have hrf : rightB kC kn = false := by simpa using hr
        have Hhr := Lib.hid hrf; clear hr hrf
        have HNO : Hid (¬ ItemOk ba its j x) := fun h => by have h1 := h.1; rw [HXE.out.2, Hhr.out] at h1; cases h1
        have hE : Ever (fun w' => (w'.cell? ⟨wr.heap.size, 0, none⟩ = some (.int .u64 (kN : Int)) ∧ w'.cell? ⟨wr.heap.size, 1, none⟩ = some (.int .i64 kC) ∧ w'.cell? ⟨wr.heap.size, 2, none⟩ = some (.slice kA kn kc) ∧ w'.cell? ⟨g, 4, none⟩ = some (.int .u64 (ba : Int)) ∧ w'.cell? ⟨g, 8, none⟩ = some (.slice (some ⟨bb, o, none⟩) ni ci)) ∧ Below wr.heap.size wr w') (wr.alloc (.cells #[.int .u64 (kN : Int), .int .i64 kC, .slice kA kn kc] 58)) := by
          intro w' hw
          have hb : Below wr.heap.size wr w' := (below_box wr (.cells #[.int .u64 (kN : Int), .int .i64 kC, .slice kA kn kc] 58)).trans (hw.mono (by simp))
          exact ⟨⟨ever_cell (cell_last wr _ _ _ 0 rfl) _ hw, ever_cell (cell_last wr _ _ _ 1 rfl) _ hw, ever_cell (cell_last wr _ _ _ 2 rfl) _ hw, (hb.cell (p := ⟨g, 4, none⟩) hgz).trans e4, (hb.cell (p := ⟨g, 8, none⟩) hgz).trans e8⟩, hb⟩
        obtain ⟨Ps, HP⟩ : ∃ Ps : World → Prop, Hid (Ps = fun w' => (w'.cell? ⟨wr.heap.size, 0, none⟩ = some (.int .u64 (kN : Int)) ∧ w'.cell? ⟨wr.heap.size, 1, none⟩ = some (.int .i64 kC) ∧ w'.cell? ⟨wr.heap.size, 2, none⟩ = some (.slice kA kn kc) ∧ w'.cell? ⟨g, 4, none⟩ = some (.int .u64 (ba : Int)) ∧ w'.cell? ⟨g, 8, none⟩ = some (.slice (some ⟨bb, o, none⟩) ni ci)) ∧ Below wr.heap.size wr w') := ⟨_, rfl⟩
        have HN : Hid (∀ w', Ps w' → (w'.cell? ⟨wr.heap.size, 0, none⟩ = some (.int .u64 (kN : Int)) ∧ w'.cell? ⟨wr.heap.size, 1, none⟩ = some (.int .i64 kC) ∧ w'.cell? ⟨wr.heap.size, 2, none⟩ = some (.slice kA kn kc) ∧ w'.cell? ⟨g, 4, none⟩ = some (.int .u64 (ba : Int)) ∧ w'.cell? ⟨g, 8, none⟩ = some (.slice (some ⟨bb, o, none⟩) ni ci)) ∧ Below wr.heap.size wr w') := by rw [HP.out]; exact fun _ h => h
        replace hE : Ever Ps (wr.alloc (.cells #[.int .u64 (kN : Int), .int .i64 kC, .slice kA kn kc] 58)) := by rw [HP.out]; exact hE
        have HA : Hid (∀ w', Ps w' → Calls Tryd.prog 89 #[.agg #[.int .i64 kC, .slice kA kn kc]] w' (Says w' (.bool false))) := fun w' _ => by have := right_any w' kC kA kn kc; rw [Hhr.out] at this; exact this
        go_wp2_with fail
        have hE2 := hE.drewN 1
        clear hE HP d0 d1 d2 e4 e8
        generalize wr.alloc (.cells #[.int .u64 (kN : Int), .int .i64 kC, .slice kA kn kc] 58) = wc at *
        refine wp_region_noPanic ?_
        refine wp_region_held_drew (S := (fun w' => (w'.cell? ⟨wr.heap.size, 0, none⟩ = some (.int .u64 (kN : Int)) ∧ w'.cell? ⟨wr.heap.size, 1, none⟩ = some (.int .i64 kC) ∧ w'.cell? ⟨wr.heap.size, 2, none⟩ = some (.slice kA kn kc) ∧ w'.cell? ⟨g, 4, none⟩ = some (.int .u64 (ba : Int)) ∧ w'.cell? ⟨g, 8, none⟩ = some (.slice (some ⟨bb, o, none⟩) ni ci)) ∧ Ever Ps w')) (by kernel_rfl) ⟨(HN.out _ hE2.now).1, hE2⟩ (fun hHeld => ?_)
        refine wpAnyH_take (i := 0) (oi := { dst := some 17, op := Op.fieldAddr 58 (Operand.tmp 4) 1, type := 0, pos := "frame.go:148", after := #[], guard := none }) (v := ?_) rfl (by kernel_rfl) (by kernel_rfl) (by kernel_rfl) (fun _ _ _ h => h) (Or.inl ⟨by rfl, ?_⟩) (by assumption) ?_
        rotate_left
        · intro w hSw; (try dsimp only at hSw); first | (go_simp; done) | (go_simp; with_reducible rfl)
        try simp only [Act.put, List.setIfInBounds_toArray, List.set_cons_zero, List.set_cons_succ]
        refine wpAnyH_take (i := 1) (oi := { dst := some 18, op := Op.load 56 (Operand.tmp 17), type := 56, pos := "frame.go:148", after := #[{ on := 0, ground := Ground.data }], guard := none }) (v := ?_) rfl (by kernel_rfl) (by kernel_rfl) (by kernel_rfl) (fun _ _ _ h => h) (Or.inl ⟨by rfl, ?_⟩) (by assumption) ?_
        rotate_left
        · intro w hSw; (try dsimp only at hSw); first | (go_simp; done) | (go_simp; with_reducible rfl)
        try simp only [Act.put, List.setIfInBounds_toArray, List.set_cons_zero, List.set_cons_succ]
        refine wpAnyH_ready (rs := [2]) (by kernel_rfl) (by simp) ?_
        refine AllReadyH.cons (o := { dst := some 19, op := Op.call { callee := Callee.value (Operand.func 89), args := #[Operand.tmp 18], argTypes := #[56] }, type := 4, pos := "frame.go:148", after := #[{ on := 1, ground := Ground.data }], guard := none }) rfl (fun K hK => ?_) AllReadyH.nil
        go_simp
        go_at_call 89
        first | with_reducible refine calls_ever (Ps := Ps) (by assumption) HA.out ?_
        clear hE2
        intro w2 hE2
        go_wp2_with fail
        clear hHeld
        refine hK.out _ _ ⟨(HN.out _ hE2.now).1, hE2⟩ (fun hHeld => ?_)
        clear hK K
        try simp only [Act.put, List.setIfInBounds_toArray, List.set_cons_zero, List.set_cons_succ]
        refine wpAnyH_take (i := 3) (oi := { dst := some 20, op := Op.unOp UnOp.not 4 (Operand.tmp 19), type := 4, pos := "frame.go:148", after := #[{ on := 2, ground := Ground.data }], guard := none }) (v := ?_) rfl (by kernel_rfl) (by kernel_rfl) (by kernel_rfl) (fun _ _ _ h => h) (Or.inl ⟨by rfl, ?_⟩) (by assumption) ?_
        rotate_left
        · intro w hSw; (try dsimp only at hSw); first | (go_simp; done) | (go_simp; with_reducible rfl)
        try simp only [Act.put, List.setIfInBounds_toArray, List.set_cons_zero, List.set_cons_succ]
        refine wpAnyH_take (i := 4) (oi := { dst := some 21, op := Op.move (Operand.tmp 20), type := 4, pos := "frame.go:148", after := #[{ on := 3, ground := Ground.data }, { on := 2, ground := Ground.chain }], guard := none }) (v := ?_) rfl (by kernel_rfl) (by kernel_rfl) (by kernel_rfl) (fun _ _ _ h => h) (Or.inl ⟨by rfl, ?_⟩) (by assumption) ?_
        rotate_left
        · intro w hSw; (try dsimp only at hSw); first | (go_simp; done) | (go_simp; with_reducible rfl)
        try simp only [Act.put, List.setIfInBounds_toArray, List.set_cons_zero, List.set_cons_succ]
        refine wpAnyH_take (i := 5) (oi := { dst := some 22, op := Op.fieldAddr 58 (Operand.tmp 4) 0, type := 0, pos := "frame.go:148", after := #[{ on := 4, ground := Ground.guard }], guard := some (4, false) }) (v := undef) rfl (by kernel_rfl) (by kernel_rfl) (by kernel_rfl) (fun _ _ _ h => h) (Or.inr ⟨by rfl, rfl⟩) (by assumption) ?_
        try simp only [Act.put, List.setIfInBounds_toArray, List.set_cons_zero, List.set_cons_succ]
        refine wpAnyH_take (i := 6) (oi := { dst := some 23, op := Op.load 22 (Operand.tmp 22), type := 22, pos := "frame.go:148", after := #[{ on := 5, ground := Ground.data }, { on := 4, ground := Ground.guard }], guard := some (4, false) }) (v := undef) rfl (by kernel_rfl) (by kernel_rfl) (by kernel_rfl) (fun _ _ _ h => h) (Or.inr ⟨by rfl, rfl⟩) (by assumption) ?_
        try simp only [Act.put, List.setIfInBounds_toArray, List.set_cons_zero, List.set_cons_succ]
        refine wpAnyH_take (i := 7) (oi := { dst := some 24, op := Op.fieldAddr 26 (Operand.tmp 1) 4, type := 0, pos := "frame.go:148", after := #[{ on := 4, ground := Ground.guard }], guard := some (4, false) }) (v := undef) rfl (by kernel_rfl) (by kernel_rfl) (by kernel_rfl) (fun _ _ _ h => h) (Or.inr ⟨by rfl, rfl⟩) (by assumption) ?_
        try simp only [Act.put, List.setIfInBounds_toArray, List.set_cons_zero, List.set_cons_succ]
        refine wpAnyH_take (i := 8) (oi := { dst := some 25, op := Op.load 22 (Operand.tmp 24), type := 22, pos := "frame.go:148", after := #[{ on := 7, ground := Ground.data }, { on := 4, ground := Ground.guard }], guard := some (4, false) }) (v := undef) rfl (by kernel_rfl) (by kernel_rfl) (by kernel_rfl) (fun _ _ _ h => h) (Or.inr ⟨by rfl, rfl⟩) (by assumption) ?_
        try simp only [Act.put, List.setIfInBounds_toArray, List.set_cons_zero, List.set_cons_succ]
        refine wpAnyH_take (i := 9) (oi := { dst := some 26, op := Op.binOp BinOp.lss 22 (Operand.tmp 23) (Operand.tmp 25) 22, type := 4, pos := "frame.go:148", after := #[{ on := 6, ground := Ground.data }, { on := 8, ground := Ground.data }, { on := 4, ground := Ground.guard }], guard := some (4, false) }) (v := undef) rfl (by kernel_rfl) (by kernel_rfl) (by kernel_rfl) (fun _ _ _ h => h) (Or.inr ⟨by rfl, rfl⟩) (by assumption) ?_
        try simp only [Act.put, List.setIfInBounds_toArray, List.set_cons_zero, List.set_cons_succ]
        refine wpAnyH_take (i := 10) (oi := { dst := some 27, op := Op.pick (Operand.tmp 21) (Operand.const (Value.bool true)) (Operand.tmp 26), type := 4, pos := "frame.go:148", after := #[{ on := 4, ground := Ground.data }, { on := 9, ground := Ground.data }], guard := none }) (v := ?_) rfl (by kernel_rfl) (by kernel_rfl) (by kernel_rfl) (fun _ _ _ h => h) (Or.inl ⟨by rfl, ?_⟩) (by assumption) ?_
        rotate_left
        · intro w hSw; (try dsimp only at hSw); first | (go_simp; done) | (go_simp; with_reducible rfl)
        try simp only [Act.put, List.setIfInBounds_toArray, List.set_cons_zero, List.set_cons_succ]
        refine wpAnyH_take (i := 11) (oi := { dst := some 28, op := Op.move (Operand.tmp 27), type := 4, pos := "frame.go:148", after := #[{ on := 10, ground := Ground.data }, { on := 4, ground := Ground.chain }], guard := none }) (v := ?_) rfl (by kernel_rfl) (by kernel_rfl) (by kernel_rfl) (fun _ _ _ h => h) (Or.inl ⟨by rfl, ?_⟩) (by assumption) ?_
        rotate_left
        · intro w hSw; (try dsimp only at hSw); first | (go_simp; done) | (go_simp; with_reducible rfl)
        try simp only [Act.put, List.setIfInBounds_toArray, List.set_cons_zero, List.set_cons_succ]
        refine wpAnyH_take (i := 12) (oi := { dst := some 29, op := Op.move (Operand.tmp 3), type := 3, pos := "frame.go:148", after := #[{ on := 11, ground := Ground.guard }], guard := some (11, false) }) (v := undef) rfl (by kernel_rfl) (by kernel_rfl) (by kernel_rfl) (fun _ _ _ h => h) (Or.inr ⟨by rfl, rfl⟩) (by assumption) ?_
        try simp only [Act.put, List.setIfInBounds_toArray, List.set_cons_zero, List.set_cons_succ]
        refine wpAnyH_take (i := 13) (oi := { dst := some 30, op := Op.binOp BinOp.gtr 3 (Operand.tmp 29) (Operand.const (Value.int IntKind.i64 0)) 3, type := 4, pos := "frame.go:148", after := #[{ on := 12, ground := Ground.data }, { on := 11, ground := Ground.guard }], guard := some (11, false) }) (v := undef) rfl (by kernel_rfl) (by kernel_rfl) (by kernel_rfl) (fun _ _ _ h => h) (Or.inr ⟨by rfl, rfl⟩) (by assumption) ?_
        try simp only [Act.put, List.setIfInBounds_toArray, List.set_cons_zero, List.set_cons_succ]
        refine wpAnyH_take (i := 14) (oi := { dst := some 31, op := Op.move (Operand.tmp 30), type := 4, pos := "frame.go:148", after := #[{ on := 13, ground := Ground.data }, { on := 11, ground := Ground.chain }, { on := 11, ground := Ground.guard }], guard := some (11, false) }) (v := undef) rfl (by kernel_rfl) (by kernel_rfl) (by kernel_rfl) (fun _ _ _ h => h) (Or.inr ⟨by rfl, rfl⟩) (by assumption) ?_
        try simp only [Act.put, List.setIfInBounds_toArray, List.set_cons_zero, List.set_cons_succ]
        refine wpAnyH_take (i := 15) (oi := { dst := some 32, op := Op.fieldAddr 58 (Operand.tmp 4) 0, type := 0, pos := "frame.go:148", after := #[{ on := 14, ground := Ground.guard }], guard := some (14, true) }) (v := undef) rfl (by kernel_rfl) (by kernel_rfl) (by kernel_rfl) (fun _ _ _ h => h) (Or.inr ⟨by rfl, rfl⟩) (by assumption) ?_
        try simp only [Act.put, List.setIfInBounds_toArray, List.set_cons_zero, List.set_cons_succ]
        refine wpAnyH_take (i := 16) (oi := { dst := some 33, op := Op.load 22 (Operand.tmp 32), type := 22, pos := "frame.go:148", after := #[{ on := 15, ground := Ground.data }, { on := 14, ground := Ground.guard }], guard := some (14, true) }) (v := undef) rfl (by kernel_rfl) (by kernel_rfl) (by kernel_rfl) (fun _ _ _ h => h) (Or.inr ⟨by rfl, rfl⟩) (by assumption) ?_
        try simp only [Act.put, List.setIfInBounds_toArray, List.set_cons_zero, List.set_cons_succ]
        refine wpAnyH_take (i := 17) (oi := { dst := some 34, op := Op.fieldAddr 26 (Operand.tmp 1) 8, type := 0, pos := "frame.go:148", after := #[{ on := 14, ground := Ground.guard }], guard := some (14, true) }) (v := undef) rfl (by kernel_rfl) (by kernel_rfl) (by kernel_rfl) (fun _ _ _ h => h) (Or.inr ⟨by rfl, rfl⟩) (by assumption) ?_
        try simp only [Act.put, List.setIfInBounds_toArray, List.set_cons_zero, List.set_cons_succ]
        refine wpAnyH_take (i := 18) (oi := { dst := some 35, op := Op.load 24 (Operand.tmp 34), type := 24, pos := "frame.go:148", after := #[{ on := 17, ground := Ground.data }, { on := 14, ground := Ground.guard }], guard := some (14, true) }) (v := undef) rfl (by kernel_rfl) (by kernel_rfl) (by kernel_rfl) (fun _ _ _ h => h) (Or.inr ⟨by rfl, rfl⟩) (by assumption) ?_
        try simp only [Act.put, List.setIfInBounds_toArray, List.set_cons_zero, List.set_cons_succ]
        refine wpAnyH_take (i := 19) (oi := { dst := some 36, op := Op.move (Operand.tmp 3), type := 3, pos := "frame.go:148", after := #[{ on := 14, ground := Ground.guard }], guard := some (14, true) }) (v := undef) rfl (by kernel_rfl) (by kernel_rfl) (by kernel_rfl) (fun _ _ _ h => h) (Or.inr ⟨by rfl, rfl⟩) (by assumption) ?_
        try simp only [Act.put, List.setIfInBounds_toArray, List.set_cons_zero, List.set_cons_succ]
        refine wpAnyH_take (i := 20) (oi := { dst := some 37, op := Op.binOp BinOp.sub 3 (Operand.tmp 36) (Operand.const (Value.int IntKind.i64 1)) 3, type := 3, pos := "frame.go:148", after := #[{ on := 19, ground := Ground.data }, { on := 14, ground := Ground.guard }], guard := some (14, true) }) (v := undef) rfl (by kernel_rfl) (by kernel_rfl) (by kernel_rfl) (fun _ _ _ h => h) (Or.inr ⟨by rfl, rfl⟩) (by assumption) ?_
        try simp only [Act.put, List.setIfInBounds_toArray, List.set_cons_zero, List.set_cons_succ]
        refine wpAnyH_take (i := 21) (oi := { dst := some 38, op := Op.indexAddr 24 (Operand.tmp 35) (Operand.tmp 37), type := 0, pos := "frame.go:148", after := #[{ on := 18, ground := Ground.data }, { on := 20, ground := Ground.data }, { on := 14, ground := Ground.guard }], guard := some (14, true) }) (v := undef) rfl (by kernel_rfl) (by kernel_rfl) (by kernel_rfl) (fun _ _ _ h => h) (Or.inr ⟨by rfl, rfl⟩) (by assumption) ?_
        try simp only [Act.put, List.setIfInBounds_toArray, List.set_cons_zero, List.set_cons_succ]
        refine wpAnyH_take (i := 22) (oi := { dst := some 39, op := Op.fieldAddr 58 (Operand.tmp 38) 0, type := 0, pos := "frame.go:148", after := #[{ on := 21, ground := Ground.data }, { on := 14, ground := Ground.guard }], guard := some (14, true) }) (v := undef) rfl (by kernel_rfl) (by kernel_rfl) (by kernel_rfl) (fun _ _ _ h => h) (Or.inr ⟨by rfl, rfl⟩) (by assumption) ?_
        try simp only [Act.put, List.setIfInBounds_toArray, List.set_cons_zero, List.set_cons_succ]
        refine wpAnyH_take (i := 23) (oi := { dst := some 40, op := Op.load 22 (Operand.tmp 39), type := 22, pos := "frame.go:148", after := #[{ on := 22, ground := Ground.data }, { on := 14, ground := Ground.guard }], guard := some (14, true) }) (v := undef) rfl (by kernel_rfl) (by kernel_rfl) (by kernel_rfl) (fun _ _ _ h => h) (Or.inr ⟨by rfl, rfl⟩) (by assumption) ?_
        try simp only [Act.put, List.setIfInBounds_toArray, List.set_cons_zero, List.set_cons_succ]
        refine wpAnyH_take (i := 24) (oi := { dst := some 41, op := Op.binOp BinOp.leq 22 (Operand.tmp 33) (Operand.tmp 40) 22, type := 4, pos := "frame.go:148", after := #[{ on := 16, ground := Ground.data }, { on := 23, ground := Ground.data }, { on := 14, ground := Ground.guard }], guard := some (14, true) }) (v := undef) rfl (by kernel_rfl) (by kernel_rfl) (by kernel_rfl) (fun _ _ _ h => h) (Or.inr ⟨by rfl, rfl⟩) (by assumption) ?_
        try simp only [Act.put, List.setIfInBounds_toArray, List.set_cons_zero, List.set_cons_succ]
        refine wpAnyH_take (i := 25) (oi := { dst := some 42, op := Op.pick (Operand.tmp 31) (Operand.tmp 41) (Operand.const (Value.bool false)), type := 4, pos := "frame.go:148", after := #[{ on := 14, ground := Ground.data }, { on := 24, ground := Ground.data }, { on := 11, ground := Ground.guard }], guard := some (11, false) }) (v := undef) rfl (by kernel_rfl) (by kernel_rfl) (by kernel_rfl) (fun _ _ _ h => h) (Or.inr ⟨by rfl, rfl⟩) (by assumption) ?_
        try simp only [Act.put, List.setIfInBounds_toArray, List.set_cons_zero, List.set_cons_succ]
        refine wpAnyH_take (i := 26) (oi := { dst := some 43, op := Op.pick (Operand.tmp 28) (Operand.const (Value.bool true)) (Operand.tmp 42), type := 4, pos := "frame.go:148", after := #[{ on := 11, ground := Ground.data }, { on := 25, ground := Ground.data }], guard := none }) (v := ?_) rfl (by kernel_rfl) (by kernel_rfl) (by kernel_rfl) (fun _ _ _ h => h) (Or.inl ⟨by rfl, ?_⟩) (by assumption) ?_
        rotate_left
        · intro w hSw; (try dsimp only at hSw); first | (go_simp; done) | (go_simp; with_reducible rfl)
        try simp only [Act.put, List.setIfInBounds_toArray, List.set_cons_zero, List.set_cons_succ]
        refine wpAnyH_done (by kernel_rfl) ?_ _
        refine NoPanic.normal ?_
        have HBB := Lib.hid (HN.out _ hE2.now).2
        clear hE2
        go_wp2
        go_ret
        refine ⟨ret_b ?_, HBW.out.trans (HBB.out.mono HZW.out)⟩
        rw [HB.out, decP_no (items_no HM.out HX.out HNO.out)]
    · go_wp2
      go_ret
      refine ⟨ret_b ?_, hbx.trans (hbr.mono (Nat.le_of_lt hzb))⟩
      rw [HB.out, decP_yes]
      refine ⟨by rw [HM.out.1, HL.out]; have := H64.out; omega, fun t x hx => ?_⟩
      rw [HM.out.1] at hx ⊢
      rw [HM.out.2]
      have := (List.getElem?_eq_some_iff.1 hx).1
      rw [HL.out] at this
      exact HOK.out t x (by omega) hx
end Go.Proofs.YtlkcnpmgafckoaaDoor
