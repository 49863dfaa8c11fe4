/-
  CONTRACT of the reference's Right (layer 5): an answer.
  No statement is proved here.
-/
import Derived.Test.YtlkcnpmgafckoaaDoorRefRightA
namespace Go.Proofs.YtlkcnpmgafckoaaDoor
open Go.RowKit

set_option maxRecDepth 100000 in
set_option maxHeartbeats 4000000 in
theorem refRight4_any (w : World) (f : Fv) (h : FrAt w f) (hk : f.kd = 4) (hsr : f.nr ≤ 40) (hsi : f.ni ≤ 70) :
    Calls Tryd.prog 13 #[f.r] w (Says w (.bool (decP (RightP f.m)))) := by
  have hN : RightP f.m ↔ 0 ≤ f.ag ∧ f.ag < 16 ∧ 1 ≤ f.ep ∧ f.ba = 0 ∧ f.ni = 0 ∧ f.cu ≤ f.li ∧ RunsP f.m := by
    have e : f.m.kd = 4 := hk
    have e0 : AnswerP f.m ↔ f.ba = 0 ∧ f.ni = 0 ∧ f.cu ≤ f.li ∧ RunsP f.m := by
      unfold AnswerP
      have e1 : f.m.its = [] ↔ f.ni = 0 := h.items0
      rw [e1]
      exact Iff.rfl
    rw [← e0]
    unfold RightP PartsP
    rw [e]
    constructor
    · rintro ⟨h1, h2, h3, h4⟩
      refine ⟨h1, h2, h3, ?_⟩
      rcases h4 with h4 | h4 | h4
      all_goals first | exact h4.2 | (exfalso; omega)
    · rintro ⟨h1, h2, h3, h4⟩
      exact ⟨h1, h2, h3, by first | exact .inl ⟨rfl, h4⟩ | exact .inr (.inl ⟨by omega, h4⟩) | exact .inr (.inr ⟨rfl, h4⟩)⟩
  obtain ⟨b, HB⟩ : ∃ b, Hid (b = decP (RightP f.m)) := ⟨_, rfl⟩
  rw [← HB.out]
  have HN0 := Lib.hid hN
  have HV : Hid (f.r = .agg #[.int .i64 4, .int .i64 f.ag, .int .u64 (f.ep : Int), .int .u64 (f.ic : Int), .int .u64 (f.ba : Int), .int .u64 (f.cu : Int), .int .u64 (f.li : Int), .slice f.Ar f.nr f.cr, .slice f.Ai f.ni f.ci]) := by show _ = _; unfold Fv.r; rw [hk]; rfl
  rw [HV.out]
  have HF := Lib.hid h
  have hmr := h.rs.sn.max
  have hmi := h.it.max
  have hlr := h.rs.sn.le
  have hli := h.it.le
  unfold maxLen at hmr hmi
  have HLR := Lib.hid h.rs.len
  have HLI := Lib.hid h.it.len
  have hb4 := h.ba
  have hb5 := h.cu
  have hb6 := h.li
  unfold two64 at hb4 hb5 hb6
  clear hN h hk
  by_cases h1 : (0 : Int) ≤ f.ag
  · have Hh1 := Lib.hid h1
    have h1y0 : ¬ f.ag < 0 := by omega
    clear h1
    by_cases h2 : f.ag < 16
    · have Hh2 := Lib.hid h2
      have h2y0 : ¬ (15 : Int) < f.ag := by omega
      clear h2
      by_cases h3 : 1 ≤ f.ep
      · have Hh3 := Lib.hid h3
        have h3y0 : ((f.ep : Int) == 0) = false := by simp; omega
        clear h3
        by_cases h4 : f.ba = 0
        · have Hh4 := Lib.hid h4
          have h4y0 : decide ((0 : Int) < (f.ba : Int)) = false := by simp; omega
          have h4y1 : decide (0 < f.ba) = false := by simp; omega
          clear h4
          by_cases h9 : f.ni = 0
          · have Hh9 := Lib.hid h9
            have h9y0 : decide ((0 : Int) < (f.ni : Int)) = false := by simp; omega
            have h9y1 : decide (0 < f.ni) = false := by simp; omega
            clear h9
            have n64 : decide (64 < f.ni) = false := by simp; have := Hh9.out; omega
            have n64I : decide ((64 : Int) < (f.ni : Int)) = false := by simp; have := Hh9.out; omega
            by_cases h32 : 32 < f.nr
            · have n32 : decide (32 < f.nr) = true := by simp; omega
              have n32I : decide ((32 : Int) < (f.nr : Int)) = true := by simp; omega
              have HNO : Hid (¬ (0 ≤ f.ag ∧ f.ag < 16 ∧ 1 ≤ f.ep ∧ f.ba = 0 ∧ f.ni = 0 ∧ f.cu ≤ f.li ∧ RunsP f.m)) := by
                rintro ⟨_, _, _, _, _, _, hp⟩
                have e := HLR.out
                rcases hp with hp | hp
                · have hp' : f.L = [] := hp
                  rw [hp'] at e
                  simp at e
                  omega
                · have hp' : f.L.length ≤ 32 := hp.1
                  omega
              clear h32
              go_enter Tryd.func13, Tryd.ntmps13
              go_wp2_with fail
              obtain ⟨g, hg⟩ : ∃ g, g = w.heap.size := ⟨_, rfl⟩
              have hE : Ever (fun w' => (w'.cell? ⟨g, 4, none⟩ = some (.int .u64 (f.ba : Int)) ∧ w'.cell? ⟨g, 5, none⟩ = some (.int .u64 (f.cu : Int)) ∧ w'.cell? ⟨g, 6, none⟩ = some (.int .u64 (f.li : Int)) ∧ w'.cell? ⟨g, 7, none⟩ = some (.slice f.Ar f.nr f.cr) ∧ w'.cell? ⟨g, 8, none⟩ = some (.slice f.Ai f.ni f.ci)) ∧ Rs w' w'.heap.size f.Ar f.nr f.cr f.L ∧ Itms w' w'.heap.size f.Ai f.ni f.ci f.ks ∧ Below w.heap.size w w') (w.alloc (Obj.cells #[.int .i64 4, .int .i64 f.ag, .int .u64 (f.ep : Int), .int .u64 (f.ic : Int), .int .u64 (f.ba : Int), .int .u64 (f.cu : Int), .int .u64 (f.li : Int), .slice f.Ar f.nr f.cr, .slice f.Ai f.ni f.ci] 33)) := by
                intro w' hw
                have hb : Below w.heap.size w w' := (below_box w (Obj.cells #[.int .i64 4, .int .i64 f.ag, .int .u64 (f.ep : Int), .int .u64 (f.ic : Int), .int .u64 (f.ba : Int), .int .u64 (f.cu : Int), .int .u64 (f.li : Int), .slice f.Ar f.nr f.cr, .slice f.Ai f.ni f.ci] 33)).trans (hw.mono (by simp))
                rw [hg]
                exact ⟨⟨ever_cell (cell_last w _ _ _ 4 rfl) _ hw, ever_cell (cell_last w _ _ _ 5 rfl) _ hw, ever_cell (cell_last w _ _ _ 6 rfl) _ hw, ever_cell (cell_last w _ _ _ 7 rfl) _ hw, ever_cell (cell_last w _ _ _ 8 rfl) _ hw⟩, HF.out.rs.on hb (Nat.le_refl _), HF.out.it.on hb, hb⟩
              rw [← hg]
              have HG := Lib.hid hg
              clear hg
              obtain ⟨Ps, HP⟩ : ∃ Ps : World → Prop, Hid (Ps = fun w' => (w'.cell? ⟨g, 4, none⟩ = some (.int .u64 (f.ba : Int)) ∧ w'.cell? ⟨g, 5, none⟩ = some (.int .u64 (f.cu : Int)) ∧ w'.cell? ⟨g, 6, none⟩ = some (.int .u64 (f.li : Int)) ∧ w'.cell? ⟨g, 7, none⟩ = some (.slice f.Ar f.nr f.cr) ∧ w'.cell? ⟨g, 8, none⟩ = some (.slice f.Ai f.ni f.ci)) ∧ Rs w' w'.heap.size f.Ar f.nr f.cr f.L ∧ Itms w' w'.heap.size f.Ai f.ni f.ci f.ks ∧ Below w.heap.size w w') := ⟨_, rfl⟩
              have HN : Hid (∀ w', Ps w' → (w'.cell? ⟨g, 4, none⟩ = some (.int .u64 (f.ba : Int)) ∧ w'.cell? ⟨g, 5, none⟩ = some (.int .u64 (f.cu : Int)) ∧ w'.cell? ⟨g, 6, none⟩ = some (.int .u64 (f.li : Int)) ∧ w'.cell? ⟨g, 7, none⟩ = some (.slice f.Ar f.nr f.cr) ∧ w'.cell? ⟨g, 8, none⟩ = some (.slice f.Ai f.ni f.ci)) ∧ Rs w' w'.heap.size f.Ar f.nr f.cr f.L ∧ Itms w' w'.heap.size f.Ai f.ni f.ci f.ks ∧ Below w.heap.size w w') := by rw [HP.out]; exact fun _ h => h
              replace hE : Ever Ps (w.alloc (Obj.cells #[.int .i64 4, .int .i64 f.ag, .int .u64 (f.ep : Int), .int .u64 (f.ic : Int), .int .u64 (f.ba : Int), .int .u64 (f.cu : Int), .int .u64 (f.li : Int), .slice f.Ar f.nr f.cr, .slice f.Ai f.ni f.ci] 33)) := by rw [HP.out]; exact hE
              clear HP
              have hE2 := hE.drewN 1
              clear hE
              generalize w.alloc (Obj.cells #[.int .i64 4, .int .i64 f.ag, .int .u64 (f.ep : Int), .int .u64 (f.ic : Int), .int .u64 (f.ba : Int), .int .u64 (f.cu : Int), .int .u64 (f.li : Int), .slice f.Ar f.nr f.cr, .slice f.Ai f.ni f.ci] 33) = wc at *
              refine wp_region_noPanic ?_
              refine wp_region_held_drew (S := (fun w' => (w'.cell? ⟨g, 4, none⟩ = some (.int .u64 (f.ba : Int)) ∧ w'.cell? ⟨g, 5, none⟩ = some (.int .u64 (f.cu : Int)) ∧ w'.cell? ⟨g, 6, none⟩ = some (.int .u64 (f.li : Int)) ∧ w'.cell? ⟨g, 7, none⟩ = some (.slice f.Ar f.nr f.cr) ∧ w'.cell? ⟨g, 8, none⟩ = some (.slice f.Ai f.ni f.ci)) ∧ Ever Ps w')) (by kernel_rfl) ⟨(HN.out _ hE2.now).1, hE2⟩ (fun hHeld => ?_)
              refine wpAnyH_take (i := 0) (oi := { dst := some 85, op := Op.fieldAddr 33 (Operand.tmp 1) 8, type := 0, pos := "ref.go:29", after := #[], guard := none }) (v := ?_) rfl (by kernel_rfl) (by kernel_rfl) (by kernel_rfl) (fun _ _ _ h => h) (Or.inl ⟨by rfl, ?_⟩) (by assumption) ?_
              rotate_left
              · intro w hSw; (try dsimp only at hSw); first | (go_simp; done) | (go_simp; with_reducible rfl)
              try simp only [Act.put, List.setIfInBounds_toArray, List.set_cons_zero, List.set_cons_succ]
              refine wpAnyH_take (i := 1) (oi := { dst := some 86, op := Op.load 31 (Operand.tmp 85), type := 31, pos := "ref.go:29", after := #[{ on := 0, ground := Ground.data }], guard := none }) (v := ?_) rfl (by kernel_rfl) (by kernel_rfl) (by kernel_rfl) (fun _ _ _ h => h) (Or.inl ⟨by rfl, ?_⟩) (by assumption) ?_
              rotate_left
              · intro w hSw; (try dsimp only at hSw); first | (go_simp; done) | (go_simp; with_reducible rfl)
              try simp only [Act.put, List.setIfInBounds_toArray, List.set_cons_zero, List.set_cons_succ]
              refine wpAnyH_take (i := 2) (oi := { dst := some 87, op := Op.call { callee := Callee.builtin Builtin.len, args := #[Operand.tmp 86], argTypes := #[31] }, type := 3, pos := "ref.go:29", after := #[{ on := 1, ground := Ground.data }], guard := none }) (v := ?_) rfl (by kernel_rfl) (by kernel_rfl) (by kernel_rfl) (fun _ _ _ h => h) (Or.inl ⟨by rfl, ?_⟩) (by assumption) ?_
              rotate_left
              · intro w hSw; (try dsimp only at hSw); first | (go_simp; done) | (go_simp; with_reducible rfl)
              try simp only [Act.put, List.setIfInBounds_toArray, List.set_cons_zero, List.set_cons_succ]
              refine wpAnyH_take (i := 3) (oi := { dst := some 88, op := Op.binOp BinOp.gtr 3 (Operand.tmp 87) (Operand.const (Value.int IntKind.i64 64)) 3, type := 4, pos := "ref.go:29", after := #[{ on := 2, ground := Ground.data }], guard := none }) (v := ?_) rfl (by kernel_rfl) (by kernel_rfl) (by kernel_rfl) (fun _ _ _ h => h) (Or.inl ⟨by rfl, ?_⟩) (by assumption) ?_
              rotate_left
              · intro w hSw; (try dsimp only at hSw); first | (go_simp; done) | (go_simp; with_reducible rfl)
              try simp only [Act.put, List.setIfInBounds_toArray, List.set_cons_zero, List.set_cons_succ]
              refine wpAnyH_take (i := 4) (oi := { dst := some 89, op := Op.move (Operand.tmp 88), type := 4, pos := "ref.go:29", after := #[{ on := 3, ground := Ground.data }], guard := none }) (v := ?_) rfl (by kernel_rfl) (by kernel_rfl) (by kernel_rfl) (fun _ _ _ h => h) (Or.inl ⟨by rfl, ?_⟩) (by assumption) ?_
              rotate_left
              · intro w hSw; (try dsimp only at hSw); first | (go_simp; done) | (go_simp; with_reducible rfl)
              try simp only [Act.put, List.setIfInBounds_toArray, List.set_cons_zero, List.set_cons_succ]
              refine wpAnyH_take (i := 5) (oi := { dst := some 90, op := Op.fieldAddr 33 (Operand.tmp 1) 7, type := 0, pos := "ref.go:29", after := #[{ on := 4, ground := Ground.guard }], guard := some (4, false) }) (v := ?_) rfl (by kernel_rfl) (by kernel_rfl) (by kernel_rfl) (fun _ _ _ h => h) (Or.inl ⟨by rfl, ?_⟩) (by assumption) ?_
              rotate_left
              · intro w hSw; (try dsimp only at hSw); first | (go_simp; done) | (go_simp; with_reducible rfl)
              try simp only [Act.put, List.setIfInBounds_toArray, List.set_cons_zero, List.set_cons_succ]
              refine wpAnyH_take (i := 6) (oi := { dst := some 91, op := Op.load 30 (Operand.tmp 90), type := 30, pos := "ref.go:29", after := #[{ on := 5, ground := Ground.data }, { on := 4, ground := Ground.guard }], guard := some (4, false) }) (v := ?_) rfl (by kernel_rfl) (by kernel_rfl) (by kernel_rfl) (fun _ _ _ h => h) (Or.inl ⟨by rfl, ?_⟩) (by assumption) ?_
              rotate_left
              · intro w hSw; (try dsimp only at hSw); first | (go_simp; done) | (go_simp; with_reducible rfl)
              try simp only [Act.put, List.setIfInBounds_toArray, List.set_cons_zero, List.set_cons_succ]
              refine wpAnyH_take (i := 7) (oi := { dst := some 92, op := Op.call { callee := Callee.builtin Builtin.len, args := #[Operand.tmp 91], argTypes := #[30] }, type := 3, pos := "ref.go:29", after := #[{ on := 6, ground := Ground.data }, { on := 4, ground := Ground.guard }], guard := some (4, false) }) (v := ?_) rfl (by kernel_rfl) (by kernel_rfl) (by kernel_rfl) (fun _ _ _ h => h) (Or.inl ⟨by rfl, ?_⟩) (by assumption) ?_
              rotate_left
              · intro w hSw; (try dsimp only at hSw); first | (go_simp; done) | (go_simp; with_reducible rfl)
              try simp only [Act.put, List.setIfInBounds_toArray, List.set_cons_zero, List.set_cons_succ]
              refine wpAnyH_take (i := 8) (oi := { dst := some 93, op := Op.binOp BinOp.gtr 3 (Operand.tmp 92) (Operand.const (Value.int IntKind.i64 32)) 3, type := 4, pos := "ref.go:29", after := #[{ on := 7, ground := Ground.data }, { on := 4, ground := Ground.guard }], guard := some (4, false) }) (v := ?_) rfl (by kernel_rfl) (by kernel_rfl) (by kernel_rfl) (fun _ _ _ h => h) (Or.inl ⟨by rfl, ?_⟩) (by assumption) ?_
              rotate_left
              · intro w hSw; (try dsimp only at hSw); first | (go_simp; done) | (go_simp; with_reducible rfl)
              try simp only [Act.put, List.setIfInBounds_toArray, List.set_cons_zero, List.set_cons_succ]
              refine wpAnyH_take (i := 9) (oi := { dst := some 94, op := Op.pick (Operand.tmp 89) (Operand.const (Value.bool true)) (Operand.tmp 93), type := 4, pos := "ref.go:29", after := #[{ on := 4, ground := Ground.data }, { on := 8, ground := Ground.data }], guard := none }) (v := ?_) rfl (by kernel_rfl) (by kernel_rfl) (by kernel_rfl) (fun _ _ _ h => h) (Or.inl ⟨by rfl, ?_⟩) (by assumption) ?_
              rotate_left
              · intro w hSw; (try dsimp only at hSw); first | (go_simp; done) | (go_simp; with_reducible rfl)
              try simp only [Act.put, List.setIfInBounds_toArray, List.set_cons_zero, List.set_cons_succ]
              refine wpAnyH_take (i := 10) (oi := { dst := some 95, op := Op.move (Operand.tmp 94), type := 4, pos := "ref.go:29", after := #[{ on := 9, ground := Ground.data }, { on := 4, ground := Ground.chain }], guard := none }) (v := ?_) rfl (by kernel_rfl) (by kernel_rfl) (by kernel_rfl) (fun _ _ _ h => h) (Or.inl ⟨by rfl, ?_⟩) (by assumption) ?_
              rotate_left
              · intro w hSw; (try dsimp only at hSw); first | (go_simp; done) | (go_simp; with_reducible rfl)
              try simp only [Act.put, List.setIfInBounds_toArray, List.set_cons_zero, List.set_cons_succ]
              refine wpAnyH_take (i := 11) (oi := { dst := some 96, op := Op.fieldAddr 33 (Operand.tmp 1) 6, type := 0, pos := "ref.go:29", after := #[{ on := 10, ground := Ground.guard }], guard := some (10, false) }) (v := undef) rfl (by kernel_rfl) (by kernel_rfl) (by kernel_rfl) (fun _ _ _ h => h) (Or.inr ⟨by rfl, rfl⟩) (by assumption) ?_
              try simp only [Act.put, List.setIfInBounds_toArray, List.set_cons_zero, List.set_cons_succ]
              refine wpAnyH_take (i := 12) (oi := { dst := some 97, op := Op.load 22 (Operand.tmp 96), type := 22, pos := "ref.go:29", after := #[{ on := 11, ground := Ground.data }, { on := 10, ground := Ground.guard }], guard := some (10, false) }) (v := undef) rfl (by kernel_rfl) (by kernel_rfl) (by kernel_rfl) (fun _ _ _ h => h) (Or.inr ⟨by rfl, rfl⟩) (by assumption) ?_
              try simp only [Act.put, List.setIfInBounds_toArray, List.set_cons_zero, List.set_cons_succ]
              refine wpAnyH_take (i := 13) (oi := { dst := some 98, op := Op.fieldAddr 33 (Operand.tmp 1) 5, type := 0, pos := "ref.go:29", after := #[{ on := 10, ground := Ground.guard }], guard := some (10, false) }) (v := undef) rfl (by kernel_rfl) (by kernel_rfl) (by kernel_rfl) (fun _ _ _ h => h) (Or.inr ⟨by rfl, rfl⟩) (by assumption) ?_
              try simp only [Act.put, List.setIfInBounds_toArray, List.set_cons_zero, List.set_cons_succ]
              refine wpAnyH_take (i := 14) (oi := { dst := some 99, op := Op.load 22 (Operand.tmp 98), type := 22, pos := "ref.go:29", after := #[{ on := 13, ground := Ground.data }, { on := 10, ground := Ground.guard }], guard := some (10, false) }) (v := undef) rfl (by kernel_rfl) (by kernel_rfl) (by kernel_rfl) (fun _ _ _ h => h) (Or.inr ⟨by rfl, rfl⟩) (by assumption) ?_
              try simp only [Act.put, List.setIfInBounds_toArray, List.set_cons_zero, List.set_cons_succ]
              refine wpAnyH_take (i := 15) (oi := { dst := some 100, op := Op.binOp BinOp.lss 22 (Operand.tmp 97) (Operand.tmp 99) 22, type := 4, pos := "ref.go:29", after := #[{ on := 12, ground := Ground.data }, { on := 14, ground := Ground.data }, { on := 10, ground := Ground.guard }], guard := some (10, false) }) (v := undef) rfl (by kernel_rfl) (by kernel_rfl) (by kernel_rfl) (fun _ _ _ h => h) (Or.inr ⟨by rfl, rfl⟩) (by assumption) ?_
              try simp only [Act.put, List.setIfInBounds_toArray, List.set_cons_zero, List.set_cons_succ]
              refine wpAnyH_take (i := 16) (oi := { dst := some 101, op := Op.pick (Operand.tmp 95) (Operand.const (Value.bool true)) (Operand.tmp 100), type := 4, pos := "ref.go:29", after := #[{ on := 10, ground := Ground.data }, { on := 15, ground := Ground.data }], guard := none }) (v := ?_) rfl (by kernel_rfl) (by kernel_rfl) (by kernel_rfl) (fun _ _ _ h => h) (Or.inl ⟨by rfl, ?_⟩) (by assumption) ?_
              rotate_left
              · intro w hSw; (try dsimp only at hSw); first | (go_simp; done) | (go_simp; with_reducible rfl)
              try simp only [Act.put, List.setIfInBounds_toArray, List.set_cons_zero, List.set_cons_succ]
              refine wpAnyH_take (i := 17) (oi := { dst := some 102, op := Op.move (Operand.tmp 101), type := 4, pos := "ref.go:29", after := #[{ on := 16, ground := Ground.data }, { on := 10, ground := Ground.chain }], guard := none }) (v := ?_) rfl (by kernel_rfl) (by kernel_rfl) (by kernel_rfl) (fun _ _ _ h => h) (Or.inl ⟨by rfl, ?_⟩) (by assumption) ?_
              rotate_left
              · intro w hSw; (try dsimp only at hSw); first | (go_simp; done) | (go_simp; with_reducible rfl)
              try simp only [Act.put, List.setIfInBounds_toArray, List.set_cons_zero, List.set_cons_succ]
              refine wpAnyH_take (i := 18) (oi := { dst := some 103, op := Op.fieldAddr 33 (Operand.tmp 1) 7, type := 0, pos := "ref.go:29", after := #[{ on := 17, ground := Ground.guard }], guard := some (17, false) }) (v := undef) rfl (by kernel_rfl) (by kernel_rfl) (by kernel_rfl) (fun _ _ _ h => h) (Or.inr ⟨by rfl, rfl⟩) (by assumption) ?_
              try simp only [Act.put, List.setIfInBounds_toArray, List.set_cons_zero, List.set_cons_succ]
              refine wpAnyH_take (i := 19) (oi := { dst := some 104, op := Op.load 30 (Operand.tmp 103), type := 30, pos := "ref.go:29", after := #[{ on := 18, ground := Ground.data }, { on := 17, ground := Ground.guard }], guard := some (17, false) }) (v := undef) rfl (by kernel_rfl) (by kernel_rfl) (by kernel_rfl) (fun _ _ _ h => h) (Or.inr ⟨by rfl, rfl⟩) (by assumption) ?_
              try simp only [Act.put, List.setIfInBounds_toArray, List.set_cons_zero, List.set_cons_succ]
              refine wpAnyH_take (i := 20) (oi := { dst := some 105, op := Op.fieldAddr 33 (Operand.tmp 1) 7, type := 0, pos := "ref.go:29", after := #[{ on := 17, ground := Ground.guard }], guard := some (17, false) }) (v := undef) rfl (by kernel_rfl) (by kernel_rfl) (by kernel_rfl) (fun _ _ _ h => h) (Or.inr ⟨by rfl, rfl⟩) (by assumption) ?_
              try simp only [Act.put, List.setIfInBounds_toArray, List.set_cons_zero, List.set_cons_succ]
              refine wpAnyH_take (i := 21) (oi := { dst := some 106, op := Op.load 30 (Operand.tmp 105), type := 30, pos := "ref.go:29", after := #[{ on := 20, ground := Ground.data }, { on := 17, ground := Ground.guard }], guard := some (17, false) }) (v := undef) rfl (by kernel_rfl) (by kernel_rfl) (by kernel_rfl) (fun _ _ _ h => h) (Or.inr ⟨by rfl, rfl⟩) (by assumption) ?_
              try simp only [Act.put, List.setIfInBounds_toArray, List.set_cons_zero, List.set_cons_succ]
              refine wpAnyH_ready (rs := [22]) (by kernel_rfl) (by simp) ?_
              refine AllReadyH.cons (o := { dst := some 107, op := Op.call { callee := Callee.value (Operand.func 29), args := #[Operand.tmp 106], argTypes := #[30] }, type := 30, pos := "ref.go:29", after := #[{ on := 21, ground := Ground.data }, { on := 17, ground := Ground.chain }, { on := 17, ground := Ground.guard }], guard := some (17, false) }) rfl (fun K hK => ?_) AllReadyH.nil
              refine not_wanted (by rfl) ?_
              clear hHeld
              refine hK.out _ _ ⟨(HN.out _ hE2.now).1, hE2⟩ (fun hHeld => ?_)
              clear hK K
              try simp only [Act.put, List.setIfInBounds_toArray, List.set_cons_zero, List.set_cons_succ]
              refine wpAnyH_ready (rs := [23]) (by kernel_rfl) (by simp) ?_
              refine AllReadyH.cons (o := { dst := some 108, op := Op.call { callee := Callee.value (Operand.func 28), args := #[Operand.tmp 104, Operand.tmp 107], argTypes := #[30, 30] }, type := 4, pos := "ref.go:29", after := #[{ on := 19, ground := Ground.data }, { on := 22, ground := Ground.data }, { on := 22, ground := Ground.chain }, { on := 17, ground := Ground.guard }], guard := some (17, false) }) rfl (fun K hK => ?_) AllReadyH.nil
              refine not_wanted (by rfl) ?_
              clear hHeld
              refine hK.out _ _ ⟨(HN.out _ hE2.now).1, hE2⟩ (fun hHeld => ?_)
              clear hK K
              try simp only [Act.put, List.setIfInBounds_toArray, List.set_cons_zero, List.set_cons_succ]
              refine wpAnyH_take (i := 24) (oi := { dst := some 109, op := Op.unOp UnOp.not 4 (Operand.tmp 108), type := 4, pos := "ref.go:29", after := #[{ on := 23, ground := Ground.data }, { on := 17, ground := Ground.guard }], guard := some (17, false) }) (v := undef) rfl (by kernel_rfl) (by kernel_rfl) (by kernel_rfl) (fun _ _ _ h => h) (Or.inr ⟨by rfl, rfl⟩) (by assumption) ?_
              try simp only [Act.put, List.setIfInBounds_toArray, List.set_cons_zero, List.set_cons_succ]
              refine wpAnyH_take (i := 25) (oi := { dst := some 110, op := Op.pick (Operand.tmp 102) (Operand.const (Value.bool true)) (Operand.tmp 109), type := 4, pos := "ref.go:29", after := #[{ on := 17, ground := Ground.data }, { on := 24, ground := Ground.data }], guard := none }) (v := ?_) rfl (by kernel_rfl) (by kernel_rfl) (by kernel_rfl) (fun _ _ _ h => h) (Or.inl ⟨by rfl, ?_⟩) (by assumption) ?_
              rotate_left
              · intro w hSw; (try dsimp only at hSw); first | (go_simp; done) | (go_simp; with_reducible rfl)
              try simp only [Act.put, List.setIfInBounds_toArray, List.set_cons_zero, List.set_cons_succ]
              refine wpAnyH_done (by kernel_rfl) ?_ _
              refine NoPanic.normal ?_
              have HBB := Lib.hid (HN.out _ hE2.now).2.2.2
              clear hE2
              go_wp2
              go_ret
              refine ⟨ret_b ?_, HBB.out⟩
              rw [HB.out, decP_congr HN0.out, decP_no HNO.out]
            have n32 : decide (32 < f.nr) = false := by simp; omega
            have n32I : decide ((32 : Int) < (f.nr : Int)) = false := by simp; omega
            have H32 := Lib.hid h32
            clear h32
            by_cases hlc : f.li < f.cu
            · have nlc : decide (f.li < f.cu) = true := by simp; omega
              have HNO : Hid (¬ (0 ≤ f.ag ∧ f.ag < 16 ∧ 1 ≤ f.ep ∧ f.ba = 0 ∧ f.ni = 0 ∧ f.cu ≤ f.li ∧ RunsP f.m)) := by
                rintro ⟨_, _, _, _, _, hp, _⟩
                omega
              clear hlc
              go_enter Tryd.func13, Tryd.ntmps13
              go_wp2_with fail
              obtain ⟨g, hg⟩ : ∃ g, g = w.heap.size := ⟨_, rfl⟩
              have hE : Ever (fun w' => (w'.cell? ⟨g, 4, none⟩ = some (.int .u64 (f.ba : Int)) ∧ w'.cell? ⟨g, 5, none⟩ = some (.int .u64 (f.cu : Int)) ∧ w'.cell? ⟨g, 6, none⟩ = some (.int .u64 (f.li : Int)) ∧ w'.cell? ⟨g, 7, none⟩ = some (.slice f.Ar f.nr f.cr) ∧ w'.cell? ⟨g, 8, none⟩ = some (.slice f.Ai f.ni f.ci)) ∧ Rs w' w'.heap.size f.Ar f.nr f.cr f.L ∧ Itms w' w'.heap.size f.Ai f.ni f.ci f.ks ∧ Below w.heap.size w w') (w.alloc (Obj.cells #[.int .i64 4, .int .i64 f.ag, .int .u64 (f.ep : Int), .int .u64 (f.ic : Int), .int .u64 (f.ba : Int), .int .u64 (f.cu : Int), .int .u64 (f.li : Int), .slice f.Ar f.nr f.cr, .slice f.Ai f.ni f.ci] 33)) := by
                intro w' hw
                have hb : Below w.heap.size w w' := (below_box w (Obj.cells #[.int .i64 4, .int .i64 f.ag, .int .u64 (f.ep : Int), .int .u64 (f.ic : Int), .int .u64 (f.ba : Int), .int .u64 (f.cu : Int), .int .u64 (f.li : Int), .slice f.Ar f.nr f.cr, .slice f.Ai f.ni f.ci] 33)).trans (hw.mono (by simp))
                rw [hg]
                exact ⟨⟨ever_cell (cell_last w _ _ _ 4 rfl) _ hw, ever_cell (cell_last w _ _ _ 5 rfl) _ hw, ever_cell (cell_last w _ _ _ 6 rfl) _ hw, ever_cell (cell_last w _ _ _ 7 rfl) _ hw, ever_cell (cell_last w _ _ _ 8 rfl) _ hw⟩, HF.out.rs.on hb (Nat.le_refl _), HF.out.it.on hb, hb⟩
              rw [← hg]
              have HG := Lib.hid hg
              clear hg
              obtain ⟨Ps, HP⟩ : ∃ Ps : World → Prop, Hid (Ps = fun w' => (w'.cell? ⟨g, 4, none⟩ = some (.int .u64 (f.ba : Int)) ∧ w'.cell? ⟨g, 5, none⟩ = some (.int .u64 (f.cu : Int)) ∧ w'.cell? ⟨g, 6, none⟩ = some (.int .u64 (f.li : Int)) ∧ w'.cell? ⟨g, 7, none⟩ = some (.slice f.Ar f.nr f.cr) ∧ w'.cell? ⟨g, 8, none⟩ = some (.slice f.Ai f.ni f.ci)) ∧ Rs w' w'.heap.size f.Ar f.nr f.cr f.L ∧ Itms w' w'.heap.size f.Ai f.ni f.ci f.ks ∧ Below w.heap.size w w') := ⟨_, rfl⟩
              have HN : Hid (∀ w', Ps w' → (w'.cell? ⟨g, 4, none⟩ = some (.int .u64 (f.ba : Int)) ∧ w'.cell? ⟨g, 5, none⟩ = some (.int .u64 (f.cu : Int)) ∧ w'.cell? ⟨g, 6, none⟩ = some (.int .u64 (f.li : Int)) ∧ w'.cell? ⟨g, 7, none⟩ = some (.slice f.Ar f.nr f.cr) ∧ w'.cell? ⟨g, 8, none⟩ = some (.slice f.Ai f.ni f.ci)) ∧ Rs w' w'.heap.size f.Ar f.nr f.cr f.L ∧ Itms w' w'.heap.size f.Ai f.ni f.ci f.ks ∧ Below w.heap.size w w') := by rw [HP.out]; exact fun _ h => h
              replace hE : Ever Ps (w.alloc (Obj.cells #[.int .i64 4, .int .i64 f.ag, .int .u64 (f.ep : Int), .int .u64 (f.ic : Int), .int .u64 (f.ba : Int), .int .u64 (f.cu : Int), .int .u64 (f.li : Int), .slice f.Ar f.nr f.cr, .slice f.Ai f.ni f.ci] 33)) := by rw [HP.out]; exact hE
              clear HP
              have hE2 := hE.drewN 1
              clear hE
              generalize w.alloc (Obj.cells #[.int .i64 4, .int .i64 f.ag, .int .u64 (f.ep : Int), .int .u64 (f.ic : Int), .int .u64 (f.ba : Int), .int .u64 (f.cu : Int), .int .u64 (f.li : Int), .slice f.Ar f.nr f.cr, .slice f.Ai f.ni f.ci] 33) = wc at *
              refine wp_region_noPanic ?_
              refine wp_region_held_drew (S := (fun w' => (w'.cell? ⟨g, 4, none⟩ = some (.int .u64 (f.ba : Int)) ∧ w'.cell? ⟨g, 5, none⟩ = some (.int .u64 (f.cu : Int)) ∧ w'.cell? ⟨g, 6, none⟩ = some (.int .u64 (f.li : Int)) ∧ w'.cell? ⟨g, 7, none⟩ = some (.slice f.Ar f.nr f.cr) ∧ w'.cell? ⟨g, 8, none⟩ = some (.slice f.Ai f.ni f.ci)) ∧ Ever Ps w')) (by kernel_rfl) ⟨(HN.out _ hE2.now).1, hE2⟩ (fun hHeld => ?_)
              refine wpAnyH_take (i := 0) (oi := { dst := some 85, op := Op.fieldAddr 33 (Operand.tmp 1) 8, type := 0, pos := "ref.go:29", after := #[], guard := none }) (v := ?_) rfl (by kernel_rfl) (by kernel_rfl) (by kernel_rfl) (fun _ _ _ h => h) (Or.inl ⟨by rfl, ?_⟩) (by assumption) ?_
              rotate_left
              · intro w hSw; (try dsimp only at hSw); first | (go_simp; done) | (go_simp; with_reducible rfl)
              try simp only [Act.put, List.setIfInBounds_toArray, List.set_cons_zero, List.set_cons_succ]
              refine wpAnyH_take (i := 1) (oi := { dst := some 86, op := Op.load 31 (Operand.tmp 85), type := 31, pos := "ref.go:29", after := #[{ on := 0, ground := Ground.data }], guard := none }) (v := ?_) rfl (by kernel_rfl) (by kernel_rfl) (by kernel_rfl) (fun _ _ _ h => h) (Or.inl ⟨by rfl, ?_⟩) (by assumption) ?_
              rotate_left
              · intro w hSw; (try dsimp only at hSw); first | (go_simp; done) | (go_simp; with_reducible rfl)
              try simp only [Act.put, List.setIfInBounds_toArray, List.set_cons_zero, List.set_cons_succ]
              refine wpAnyH_take (i := 2) (oi := { dst := some 87, op := Op.call { callee := Callee.builtin Builtin.len, args := #[Operand.tmp 86], argTypes := #[31] }, type := 3, pos := "ref.go:29", after := #[{ on := 1, ground := Ground.data }], guard := none }) (v := ?_) rfl (by kernel_rfl) (by kernel_rfl) (by kernel_rfl) (fun _ _ _ h => h) (Or.inl ⟨by rfl, ?_⟩) (by assumption) ?_
              rotate_left
              · intro w hSw; (try dsimp only at hSw); first | (go_simp; done) | (go_simp; with_reducible rfl)
              try simp only [Act.put, List.setIfInBounds_toArray, List.set_cons_zero, List.set_cons_succ]
              refine wpAnyH_take (i := 3) (oi := { dst := some 88, op := Op.binOp BinOp.gtr 3 (Operand.tmp 87) (Operand.const (Value.int IntKind.i64 64)) 3, type := 4, pos := "ref.go:29", after := #[{ on := 2, ground := Ground.data }], guard := none }) (v := ?_) rfl (by kernel_rfl) (by kernel_rfl) (by kernel_rfl) (fun _ _ _ h => h) (Or.inl ⟨by rfl, ?_⟩) (by assumption) ?_
              rotate_left
              · intro w hSw; (try dsimp only at hSw); first | (go_simp; done) | (go_simp; with_reducible rfl)
              try simp only [Act.put, List.setIfInBounds_toArray, List.set_cons_zero, List.set_cons_succ]
              refine wpAnyH_take (i := 4) (oi := { dst := some 89, op := Op.move (Operand.tmp 88), type := 4, pos := "ref.go:29", after := #[{ on := 3, ground := Ground.data }], guard := none }) (v := ?_) rfl (by kernel_rfl) (by kernel_rfl) (by kernel_rfl) (fun _ _ _ h => h) (Or.inl ⟨by rfl, ?_⟩) (by assumption) ?_
              rotate_left
              · intro w hSw; (try dsimp only at hSw); first | (go_simp; done) | (go_simp; with_reducible rfl)
              try simp only [Act.put, List.setIfInBounds_toArray, List.set_cons_zero, List.set_cons_succ]
              refine wpAnyH_take (i := 5) (oi := { dst := some 90, op := Op.fieldAddr 33 (Operand.tmp 1) 7, type := 0, pos := "ref.go:29", after := #[{ on := 4, ground := Ground.guard }], guard := some (4, false) }) (v := ?_) rfl (by kernel_rfl) (by kernel_rfl) (by kernel_rfl) (fun _ _ _ h => h) (Or.inl ⟨by rfl, ?_⟩) (by assumption) ?_
              rotate_left
              · intro w hSw; (try dsimp only at hSw); first | (go_simp; done) | (go_simp; with_reducible rfl)
              try simp only [Act.put, List.setIfInBounds_toArray, List.set_cons_zero, List.set_cons_succ]
              refine wpAnyH_take (i := 6) (oi := { dst := some 91, op := Op.load 30 (Operand.tmp 90), type := 30, pos := "ref.go:29", after := #[{ on := 5, ground := Ground.data }, { on := 4, ground := Ground.guard }], guard := some (4, false) }) (v := ?_) rfl (by kernel_rfl) (by kernel_rfl) (by kernel_rfl) (fun _ _ _ h => h) (Or.inl ⟨by rfl, ?_⟩) (by assumption) ?_
              rotate_left
              · intro w hSw; (try dsimp only at hSw); first | (go_simp; done) | (go_simp; with_reducible rfl)
              try simp only [Act.put, List.setIfInBounds_toArray, List.set_cons_zero, List.set_cons_succ]
              refine wpAnyH_take (i := 7) (oi := { dst := some 92, op := Op.call { callee := Callee.builtin Builtin.len, args := #[Operand.tmp 91], argTypes := #[30] }, type := 3, pos := "ref.go:29", after := #[{ on := 6, ground := Ground.data }, { on := 4, ground := Ground.guard }], guard := some (4, false) }) (v := ?_) rfl (by kernel_rfl) (by kernel_rfl) (by kernel_rfl) (fun _ _ _ h => h) (Or.inl ⟨by rfl, ?_⟩) (by assumption) ?_
              rotate_left
              · intro w hSw; (try dsimp only at hSw); first | (go_simp; done) | (go_simp; with_reducible rfl)
              try simp only [Act.put, List.setIfInBounds_toArray, List.set_cons_zero, List.set_cons_succ]
              refine wpAnyH_take (i := 8) (oi := { dst := some 93, op := Op.binOp BinOp.gtr 3 (Operand.tmp 92) (Operand.const (Value.int IntKind.i64 32)) 3, type := 4, pos := "ref.go:29", after := #[{ on := 7, ground := Ground.data }, { on := 4, ground := Ground.guard }], guard := some (4, false) }) (v := ?_) rfl (by kernel_rfl) (by kernel_rfl) (by kernel_rfl) (fun _ _ _ h => h) (Or.inl ⟨by rfl, ?_⟩) (by assumption) ?_
              rotate_left
              · intro w hSw; (try dsimp only at hSw); first | (go_simp; done) | (go_simp; with_reducible rfl)
              try simp only [Act.put, List.setIfInBounds_toArray, List.set_cons_zero, List.set_cons_succ]
              refine wpAnyH_take (i := 9) (oi := { dst := some 94, op := Op.pick (Operand.tmp 89) (Operand.const (Value.bool true)) (Operand.tmp 93), type := 4, pos := "ref.go:29", after := #[{ on := 4, ground := Ground.data }, { on := 8, ground := Ground.data }], guard := none }) (v := ?_) rfl (by kernel_rfl) (by kernel_rfl) (by kernel_rfl) (fun _ _ _ h => h) (Or.inl ⟨by rfl, ?_⟩) (by assumption) ?_
              rotate_left
              · intro w hSw; (try dsimp only at hSw); first | (go_simp; done) | (go_simp; with_reducible rfl)
              try simp only [Act.put, List.setIfInBounds_toArray, List.set_cons_zero, List.set_cons_succ]
              refine wpAnyH_take (i := 10) (oi := { dst := some 95, op := Op.move (Operand.tmp 94), type := 4, pos := "ref.go:29", after := #[{ on := 9, ground := Ground.data }, { on := 4, ground := Ground.chain }], guard := none }) (v := ?_) rfl (by kernel_rfl) (by kernel_rfl) (by kernel_rfl) (fun _ _ _ h => h) (Or.inl ⟨by rfl, ?_⟩) (by assumption) ?_
              rotate_left
              · intro w hSw; (try dsimp only at hSw); first | (go_simp; done) | (go_simp; with_reducible rfl)
              try simp only [Act.put, List.setIfInBounds_toArray, List.set_cons_zero, List.set_cons_succ]
              refine wpAnyH_take (i := 11) (oi := { dst := some 96, op := Op.fieldAddr 33 (Operand.tmp 1) 6, type := 0, pos := "ref.go:29", after := #[{ on := 10, ground := Ground.guard }], guard := some (10, false) }) (v := ?_) rfl (by kernel_rfl) (by kernel_rfl) (by kernel_rfl) (fun _ _ _ h => h) (Or.inl ⟨by rfl, ?_⟩) (by assumption) ?_
              rotate_left
              · intro w hSw; (try dsimp only at hSw); first | (go_simp; done) | (go_simp; with_reducible rfl)
              try simp only [Act.put, List.setIfInBounds_toArray, List.set_cons_zero, List.set_cons_succ]
              refine wpAnyH_take (i := 12) (oi := { dst := some 97, op := Op.load 22 (Operand.tmp 96), type := 22, pos := "ref.go:29", after := #[{ on := 11, ground := Ground.data }, { on := 10, ground := Ground.guard }], guard := some (10, false) }) (v := ?_) rfl (by kernel_rfl) (by kernel_rfl) (by kernel_rfl) (fun _ _ _ h => h) (Or.inl ⟨by rfl, ?_⟩) (by assumption) ?_
              rotate_left
              · intro w hSw; (try dsimp only at hSw); first | (go_simp; done) | (go_simp; with_reducible rfl)
              try simp only [Act.put, List.setIfInBounds_toArray, List.set_cons_zero, List.set_cons_succ]
              refine wpAnyH_take (i := 13) (oi := { dst := some 98, op := Op.fieldAddr 33 (Operand.tmp 1) 5, type := 0, pos := "ref.go:29", after := #[{ on := 10, ground := Ground.guard }], guard := some (10, false) }) (v := ?_) rfl (by kernel_rfl) (by kernel_rfl) (by kernel_rfl) (fun _ _ _ h => h) (Or.inl ⟨by rfl, ?_⟩) (by assumption) ?_
              rotate_left
              · intro w hSw; (try dsimp only at hSw); first | (go_simp; done) | (go_simp; with_reducible rfl)
              try simp only [Act.put, List.setIfInBounds_toArray, List.set_cons_zero, List.set_cons_succ]
              refine wpAnyH_take (i := 14) (oi := { dst := some 99, op := Op.load 22 (Operand.tmp 98), type := 22, pos := "ref.go:29", after := #[{ on := 13, ground := Ground.data }, { on := 10, ground := Ground.guard }], guard := some (10, false) }) (v := ?_) rfl (by kernel_rfl) (by kernel_rfl) (by kernel_rfl) (fun _ _ _ h => h) (Or.inl ⟨by rfl, ?_⟩) (by assumption) ?_
              rotate_left
              · intro w hSw; (try dsimp only at hSw); first | (go_simp; done) | (go_simp; with_reducible rfl)
              try simp only [Act.put, List.setIfInBounds_toArray, List.set_cons_zero, List.set_cons_succ]
              refine wpAnyH_take (i := 15) (oi := { dst := some 100, op := Op.binOp BinOp.lss 22 (Operand.tmp 97) (Operand.tmp 99) 22, type := 4, pos := "ref.go:29", after := #[{ on := 12, ground := Ground.data }, { on := 14, ground := Ground.data }, { on := 10, ground := Ground.guard }], guard := some (10, false) }) (v := ?_) rfl (by kernel_rfl) (by kernel_rfl) (by kernel_rfl) (fun _ _ _ h => h) (Or.inl ⟨by rfl, ?_⟩) (by assumption) ?_
              rotate_left
              · intro w hSw; (try dsimp only at hSw); first | (go_simp; done) | (go_simp; with_reducible rfl)
              try simp only [Act.put, List.setIfInBounds_toArray, List.set_cons_zero, List.set_cons_succ]
              refine wpAnyH_take (i := 16) (oi := { dst := some 101, op := Op.pick (Operand.tmp 95) (Operand.const (Value.bool true)) (Operand.tmp 100), type := 4, pos := "ref.go:29", after := #[{ on := 10, ground := Ground.data }, { on := 15, ground := Ground.data }], guard := none }) (v := ?_) rfl (by kernel_rfl) (by kernel_rfl) (by kernel_rfl) (fun _ _ _ h => h) (Or.inl ⟨by rfl, ?_⟩) (by assumption) ?_
              rotate_left
              · intro w hSw; (try dsimp only at hSw); first | (go_simp; done) | (go_simp; with_reducible rfl)
              try simp only [Act.put, List.setIfInBounds_toArray, List.set_cons_zero, List.set_cons_succ]
              refine wpAnyH_take (i := 17) (oi := { dst := some 102, op := Op.move (Operand.tmp 101), type := 4, pos := "ref.go:29", after := #[{ on := 16, ground := Ground.data }, { on := 10, ground := Ground.chain }], guard := none }) (v := ?_) rfl (by kernel_rfl) (by kernel_rfl) (by kernel_rfl) (fun _ _ _ h => h) (Or.inl ⟨by rfl, ?_⟩) (by assumption) ?_
              rotate_left
              · intro w hSw; (try dsimp only at hSw); first | (go_simp; done) | (go_simp; with_reducible rfl)
              try simp only [Act.put, List.setIfInBounds_toArray, List.set_cons_zero, List.set_cons_succ]
              refine wpAnyH_take (i := 18) (oi := { dst := some 103, op := Op.fieldAddr 33 (Operand.tmp 1) 7, type := 0, pos := "ref.go:29", after := #[{ on := 17, ground := Ground.guard }], guard := some (17, false) }) (v := undef) rfl (by kernel_rfl) (by kernel_rfl) (by kernel_rfl) (fun _ _ _ h => h) (Or.inr ⟨by rfl, rfl⟩) (by assumption) ?_
              try simp only [Act.put, List.setIfInBounds_toArray, List.set_cons_zero, List.set_cons_succ]
              refine wpAnyH_take (i := 19) (oi := { dst := some 104, op := Op.load 30 (Operand.tmp 103), type := 30, pos := "ref.go:29", after := #[{ on := 18, ground := Ground.data }, { on := 17, ground := Ground.guard }], guard := some (17, false) }) (v := undef) rfl (by kernel_rfl) (by kernel_rfl) (by kernel_rfl) (fun _ _ _ h => h) (Or.inr ⟨by rfl, rfl⟩) (by assumption) ?_
              try simp only [Act.put, List.setIfInBounds_toArray, List.set_cons_zero, List.set_cons_succ]
              refine wpAnyH_take (i := 20) (oi := { dst := some 105, op := Op.fieldAddr 33 (Operand.tmp 1) 7, type := 0, pos := "ref.go:29", after := #[{ on := 17, ground := Ground.guard }], guard := some (17, false) }) (v := undef) rfl (by kernel_rfl) (by kernel_rfl) (by kernel_rfl) (fun _ _ _ h => h) (Or.inr ⟨by rfl, rfl⟩) (by assumption) ?_
              try simp only [Act.put, List.setIfInBounds_toArray, List.set_cons_zero, List.set_cons_succ]
              refine wpAnyH_take (i := 21) (oi := { dst := some 106, op := Op.load 30 (Operand.tmp 105), type := 30, pos := "ref.go:29", after := #[{ on := 20, ground := Ground.data }, { on := 17, ground := Ground.guard }], guard := some (17, false) }) (v := undef) rfl (by kernel_rfl) (by kernel_rfl) (by kernel_rfl) (fun _ _ _ h => h) (Or.inr ⟨by rfl, rfl⟩) (by assumption) ?_
              try simp only [Act.put, List.setIfInBounds_toArray, List.set_cons_zero, List.set_cons_succ]
              refine wpAnyH_ready (rs := [22]) (by kernel_rfl) (by simp) ?_
              refine AllReadyH.cons (o := { dst := some 107, op := Op.call { callee := Callee.value (Operand.func 29), args := #[Operand.tmp 106], argTypes := #[30] }, type := 30, pos := "ref.go:29", after := #[{ on := 21, ground := Ground.data }, { on := 17, ground := Ground.chain }, { on := 17, ground := Ground.guard }], guard := some (17, false) }) rfl (fun K hK => ?_) AllReadyH.nil
              refine not_wanted (by rfl) ?_
              clear hHeld
              refine hK.out _ _ ⟨(HN.out _ hE2.now).1, hE2⟩ (fun hHeld => ?_)
              clear hK K
              try simp only [Act.put, List.setIfInBounds_toArray, List.set_cons_zero, List.set_cons_succ]
              refine wpAnyH_ready (rs := [23]) (by kernel_rfl) (by simp) ?_
              refine AllReadyH.cons (o := { dst := some 108, op := Op.call { callee := Callee.value (Operand.func 28), args := #[Operand.tmp 104, Operand.tmp 107], argTypes := #[30, 30] }, type := 4, pos := "ref.go:29", after := #[{ on := 19, ground := Ground.data }, { on := 22, ground := Ground.data }, { on := 22, ground := Ground.chain }, { on := 17, ground := Ground.guard }], guard := some (17, false) }) rfl (fun K hK => ?_) AllReadyH.nil
              refine not_wanted (by rfl) ?_
              clear hHeld
              refine hK.out _ _ ⟨(HN.out _ hE2.now).1, hE2⟩ (fun hHeld => ?_)
              clear hK K
              try simp only [Act.put, List.setIfInBounds_toArray, List.set_cons_zero, List.set_cons_succ]
              refine wpAnyH_take (i := 24) (oi := { dst := some 109, op := Op.unOp UnOp.not 4 (Operand.tmp 108), type := 4, pos := "ref.go:29", after := #[{ on := 23, ground := Ground.data }, { on := 17, ground := Ground.guard }], guard := some (17, false) }) (v := undef) rfl (by kernel_rfl) (by kernel_rfl) (by kernel_rfl) (fun _ _ _ h => h) (Or.inr ⟨by rfl, rfl⟩) (by assumption) ?_
              try simp only [Act.put, List.setIfInBounds_toArray, List.set_cons_zero, List.set_cons_succ]
              refine wpAnyH_take (i := 25) (oi := { dst := some 110, op := Op.pick (Operand.tmp 102) (Operand.const (Value.bool true)) (Operand.tmp 109), type := 4, pos := "ref.go:29", after := #[{ on := 17, ground := Ground.data }, { on := 24, ground := Ground.data }], guard := none }) (v := ?_) rfl (by kernel_rfl) (by kernel_rfl) (by kernel_rfl) (fun _ _ _ h => h) (Or.inl ⟨by rfl, ?_⟩) (by assumption) ?_
              rotate_left
              · intro w hSw; (try dsimp only at hSw); first | (go_simp; done) | (go_simp; with_reducible rfl)
              try simp only [Act.put, List.setIfInBounds_toArray, List.set_cons_zero, List.set_cons_succ]
              refine wpAnyH_done (by kernel_rfl) ?_ _
              refine NoPanic.normal ?_
              have HBB := Lib.hid (HN.out _ hE2.now).2.2.2
              clear hE2
              go_wp2
              go_ret
              refine ⟨ret_b ?_, HBB.out⟩
              rw [HB.out, decP_congr HN0.out, decP_no HNO.out]
            have nlc : decide (f.li < f.cu) = false := by simp; omega
            have HLC := Lib.hid hlc
            clear hlc
            by_cases hcan : Canon f.L
            · have HC := Lib.hid hcan
              have HCAN : Hid (sameR f.L (setL f.L) = true) := by show _ = _; rw [(sameR_iff _ _)]; exact (canon_set_iff HF.out.rs.lt).1 hcan
              clear hcan
              go_enter Tryd.func13, Tryd.ntmps13
              go_wp2_with fail
              obtain ⟨g, hg⟩ : ∃ g, g = w.heap.size := ⟨_, rfl⟩
              have hE : Ever (fun w' => (w'.cell? ⟨g, 4, none⟩ = some (.int .u64 (f.ba : Int)) ∧ w'.cell? ⟨g, 5, none⟩ = some (.int .u64 (f.cu : Int)) ∧ w'.cell? ⟨g, 6, none⟩ = some (.int .u64 (f.li : Int)) ∧ w'.cell? ⟨g, 7, none⟩ = some (.slice f.Ar f.nr f.cr) ∧ w'.cell? ⟨g, 8, none⟩ = some (.slice f.Ai f.ni f.ci)) ∧ Rs w' w'.heap.size f.Ar f.nr f.cr f.L ∧ Itms w' w'.heap.size f.Ai f.ni f.ci f.ks ∧ Below w.heap.size w w') (w.alloc (Obj.cells #[.int .i64 4, .int .i64 f.ag, .int .u64 (f.ep : Int), .int .u64 (f.ic : Int), .int .u64 (f.ba : Int), .int .u64 (f.cu : Int), .int .u64 (f.li : Int), .slice f.Ar f.nr f.cr, .slice f.Ai f.ni f.ci] 33)) := by
                intro w' hw
                have hb : Below w.heap.size w w' := (below_box w (Obj.cells #[.int .i64 4, .int .i64 f.ag, .int .u64 (f.ep : Int), .int .u64 (f.ic : Int), .int .u64 (f.ba : Int), .int .u64 (f.cu : Int), .int .u64 (f.li : Int), .slice f.Ar f.nr f.cr, .slice f.Ai f.ni f.ci] 33)).trans (hw.mono (by simp))
                rw [hg]
                exact ⟨⟨ever_cell (cell_last w _ _ _ 4 rfl) _ hw, ever_cell (cell_last w _ _ _ 5 rfl) _ hw, ever_cell (cell_last w _ _ _ 6 rfl) _ hw, ever_cell (cell_last w _ _ _ 7 rfl) _ hw, ever_cell (cell_last w _ _ _ 8 rfl) _ hw⟩, HF.out.rs.on hb (Nat.le_refl _), HF.out.it.on hb, hb⟩
              rw [← hg]
              have HG := Lib.hid hg
              clear hg
              obtain ⟨Ps, HP⟩ : ∃ Ps : World → Prop, Hid (Ps = fun w' => (w'.cell? ⟨g, 4, none⟩ = some (.int .u64 (f.ba : Int)) ∧ w'.cell? ⟨g, 5, none⟩ = some (.int .u64 (f.cu : Int)) ∧ w'.cell? ⟨g, 6, none⟩ = some (.int .u64 (f.li : Int)) ∧ w'.cell? ⟨g, 7, none⟩ = some (.slice f.Ar f.nr f.cr) ∧ w'.cell? ⟨g, 8, none⟩ = some (.slice f.Ai f.ni f.ci)) ∧ Rs w' w'.heap.size f.Ar f.nr f.cr f.L ∧ Itms w' w'.heap.size f.Ai f.ni f.ci f.ks ∧ Below w.heap.size w w') := ⟨_, rfl⟩
              have HN : Hid (∀ w', Ps w' → (w'.cell? ⟨g, 4, none⟩ = some (.int .u64 (f.ba : Int)) ∧ w'.cell? ⟨g, 5, none⟩ = some (.int .u64 (f.cu : Int)) ∧ w'.cell? ⟨g, 6, none⟩ = some (.int .u64 (f.li : Int)) ∧ w'.cell? ⟨g, 7, none⟩ = some (.slice f.Ar f.nr f.cr) ∧ w'.cell? ⟨g, 8, none⟩ = some (.slice f.Ai f.ni f.ci)) ∧ Rs w' w'.heap.size f.Ar f.nr f.cr f.L ∧ Itms w' w'.heap.size f.Ai f.ni f.ci f.ks ∧ Below w.heap.size w w') := by rw [HP.out]; exact fun _ h => h
              replace hE : Ever Ps (w.alloc (Obj.cells #[.int .i64 4, .int .i64 f.ag, .int .u64 (f.ep : Int), .int .u64 (f.ic : Int), .int .u64 (f.ba : Int), .int .u64 (f.cu : Int), .int .u64 (f.li : Int), .slice f.Ar f.nr f.cr, .slice f.Ai f.ni f.ci] 33)) := by rw [HP.out]; exact hE
              clear HP
              have hE2 := hE.drewN 1
              clear hE
              generalize w.alloc (Obj.cells #[.int .i64 4, .int .i64 f.ag, .int .u64 (f.ep : Int), .int .u64 (f.ic : Int), .int .u64 (f.ba : Int), .int .u64 (f.cu : Int), .int .u64 (f.li : Int), .slice f.Ar f.nr f.cr, .slice f.Ai f.ni f.ci] 33) = wc at *
              refine wp_region_noPanic ?_
              refine wp_region_held_drew (S := (fun w' => (w'.cell? ⟨g, 4, none⟩ = some (.int .u64 (f.ba : Int)) ∧ w'.cell? ⟨g, 5, none⟩ = some (.int .u64 (f.cu : Int)) ∧ w'.cell? ⟨g, 6, none⟩ = some (.int .u64 (f.li : Int)) ∧ w'.cell? ⟨g, 7, none⟩ = some (.slice f.Ar f.nr f.cr) ∧ w'.cell? ⟨g, 8, none⟩ = some (.slice f.Ai f.ni f.ci)) ∧ Ever Ps w')) (by kernel_rfl) ⟨(HN.out _ hE2.now).1, hE2⟩ (fun hHeld => ?_)
              refine wpAnyH_take (i := 0) (oi := { dst := some 85, op := Op.fieldAddr 33 (Operand.tmp 1) 8, type := 0, pos := "ref.go:29", after := #[], guard := none }) (v := ?_) rfl (by kernel_rfl) (by kernel_rfl) (by kernel_rfl) (fun _ _ _ h => h) (Or.inl ⟨by rfl, ?_⟩) (by assumption) ?_
              rotate_left
              · intro w hSw; (try dsimp only at hSw); first | (go_simp; done) | (go_simp; with_reducible rfl)
              try simp only [Act.put, List.setIfInBounds_toArray, List.set_cons_zero, List.set_cons_succ]
              refine wpAnyH_take (i := 1) (oi := { dst := some 86, op := Op.load 31 (Operand.tmp 85), type := 31, pos := "ref.go:29", after := #[{ on := 0, ground := Ground.data }], guard := none }) (v := ?_) rfl (by kernel_rfl) (by kernel_rfl) (by kernel_rfl) (fun _ _ _ h => h) (Or.inl ⟨by rfl, ?_⟩) (by assumption) ?_
              rotate_left
              · intro w hSw; (try dsimp only at hSw); first | (go_simp; done) | (go_simp; with_reducible rfl)
              try simp only [Act.put, List.setIfInBounds_toArray, List.set_cons_zero, List.set_cons_succ]
              refine wpAnyH_take (i := 2) (oi := { dst := some 87, op := Op.call { callee := Callee.builtin Builtin.len, args := #[Operand.tmp 86], argTypes := #[31] }, type := 3, pos := "ref.go:29", after := #[{ on := 1, ground := Ground.data }], guard := none }) (v := ?_) rfl (by kernel_rfl) (by kernel_rfl) (by kernel_rfl) (fun _ _ _ h => h) (Or.inl ⟨by rfl, ?_⟩) (by assumption) ?_
              rotate_left
              · intro w hSw; (try dsimp only at hSw); first | (go_simp; done) | (go_simp; with_reducible rfl)
              try simp only [Act.put, List.setIfInBounds_toArray, List.set_cons_zero, List.set_cons_succ]
              refine wpAnyH_take (i := 3) (oi := { dst := some 88, op := Op.binOp BinOp.gtr 3 (Operand.tmp 87) (Operand.const (Value.int IntKind.i64 64)) 3, type := 4, pos := "ref.go:29", after := #[{ on := 2, ground := Ground.data }], guard := none }) (v := ?_) rfl (by kernel_rfl) (by kernel_rfl) (by kernel_rfl) (fun _ _ _ h => h) (Or.inl ⟨by rfl, ?_⟩) (by assumption) ?_
              rotate_left
              · intro w hSw; (try dsimp only at hSw); first | (go_simp; done) | (go_simp; with_reducible rfl)
              try simp only [Act.put, List.setIfInBounds_toArray, List.set_cons_zero, List.set_cons_succ]
              refine wpAnyH_take (i := 4) (oi := { dst := some 89, op := Op.move (Operand.tmp 88), type := 4, pos := "ref.go:29", after := #[{ on := 3, ground := Ground.data }], guard := none }) (v := ?_) rfl (by kernel_rfl) (by kernel_rfl) (by kernel_rfl) (fun _ _ _ h => h) (Or.inl ⟨by rfl, ?_⟩) (by assumption) ?_
              rotate_left
              · intro w hSw; (try dsimp only at hSw); first | (go_simp; done) | (go_simp; with_reducible rfl)
              try simp only [Act.put, List.setIfInBounds_toArray, List.set_cons_zero, List.set_cons_succ]
              refine wpAnyH_take (i := 5) (oi := { dst := some 90, op := Op.fieldAddr 33 (Operand.tmp 1) 7, type := 0, pos := "ref.go:29", after := #[{ on := 4, ground := Ground.guard }], guard := some (4, false) }) (v := ?_) rfl (by kernel_rfl) (by kernel_rfl) (by kernel_rfl) (fun _ _ _ h => h) (Or.inl ⟨by rfl, ?_⟩) (by assumption) ?_
              rotate_left
              · intro w hSw; (try dsimp only at hSw); first | (go_simp; done) | (go_simp; with_reducible rfl)
              try simp only [Act.put, List.setIfInBounds_toArray, List.set_cons_zero, List.set_cons_succ]
              refine wpAnyH_take (i := 6) (oi := { dst := some 91, op := Op.load 30 (Operand.tmp 90), type := 30, pos := "ref.go:29", after := #[{ on := 5, ground := Ground.data }, { on := 4, ground := Ground.guard }], guard := some (4, false) }) (v := ?_) rfl (by kernel_rfl) (by kernel_rfl) (by kernel_rfl) (fun _ _ _ h => h) (Or.inl ⟨by rfl, ?_⟩) (by assumption) ?_
              rotate_left
              · intro w hSw; (try dsimp only at hSw); first | (go_simp; done) | (go_simp; with_reducible rfl)
              try simp only [Act.put, List.setIfInBounds_toArray, List.set_cons_zero, List.set_cons_succ]
              refine wpAnyH_take (i := 7) (oi := { dst := some 92, op := Op.call { callee := Callee.builtin Builtin.len, args := #[Operand.tmp 91], argTypes := #[30] }, type := 3, pos := "ref.go:29", after := #[{ on := 6, ground := Ground.data }, { on := 4, ground := Ground.guard }], guard := some (4, false) }) (v := ?_) rfl (by kernel_rfl) (by kernel_rfl) (by kernel_rfl) (fun _ _ _ h => h) (Or.inl ⟨by rfl, ?_⟩) (by assumption) ?_
              rotate_left
              · intro w hSw; (try dsimp only at hSw); first | (go_simp; done) | (go_simp; with_reducible rfl)
              try simp only [Act.put, List.setIfInBounds_toArray, List.set_cons_zero, List.set_cons_succ]
              refine wpAnyH_take (i := 8) (oi := { dst := some 93, op := Op.binOp BinOp.gtr 3 (Operand.tmp 92) (Operand.const (Value.int IntKind.i64 32)) 3, type := 4, pos := "ref.go:29", after := #[{ on := 7, ground := Ground.data }, { on := 4, ground := Ground.guard }], guard := some (4, false) }) (v := ?_) rfl (by kernel_rfl) (by kernel_rfl) (by kernel_rfl) (fun _ _ _ h => h) (Or.inl ⟨by rfl, ?_⟩) (by assumption) ?_
              rotate_left
              · intro w hSw; (try dsimp only at hSw); first | (go_simp; done) | (go_simp; with_reducible rfl)
              try simp only [Act.put, List.setIfInBounds_toArray, List.set_cons_zero, List.set_cons_succ]
              refine wpAnyH_take (i := 9) (oi := { dst := some 94, op := Op.pick (Operand.tmp 89) (Operand.const (Value.bool true)) (Operand.tmp 93), type := 4, pos := "ref.go:29", after := #[{ on := 4, ground := Ground.data }, { on := 8, ground := Ground.data }], guard := none }) (v := ?_) rfl (by kernel_rfl) (by kernel_rfl) (by kernel_rfl) (fun _ _ _ h => h) (Or.inl ⟨by rfl, ?_⟩) (by assumption) ?_
              rotate_left
              · intro w hSw; (try dsimp only at hSw); first | (go_simp; done) | (go_simp; with_reducible rfl)
              try simp only [Act.put, List.setIfInBounds_toArray, List.set_cons_zero, List.set_cons_succ]
              refine wpAnyH_take (i := 10) (oi := { dst := some 95, op := Op.move (Operand.tmp 94), type := 4, pos := "ref.go:29", after := #[{ on := 9, ground := Ground.data }, { on := 4, ground := Ground.chain }], guard := none }) (v := ?_) rfl (by kernel_rfl) (by kernel_rfl) (by kernel_rfl) (fun _ _ _ h => h) (Or.inl ⟨by rfl, ?_⟩) (by assumption) ?_
              rotate_left
              · intro w hSw; (try dsimp only at hSw); first | (go_simp; done) | (go_simp; with_reducible rfl)
              try simp only [Act.put, List.setIfInBounds_toArray, List.set_cons_zero, List.set_cons_succ]
              refine wpAnyH_take (i := 11) (oi := { dst := some 96, op := Op.fieldAddr 33 (Operand.tmp 1) 6, type := 0, pos := "ref.go:29", after := #[{ on := 10, ground := Ground.guard }], guard := some (10, false) }) (v := ?_) rfl (by kernel_rfl) (by kernel_rfl) (by kernel_rfl) (fun _ _ _ h => h) (Or.inl ⟨by rfl, ?_⟩) (by assumption) ?_
              rotate_left
              · intro w hSw; (try dsimp only at hSw); first | (go_simp; done) | (go_simp; with_reducible rfl)
              try simp only [Act.put, List.setIfInBounds_toArray, List.set_cons_zero, List.set_cons_succ]
              refine wpAnyH_take (i := 12) (oi := { dst := some 97, op := Op.load 22 (Operand.tmp 96), type := 22, pos := "ref.go:29", after := #[{ on := 11, ground := Ground.data }, { on := 10, ground := Ground.guard }], guard := some (10, false) }) (v := ?_) rfl (by kernel_rfl) (by kernel_rfl) (by kernel_rfl) (fun _ _ _ h => h) (Or.inl ⟨by rfl, ?_⟩) (by assumption) ?_
              rotate_left
              · intro w hSw; (try dsimp only at hSw); first | (go_simp; done) | (go_simp; with_reducible rfl)
              try simp only [Act.put, List.setIfInBounds_toArray, List.set_cons_zero, List.set_cons_succ]
              refine wpAnyH_take (i := 13) (oi := { dst := some 98, op := Op.fieldAddr 33 (Operand.tmp 1) 5, type := 0, pos := "ref.go:29", after := #[{ on := 10, ground := Ground.guard }], guard := some (10, false) }) (v := ?_) rfl (by kernel_rfl) (by kernel_rfl) (by kernel_rfl) (fun _ _ _ h => h) (Or.inl ⟨by rfl, ?_⟩) (by assumption) ?_
              rotate_left
              · intro w hSw; (try dsimp only at hSw); first | (go_simp; done) | (go_simp; with_reducible rfl)
              try simp only [Act.put, List.setIfInBounds_toArray, List.set_cons_zero, List.set_cons_succ]
              refine wpAnyH_take (i := 14) (oi := { dst := some 99, op := Op.load 22 (Operand.tmp 98), type := 22, pos := "ref.go:29", after := #[{ on := 13, ground := Ground.data }, { on := 10, ground := Ground.guard }], guard := some (10, false) }) (v := ?_) rfl (by kernel_rfl) (by kernel_rfl) (by kernel_rfl) (fun _ _ _ h => h) (Or.inl ⟨by rfl, ?_⟩) (by assumption) ?_
              rotate_left
              · intro w hSw; (try dsimp only at hSw); first | (go_simp; done) | (go_simp; with_reducible rfl)
              try simp only [Act.put, List.setIfInBounds_toArray, List.set_cons_zero, List.set_cons_succ]
              refine wpAnyH_take (i := 15) (oi := { dst := some 100, op := Op.binOp BinOp.lss 22 (Operand.tmp 97) (Operand.tmp 99) 22, type := 4, pos := "ref.go:29", after := #[{ on := 12, ground := Ground.data }, { on := 14, ground := Ground.data }, { on := 10, ground := Ground.guard }], guard := some (10, false) }) (v := ?_) rfl (by kernel_rfl) (by kernel_rfl) (by kernel_rfl) (fun _ _ _ h => h) (Or.inl ⟨by rfl, ?_⟩) (by assumption) ?_
              rotate_left
              · intro w hSw; (try dsimp only at hSw); first | (go_simp; done) | (go_simp; with_reducible rfl)
              try simp only [Act.put, List.setIfInBounds_toArray, List.set_cons_zero, List.set_cons_succ]
              refine wpAnyH_take (i := 16) (oi := { dst := some 101, op := Op.pick (Operand.tmp 95) (Operand.const (Value.bool true)) (Operand.tmp 100), type := 4, pos := "ref.go:29", after := #[{ on := 10, ground := Ground.data }, { on := 15, ground := Ground.data }], guard := none }) (v := ?_) rfl (by kernel_rfl) (by kernel_rfl) (by kernel_rfl) (fun _ _ _ h => h) (Or.inl ⟨by rfl, ?_⟩) (by assumption) ?_
              rotate_left
              · intro w hSw; (try dsimp only at hSw); first | (go_simp; done) | (go_simp; with_reducible rfl)
              try simp only [Act.put, List.setIfInBounds_toArray, List.set_cons_zero, List.set_cons_succ]
              refine wpAnyH_take (i := 17) (oi := { dst := some 102, op := Op.move (Operand.tmp 101), type := 4, pos := "ref.go:29", after := #[{ on := 16, ground := Ground.data }, { on := 10, ground := Ground.chain }], guard := none }) (v := ?_) rfl (by kernel_rfl) (by kernel_rfl) (by kernel_rfl) (fun _ _ _ h => h) (Or.inl ⟨by rfl, ?_⟩) (by assumption) ?_
              rotate_left
              · intro w hSw; (try dsimp only at hSw); first | (go_simp; done) | (go_simp; with_reducible rfl)
              try simp only [Act.put, List.setIfInBounds_toArray, List.set_cons_zero, List.set_cons_succ]
              refine wpAnyH_take (i := 18) (oi := { dst := some 103, op := Op.fieldAddr 33 (Operand.tmp 1) 7, type := 0, pos := "ref.go:29", after := #[{ on := 17, ground := Ground.guard }], guard := some (17, false) }) (v := ?_) rfl (by kernel_rfl) (by kernel_rfl) (by kernel_rfl) (fun _ _ _ h => h) (Or.inl ⟨by rfl, ?_⟩) (by assumption) ?_
              rotate_left
              · intro w hSw; (try dsimp only at hSw); first | (go_simp; done) | (go_simp; with_reducible rfl)
              try simp only [Act.put, List.setIfInBounds_toArray, List.set_cons_zero, List.set_cons_succ]
              refine wpAnyH_take (i := 19) (oi := { dst := some 104, op := Op.load 30 (Operand.tmp 103), type := 30, pos := "ref.go:29", after := #[{ on := 18, ground := Ground.data }, { on := 17, ground := Ground.guard }], guard := some (17, false) }) (v := ?_) rfl (by kernel_rfl) (by kernel_rfl) (by kernel_rfl) (fun _ _ _ h => h) (Or.inl ⟨by rfl, ?_⟩) (by assumption) ?_
              rotate_left
              · intro w hSw; (try dsimp only at hSw); first | (go_simp; done) | (go_simp; with_reducible rfl)
              try simp only [Act.put, List.setIfInBounds_toArray, List.set_cons_zero, List.set_cons_succ]
              refine wpAnyH_take (i := 20) (oi := { dst := some 105, op := Op.fieldAddr 33 (Operand.tmp 1) 7, type := 0, pos := "ref.go:29", after := #[{ on := 17, ground := Ground.guard }], guard := some (17, false) }) (v := ?_) rfl (by kernel_rfl) (by kernel_rfl) (by kernel_rfl) (fun _ _ _ h => h) (Or.inl ⟨by rfl, ?_⟩) (by assumption) ?_
              rotate_left
              · intro w hSw; (try dsimp only at hSw); first | (go_simp; done) | (go_simp; with_reducible rfl)
              try simp only [Act.put, List.setIfInBounds_toArray, List.set_cons_zero, List.set_cons_succ]
              refine wpAnyH_take (i := 21) (oi := { dst := some 106, op := Op.load 30 (Operand.tmp 105), type := 30, pos := "ref.go:29", after := #[{ on := 20, ground := Ground.data }, { on := 17, ground := Ground.guard }], guard := some (17, false) }) (v := ?_) rfl (by kernel_rfl) (by kernel_rfl) (by kernel_rfl) (fun _ _ _ h => h) (Or.inl ⟨by rfl, ?_⟩) (by assumption) ?_
              rotate_left
              · intro w hSw; (try dsimp only at hSw); first | (go_simp; done) | (go_simp; with_reducible rfl)
              try simp only [Act.put, List.setIfInBounds_toArray, List.set_cons_zero, List.set_cons_succ]
              refine wpAnyH_ready (rs := [22]) (by kernel_rfl) (by simp) ?_
              refine AllReadyH.cons (o := { dst := some 107, op := Op.call { callee := Callee.value (Operand.func 29), args := #[Operand.tmp 106], argTypes := #[30] }, type := 30, pos := "ref.go:29", after := #[{ on := 21, ground := Ground.data }, { on := 17, ground := Ground.chain }, { on := 17, ground := Ground.guard }], guard := some (17, false) }) rfl (fun K hK => ?_) AllReadyH.nil
              go_simp
              go_at_call 29
              refine (plain_any _ f.Ar f.nr f.cr f.L (HN.out _ hE2.now).2.1 (by omega)).mono ?_
              rintro e w2 ⟨A2, n2, c2, rfl, hr2, hb2⟩
              replace hE2 := hE2.next hb2
              clear hb2
              go_wp2_with fail
              clear hHeld
              refine hK.out _ _ ⟨(HN.out _ hE2.now).1, hE2⟩ (fun hHeld => ?_)
              clear hK K
              try simp only [Act.put, List.setIfInBounds_toArray, List.set_cons_zero, List.set_cons_succ]
              refine wpAnyH_ready (rs := [23]) (by kernel_rfl) (by simp) ?_
              refine AllReadyH.cons (o := { dst := some 108, op := Op.call { callee := Callee.value (Operand.func 28), args := #[Operand.tmp 104, Operand.tmp 107], argTypes := #[30, 30] }, type := 4, pos := "ref.go:29", after := #[{ on := 19, ground := Ground.data }, { on := 22, ground := Ground.data }, { on := 22, ground := Ground.chain }, { on := 17, ground := Ground.guard }], guard := some (17, false) }) rfl (fun K hK => ?_) AllReadyH.nil
              go_simp
              go_at_call 28
              refine (refSameR_says _ f.Ar A2 f.nr f.cr n2 c2 f.L (setL f.L) (HN.out _ hE2.now).2.1 hr2).mono ?_
              rintro e w3 ⟨rfl, hb3⟩
              replace hE2 := hE2.next hb3
              clear hb3 hr2
              rw [show sameR f.L (setL f.L) = true from HCAN.out]
              go_wp2_with fail
              clear hHeld
              refine hK.out _ _ ⟨(HN.out _ hE2.now).1, hE2⟩ (fun hHeld => ?_)
              clear hK K
              try simp only [Act.put, List.setIfInBounds_toArray, List.set_cons_zero, List.set_cons_succ]
              refine wpAnyH_take (i := 24) (oi := { dst := some 109, op := Op.unOp UnOp.not 4 (Operand.tmp 108), type := 4, pos := "ref.go:29", after := #[{ on := 23, ground := Ground.data }, { on := 17, ground := Ground.guard }], guard := some (17, false) }) (v := ?_) rfl (by kernel_rfl) (by kernel_rfl) (by kernel_rfl) (fun _ _ _ h => h) (Or.inl ⟨by rfl, ?_⟩) (by assumption) ?_
              rotate_left
              · intro w hSw; (try dsimp only at hSw); first | (go_simp; done) | (go_simp; with_reducible rfl)
              try simp only [Act.put, List.setIfInBounds_toArray, List.set_cons_zero, List.set_cons_succ]
              refine wpAnyH_take (i := 25) (oi := { dst := some 110, op := Op.pick (Operand.tmp 102) (Operand.const (Value.bool true)) (Operand.tmp 109), type := 4, pos := "ref.go:29", after := #[{ on := 17, ground := Ground.data }, { on := 24, ground := Ground.data }], guard := none }) (v := ?_) rfl (by kernel_rfl) (by kernel_rfl) (by kernel_rfl) (fun _ _ _ h => h) (Or.inl ⟨by rfl, ?_⟩) (by assumption) ?_
              rotate_left
              · intro w hSw; (try dsimp only at hSw); first | (go_simp; done) | (go_simp; with_reducible rfl)
              try simp only [Act.put, List.setIfInBounds_toArray, List.set_cons_zero, List.set_cons_succ]
              refine wpAnyH_done (by kernel_rfl) ?_ _
              refine NoPanic.normal ?_
              have HBB := Lib.hid (HN.out _ hE2.now).2.2.2
              have HRS := Lib.hid (HN.out _ hE2.now).2.1
              have HIT := Lib.hid (HN.out _ hE2.now).2.2.1
              obtain ⟨⟨q4, q5, q6, q7, q8⟩, -⟩ := HN.out _ hE2.now
              have HEV := Lib.hid hE2
              clear hE2
              go_wp2
              refine wp_loop_rounds 1 ?_
              rw [rounds_succ]
              go_wp2
              go_loopg [147] f.nr (fun gk i wr => RunsRel w3 f.cu f.li f.L gk i wr)
              case atStart => exact ⟨0, by have := HLR.out; omega, rfl, fun t r ht => absurd ht (by omega), Below.refl _ _⟩
              case round =>
                obtain ⟨j, hj, rfl, hok, hbr⟩ := hrel
                have HJ := Lib.hid hj
                have HOK := Lib.hid hok
                have HBR := Lib.hid hbr
                have hgz : g < w3.heap.size := World.block_lt_of_cell? w3 _ q5
                have e5 := (hbr.cell (p := ⟨g, 5, none⟩) hgz).trans q5
                have e6 := (hbr.cell (p := ⟨g, 6, none⟩) hgz).trans q6
                have hgr : g < wr.heap.size := Nat.lt_of_lt_of_le hgz hbr.size
                by_cases hlt : j < f.nr
                · obtain ⟨bb, o, r, ea, hbb, hr, c0, c1, l0, l1⟩ := HRS.out.at_ hlt
                  have d0 := (hbr.cell (p := ⟨bb, o + j * 2, none⟩) hbb).trans c0
                  have d1 := (hbr.cell (p := ⟨bb, o + j * 2 + 1, none⟩) hbb).trans c1
                  have hbz : bb < wr.heap.size := Nat.lt_of_lt_of_le hbb hbr.size
                  have HR := Lib.hid hr
                  have HBX : Hid (Below w3.heap.size w3 (wr.alloc (.cells #[.int .u64 (r.1 : Int), .int .u64 (r.2 : Int)] 76))) := hbr.alloc hbr.size _
                  unfold two64 at l0 l1
                  obtain ⟨r0, r1⟩ := r
                  dsimp only at d0 d1 l0 l1 HBX
                  clear c0 c1 hr hbb hbr hj hok q4 q5 q6 q7 q8
                  rw [ea]
                  have HRO : Hid (RunOk f.cu f.li j (r0, r1) ↔ r1 ≤ f.li ∧ (j = 0 → f.cu + 2 ≤ r0)) := Iff.rfl
                  have hno : ¬ RunOk f.cu f.li j (r0, r1) → ¬ (0 ≤ f.ag ∧ f.ag < 16 ∧ 1 ≤ f.ep ∧ f.ba = 0 ∧ f.ni = 0 ∧ f.cu ≤ f.li ∧ RunsP f.m) := fun hn hx => hn (runsP_one (m := f.m) hx.2.2.2.2.2.2 HR.out)
                  have HNO := Lib.hid hno
                  clear hno
                  have hstep : RunOk f.cu f.li j (r0, r1) → RunsRel w3 f.cu f.li f.L (gk - 1) (.int .i64 ((j : Int) + 1)) (wr.alloc (.cells #[.int .u64 (r0 : Int), .int .u64 (r1 : Int)] 76)) := fun hr => by
                    refine ⟨j + 1, by have := HJ.out; have := HLR.out; omega, by simp, fun t q ht hq => ?_, HBX.out⟩
                    rcases Nat.lt_or_ge t j with h1 | h1
                    · exact HOK.out t q h1 hq
                    · have e : t = j := by omega
                      subst e
                      rw [HR.out] at hq
                      injection hq with hq
                      subst hq
                      exact hr
                  have HST := Lib.hid hstep
                  clear hstep
                  have fin : ∀ P : Prop, P → P := fun _ h => h
                  by_cases hj0 : j = 0
                  · have hj0I : ((j : Int) == 0) = true := by simp [hj0]
                    have HJ0 := Lib.hid hj0
                    clear hj0
                    go_wp2
                    all_goals first
                      | (go_ret; refine ⟨ret_b ?_, HBB.out.trans (HBX.out.mono HBB.out.size)⟩; rw [HB.out, decP_congr HN0.out, decP_no (HNO.out (fun h => by have h1 := HRO.out.1 h; have h2 := h1.2 HJ0.out; omega))])
                      | (rw [← ea]
                         go_roundg (gk - 1)
                         case measure => have := HJ.out; have := HLR.out; omega
                         case rel => exact HST.out (HRO.out.2 ⟨by omega, fun _ => by omega⟩))
                  · have hj0I : ((j : Int) == 0) = false := by simp [hj0]
                    have HJ0 := Lib.hid hj0
                    clear hj0
                    go_wp2
                    all_goals first
                      | (go_ret; refine ⟨ret_b ?_, HBB.out.trans (HBX.out.mono HBB.out.size)⟩; rw [HB.out, decP_congr HN0.out, decP_no (HNO.out (fun h => by have h1 := HRO.out.1 h; omega))])
                      | (rw [← ea]
                         go_roundg (gk - 1)
                         case measure => have := HJ.out; have := HLR.out; omega
                         case rel => exact HST.out (HRO.out.2 ⟨by omega, fun e => absurd e HJ0.out⟩))
                · clear hbr
                  go_wp2
                  go_ret
                  refine ⟨ret_b ?_, HBB.out.trans (HBR.out.mono HBB.out.size)⟩
                  rw [HB.out, decP_congr HN0.out, decP_yes]
                  refine ⟨Hh1.out, Hh2.out, Hh3.out, Hh4.out, Hh9.out, by have := HLC.out; omega, runsP_all (by show f.L.length ≤ 32; have := H32.out; have := HLR.out; omega) HC.out (fun t r hr => HOK.out t r ?_ hr)⟩
                  have hr' : f.L[t]? = some r := hr
                  have := (List.getElem?_eq_some_iff.1 hr').1
                  have := HLR.out
                  omega
            · have HCAN : Hid (sameR f.L (setL f.L) = false) := by
                show _ = _
                cases hs : sameR f.L (setL f.L) with
                | false => rfl
                | true => exact absurd ((canon_set_iff HF.out.rs.lt).2 ((sameR_iff _ _).1 hs)) hcan
              have HNO : Hid (¬ (0 ≤ f.ag ∧ f.ag < 16 ∧ 1 ≤ f.ep ∧ f.ba = 0 ∧ f.ni = 0 ∧ f.cu ≤ f.li ∧ RunsP f.m)) := by
                rintro ⟨_, _, _, _, _, _, hp⟩
                rcases hp with hp | hp
                · have hp' : f.L = [] := hp
                  exact hcan (by rw [hp']; exact Canon.nil)
                · exact hcan hp.2.1
              clear hcan
              go_enter Tryd.func13, Tryd.ntmps13
              go_wp2_with fail
              obtain ⟨g, hg⟩ : ∃ g, g = w.heap.size := ⟨_, rfl⟩
              have hE : Ever (fun w' => (w'.cell? ⟨g, 4, none⟩ = some (.int .u64 (f.ba : Int)) ∧ w'.cell? ⟨g, 5, none⟩ = some (.int .u64 (f.cu : Int)) ∧ w'.cell? ⟨g, 6, none⟩ = some (.int .u64 (f.li : Int)) ∧ w'.cell? ⟨g, 7, none⟩ = some (.slice f.Ar f.nr f.cr) ∧ w'.cell? ⟨g, 8, none⟩ = some (.slice f.Ai f.ni f.ci)) ∧ Rs w' w'.heap.size f.Ar f.nr f.cr f.L ∧ Itms w' w'.heap.size f.Ai f.ni f.ci f.ks ∧ Below w.heap.size w w') (w.alloc (Obj.cells #[.int .i64 4, .int .i64 f.ag, .int .u64 (f.ep : Int), .int .u64 (f.ic : Int), .int .u64 (f.ba : Int), .int .u64 (f.cu : Int), .int .u64 (f.li : Int), .slice f.Ar f.nr f.cr, .slice f.Ai f.ni f.ci] 33)) := by
                intro w' hw
                have hb : Below w.heap.size w w' := (below_box w (Obj.cells #[.int .i64 4, .int .i64 f.ag, .int .u64 (f.ep : Int), .int .u64 (f.ic : Int), .int .u64 (f.ba : Int), .int .u64 (f.cu : Int), .int .u64 (f.li : Int), .slice f.Ar f.nr f.cr, .slice f.Ai f.ni f.ci] 33)).trans (hw.mono (by simp))
                rw [hg]
                exact ⟨⟨ever_cell (cell_last w _ _ _ 4 rfl) _ hw, ever_cell (cell_last w _ _ _ 5 rfl) _ hw, ever_cell (cell_last w _ _ _ 6 rfl) _ hw, ever_cell (cell_last w _ _ _ 7 rfl) _ hw, ever_cell (cell_last w _ _ _ 8 rfl) _ hw⟩, HF.out.rs.on hb (Nat.le_refl _), HF.out.it.on hb, hb⟩
              rw [← hg]
              have HG := Lib.hid hg
              clear hg
              obtain ⟨Ps, HP⟩ : ∃ Ps : World → Prop, Hid (Ps = fun w' => (w'.cell? ⟨g, 4, none⟩ = some (.int .u64 (f.ba : Int)) ∧ w'.cell? ⟨g, 5, none⟩ = some (.int .u64 (f.cu : Int)) ∧ w'.cell? ⟨g, 6, none⟩ = some (.int .u64 (f.li : Int)) ∧ w'.cell? ⟨g, 7, none⟩ = some (.slice f.Ar f.nr f.cr) ∧ w'.cell? ⟨g, 8, none⟩ = some (.slice f.Ai f.ni f.ci)) ∧ Rs w' w'.heap.size f.Ar f.nr f.cr f.L ∧ Itms w' w'.heap.size f.Ai f.ni f.ci f.ks ∧ Below w.heap.size w w') := ⟨_, rfl⟩
              have HN : Hid (∀ w', Ps w' → (w'.cell? ⟨g, 4, none⟩ = some (.int .u64 (f.ba : Int)) ∧ w'.cell? ⟨g, 5, none⟩ = some (.int .u64 (f.cu : Int)) ∧ w'.cell? ⟨g, 6, none⟩ = some (.int .u64 (f.li : Int)) ∧ w'.cell? ⟨g, 7, none⟩ = some (.slice f.Ar f.nr f.cr) ∧ w'.cell? ⟨g, 8, none⟩ = some (.slice f.Ai f.ni f.ci)) ∧ Rs w' w'.heap.size f.Ar f.nr f.cr f.L ∧ Itms w' w'.heap.size f.Ai f.ni f.ci f.ks ∧ Below w.heap.size w w') := by rw [HP.out]; exact fun _ h => h
              replace hE : Ever Ps (w.alloc (Obj.cells #[.int .i64 4, .int .i64 f.ag, .int .u64 (f.ep : Int), .int .u64 (f.ic : Int), .int .u64 (f.ba : Int), .int .u64 (f.cu : Int), .int .u64 (f.li : Int), .slice f.Ar f.nr f.cr, .slice f.Ai f.ni f.ci] 33)) := by rw [HP.out]; exact hE
              clear HP
              have hE2 := hE.drewN 1
              clear hE
              generalize w.alloc (Obj.cells #[.int .i64 4, .int .i64 f.ag, .int .u64 (f.ep : Int), .int .u64 (f.ic : Int), .int .u64 (f.ba : Int), .int .u64 (f.cu : Int), .int .u64 (f.li : Int), .slice f.Ar f.nr f.cr, .slice f.Ai f.ni f.ci] 33) = wc at *
              refine wp_region_noPanic ?_
              refine wp_region_held_drew (S := (fun w' => (w'.cell? ⟨g, 4, none⟩ = some (.int .u64 (f.ba : Int)) ∧ w'.cell? ⟨g, 5, none⟩ = some (.int .u64 (f.cu : Int)) ∧ w'.cell? ⟨g, 6, none⟩ = some (.int .u64 (f.li : Int)) ∧ w'.cell? ⟨g, 7, none⟩ = some (.slice f.Ar f.nr f.cr) ∧ w'.cell? ⟨g, 8, none⟩ = some (.slice f.Ai f.ni f.ci)) ∧ Ever Ps w')) (by kernel_rfl) ⟨(HN.out _ hE2.now).1, hE2⟩ (fun hHeld => ?_)
              refine wpAnyH_take (i := 0) (oi := { dst := some 85, op := Op.fieldAddr 33 (Operand.tmp 1) 8, type := 0, pos := "ref.go:29", after := #[], guard := none }) (v := ?_) rfl (by kernel_rfl) (by kernel_rfl) (by kernel_rfl) (fun _ _ _ h => h) (Or.inl ⟨by rfl, ?_⟩) (by assumption) ?_
              rotate_left
              · intro w hSw; (try dsimp only at hSw); first | (go_simp; done) | (go_simp; with_reducible rfl)
              try simp only [Act.put, List.setIfInBounds_toArray, List.set_cons_zero, List.set_cons_succ]
              refine wpAnyH_take (i := 1) (oi := { dst := some 86, op := Op.load 31 (Operand.tmp 85), type := 31, pos := "ref.go:29", after := #[{ on := 0, ground := Ground.data }], guard := none }) (v := ?_) rfl (by kernel_rfl) (by kernel_rfl) (by kernel_rfl) (fun _ _ _ h => h) (Or.inl ⟨by rfl, ?_⟩) (by assumption) ?_
              rotate_left
              · intro w hSw; (try dsimp only at hSw); first | (go_simp; done) | (go_simp; with_reducible rfl)
              try simp only [Act.put, List.setIfInBounds_toArray, List.set_cons_zero, List.set_cons_succ]
              refine wpAnyH_take (i := 2) (oi := { dst := some 87, op := Op.call { callee := Callee.builtin Builtin.len, args := #[Operand.tmp 86], argTypes := #[31] }, type := 3, pos := "ref.go:29", after := #[{ on := 1, ground := Ground.data }], guard := none }) (v := ?_) rfl (by kernel_rfl) (by kernel_rfl) (by kernel_rfl) (fun _ _ _ h => h) (Or.inl ⟨by rfl, ?_⟩) (by assumption) ?_
              rotate_left
              · intro w hSw; (try dsimp only at hSw); first | (go_simp; done) | (go_simp; with_reducible rfl)
              try simp only [Act.put, List.setIfInBounds_toArray, List.set_cons_zero, List.set_cons_succ]
              refine wpAnyH_take (i := 3) (oi := { dst := some 88, op := Op.binOp BinOp.gtr 3 (Operand.tmp 87) (Operand.const (Value.int IntKind.i64 64)) 3, type := 4, pos := "ref.go:29", after := #[{ on := 2, ground := Ground.data }], guard := none }) (v := ?_) rfl (by kernel_rfl) (by kernel_rfl) (by kernel_rfl) (fun _ _ _ h => h) (Or.inl ⟨by rfl, ?_⟩) (by assumption) ?_
              rotate_left
              · intro w hSw; (try dsimp only at hSw); first | (go_simp; done) | (go_simp; with_reducible rfl)
              try simp only [Act.put, List.setIfInBounds_toArray, List.set_cons_zero, List.set_cons_succ]
              refine wpAnyH_take (i := 4) (oi := { dst := some 89, op := Op.move (Operand.tmp 88), type := 4, pos := "ref.go:29", after := #[{ on := 3, ground := Ground.data }], guard := none }) (v := ?_) rfl (by kernel_rfl) (by kernel_rfl) (by kernel_rfl) (fun _ _ _ h => h) (Or.inl ⟨by rfl, ?_⟩) (by assumption) ?_
              rotate_left
              · intro w hSw; (try dsimp only at hSw); first | (go_simp; done) | (go_simp; with_reducible rfl)
              try simp only [Act.put, List.setIfInBounds_toArray, List.set_cons_zero, List.set_cons_succ]
              refine wpAnyH_take (i := 5) (oi := { dst := some 90, op := Op.fieldAddr 33 (Operand.tmp 1) 7, type := 0, pos := "ref.go:29", after := #[{ on := 4, ground := Ground.guard }], guard := some (4, false) }) (v := ?_) rfl (by kernel_rfl) (by kernel_rfl) (by kernel_rfl) (fun _ _ _ h => h) (Or.inl ⟨by rfl, ?_⟩) (by assumption) ?_
              rotate_left
              · intro w hSw; (try dsimp only at hSw); first | (go_simp; done) | (go_simp; with_reducible rfl)
              try simp only [Act.put, List.setIfInBounds_toArray, List.set_cons_zero, List.set_cons_succ]
              refine wpAnyH_take (i := 6) (oi := { dst := some 91, op := Op.load 30 (Operand.tmp 90), type := 30, pos := "ref.go:29", after := #[{ on := 5, ground := Ground.data }, { on := 4, ground := Ground.guard }], guard := some (4, false) }) (v := ?_) rfl (by kernel_rfl) (by kernel_rfl) (by kernel_rfl) (fun _ _ _ h => h) (Or.inl ⟨by rfl, ?_⟩) (by assumption) ?_
              rotate_left
              · intro w hSw; (try dsimp only at hSw); first | (go_simp; done) | (go_simp; with_reducible rfl)
              try simp only [Act.put, List.setIfInBounds_toArray, List.set_cons_zero, List.set_cons_succ]
              refine wpAnyH_take (i := 7) (oi := { dst := some 92, op := Op.call { callee := Callee.builtin Builtin.len, args := #[Operand.tmp 91], argTypes := #[30] }, type := 3, pos := "ref.go:29", after := #[{ on := 6, ground := Ground.data }, { on := 4, ground := Ground.guard }], guard := some (4, false) }) (v := ?_) rfl (by kernel_rfl) (by kernel_rfl) (by kernel_rfl) (fun _ _ _ h => h) (Or.inl ⟨by rfl, ?_⟩) (by assumption) ?_
              rotate_left
              · intro w hSw; (try dsimp only at hSw); first | (go_simp; done) | (go_simp; with_reducible rfl)
              try simp only [Act.put, List.setIfInBounds_toArray, List.set_cons_zero, List.set_cons_succ]
              refine wpAnyH_take (i := 8) (oi := { dst := some 93, op := Op.binOp BinOp.gtr 3 (Operand.tmp 92) (Operand.const (Value.int IntKind.i64 32)) 3, type := 4, pos := "ref.go:29", after := #[{ on := 7, ground := Ground.data }, { on := 4, ground := Ground.guard }], guard := some (4, false) }) (v := ?_) rfl (by kernel_rfl) (by kernel_rfl) (by kernel_rfl) (fun _ _ _ h => h) (Or.inl ⟨by rfl, ?_⟩) (by assumption) ?_
              rotate_left
              · intro w hSw; (try dsimp only at hSw); first | (go_simp; done) | (go_simp; with_reducible rfl)
              try simp only [Act.put, List.setIfInBounds_toArray, List.set_cons_zero, List.set_cons_succ]
              refine wpAnyH_take (i := 9) (oi := { dst := some 94, op := Op.pick (Operand.tmp 89) (Operand.const (Value.bool true)) (Operand.tmp 93), type := 4, pos := "ref.go:29", after := #[{ on := 4, ground := Ground.data }, { on := 8, ground := Ground.data }], guard := none }) (v := ?_) rfl (by kernel_rfl) (by kernel_rfl) (by kernel_rfl) (fun _ _ _ h => h) (Or.inl ⟨by rfl, ?_⟩) (by assumption) ?_
              rotate_left
              · intro w hSw; (try dsimp only at hSw); first | (go_simp; done) | (go_simp; with_reducible rfl)
              try simp only [Act.put, List.setIfInBounds_toArray, List.set_cons_zero, List.set_cons_succ]
              refine wpAnyH_take (i := 10) (oi := { dst := some 95, op := Op.move (Operand.tmp 94), type := 4, pos := "ref.go:29", after := #[{ on := 9, ground := Ground.data }, { on := 4, ground := Ground.chain }], guard := none }) (v := ?_) rfl (by kernel_rfl) (by kernel_rfl) (by kernel_rfl) (fun _ _ _ h => h) (Or.inl ⟨by rfl, ?_⟩) (by assumption) ?_
              rotate_left
              · intro w hSw; (try dsimp only at hSw); first | (go_simp; done) | (go_simp; with_reducible rfl)
              try simp only [Act.put, List.setIfInBounds_toArray, List.set_cons_zero, List.set_cons_succ]
              refine wpAnyH_take (i := 11) (oi := { dst := some 96, op := Op.fieldAddr 33 (Operand.tmp 1) 6, type := 0, pos := "ref.go:29", after := #[{ on := 10, ground := Ground.guard }], guard := some (10, false) }) (v := ?_) rfl (by kernel_rfl) (by kernel_rfl) (by kernel_rfl) (fun _ _ _ h => h) (Or.inl ⟨by rfl, ?_⟩) (by assumption) ?_
              rotate_left
              · intro w hSw; (try dsimp only at hSw); first | (go_simp; done) | (go_simp; with_reducible rfl)
              try simp only [Act.put, List.setIfInBounds_toArray, List.set_cons_zero, List.set_cons_succ]
              refine wpAnyH_take (i := 12) (oi := { dst := some 97, op := Op.load 22 (Operand.tmp 96), type := 22, pos := "ref.go:29", after := #[{ on := 11, ground := Ground.data }, { on := 10, ground := Ground.guard }], guard := some (10, false) }) (v := ?_) rfl (by kernel_rfl) (by kernel_rfl) (by kernel_rfl) (fun _ _ _ h => h) (Or.inl ⟨by rfl, ?_⟩) (by assumption) ?_
              rotate_left
              · intro w hSw; (try dsimp only at hSw); first | (go_simp; done) | (go_simp; with_reducible rfl)
              try simp only [Act.put, List.setIfInBounds_toArray, List.set_cons_zero, List.set_cons_succ]
              refine wpAnyH_take (i := 13) (oi := { dst := some 98, op := Op.fieldAddr 33 (Operand.tmp 1) 5, type := 0, pos := "ref.go:29", after := #[{ on := 10, ground := Ground.guard }], guard := some (10, false) }) (v := ?_) rfl (by kernel_rfl) (by kernel_rfl) (by kernel_rfl) (fun _ _ _ h => h) (Or.inl ⟨by rfl, ?_⟩) (by assumption) ?_
              rotate_left
              · intro w hSw; (try dsimp only at hSw); first | (go_simp; done) | (go_simp; with_reducible rfl)
              try simp only [Act.put, List.setIfInBounds_toArray, List.set_cons_zero, List.set_cons_succ]
              refine wpAnyH_take (i := 14) (oi := { dst := some 99, op := Op.load 22 (Operand.tmp 98), type := 22, pos := "ref.go:29", after := #[{ on := 13, ground := Ground.data }, { on := 10, ground := Ground.guard }], guard := some (10, false) }) (v := ?_) rfl (by kernel_rfl) (by kernel_rfl) (by kernel_rfl) (fun _ _ _ h => h) (Or.inl ⟨by rfl, ?_⟩) (by assumption) ?_
              rotate_left
              · intro w hSw; (try dsimp only at hSw); first | (go_simp; done) | (go_simp; with_reducible rfl)
              try simp only [Act.put, List.setIfInBounds_toArray, List.set_cons_zero, List.set_cons_succ]
              refine wpAnyH_take (i := 15) (oi := { dst := some 100, op := Op.binOp BinOp.lss 22 (Operand.tmp 97) (Operand.tmp 99) 22, type := 4, pos := "ref.go:29", after := #[{ on := 12, ground := Ground.data }, { on := 14, ground := Ground.data }, { on := 10, ground := Ground.guard }], guard := some (10, false) }) (v := ?_) rfl (by kernel_rfl) (by kernel_rfl) (by kernel_rfl) (fun _ _ _ h => h) (Or.inl ⟨by rfl, ?_⟩) (by assumption) ?_
              rotate_left
              · intro w hSw; (try dsimp only at hSw); first | (go_simp; done) | (go_simp; with_reducible rfl)
              try simp only [Act.put, List.setIfInBounds_toArray, List.set_cons_zero, List.set_cons_succ]
              refine wpAnyH_take (i := 16) (oi := { dst := some 101, op := Op.pick (Operand.tmp 95) (Operand.const (Value.bool true)) (Operand.tmp 100), type := 4, pos := "ref.go:29", after := #[{ on := 10, ground := Ground.data }, { on := 15, ground := Ground.data }], guard := none }) (v := ?_) rfl (by kernel_rfl) (by kernel_rfl) (by kernel_rfl) (fun _ _ _ h => h) (Or.inl ⟨by rfl, ?_⟩) (by assumption) ?_
              rotate_left
              · intro w hSw; (try dsimp only at hSw); first | (go_simp; done) | (go_simp; with_reducible rfl)
              try simp only [Act.put, List.setIfInBounds_toArray, List.set_cons_zero, List.set_cons_succ]
              refine wpAnyH_take (i := 17) (oi := { dst := some 102, op := Op.move (Operand.tmp 101), type := 4, pos := "ref.go:29", after := #[{ on := 16, ground := Ground.data }, { on := 10, ground := Ground.chain }], guard := none }) (v := ?_) rfl (by kernel_rfl) (by kernel_rfl) (by kernel_rfl) (fun _ _ _ h => h) (Or.inl ⟨by rfl, ?_⟩) (by assumption) ?_
              rotate_left
              · intro w hSw; (try dsimp only at hSw); first | (go_simp; done) | (go_simp; with_reducible rfl)
              try simp only [Act.put, List.setIfInBounds_toArray, List.set_cons_zero, List.set_cons_succ]
              refine wpAnyH_take (i := 18) (oi := { dst := some 103, op := Op.fieldAddr 33 (Operand.tmp 1) 7, type := 0, pos := "ref.go:29", after := #[{ on := 17, ground := Ground.guard }], guard := some (17, false) }) (v := ?_) rfl (by kernel_rfl) (by kernel_rfl) (by kernel_rfl) (fun _ _ _ h => h) (Or.inl ⟨by rfl, ?_⟩) (by assumption) ?_
              rotate_left
              · intro w hSw; (try dsimp only at hSw); first | (go_simp; done) | (go_simp; with_reducible rfl)
              try simp only [Act.put, List.setIfInBounds_toArray, List.set_cons_zero, List.set_cons_succ]
              refine wpAnyH_take (i := 19) (oi := { dst := some 104, op := Op.load 30 (Operand.tmp 103), type := 30, pos := "ref.go:29", after := #[{ on := 18, ground := Ground.data }, { on := 17, ground := Ground.guard }], guard := some (17, false) }) (v := ?_) rfl (by kernel_rfl) (by kernel_rfl) (by kernel_rfl) (fun _ _ _ h => h) (Or.inl ⟨by rfl, ?_⟩) (by assumption) ?_
              rotate_left
              · intro w hSw; (try dsimp only at hSw); first | (go_simp; done) | (go_simp; with_reducible rfl)
              try simp only [Act.put, List.setIfInBounds_toArray, List.set_cons_zero, List.set_cons_succ]
              refine wpAnyH_take (i := 20) (oi := { dst := some 105, op := Op.fieldAddr 33 (Operand.tmp 1) 7, type := 0, pos := "ref.go:29", after := #[{ on := 17, ground := Ground.guard }], guard := some (17, false) }) (v := ?_) rfl (by kernel_rfl) (by kernel_rfl) (by kernel_rfl) (fun _ _ _ h => h) (Or.inl ⟨by rfl, ?_⟩) (by assumption) ?_
              rotate_left
              · intro w hSw; (try dsimp only at hSw); first | (go_simp; done) | (go_simp; with_reducible rfl)
              try simp only [Act.put, List.setIfInBounds_toArray, List.set_cons_zero, List.set_cons_succ]
              refine wpAnyH_take (i := 21) (oi := { dst := some 106, op := Op.load 30 (Operand.tmp 105), type := 30, pos := "ref.go:29", after := #[{ on := 20, ground := Ground.data }, { on := 17, ground := Ground.guard }], guard := some (17, false) }) (v := ?_) rfl (by kernel_rfl) (by kernel_rfl) (by kernel_rfl) (fun _ _ _ h => h) (Or.inl ⟨by rfl, ?_⟩) (by assumption) ?_
              rotate_left
              · intro w hSw; (try dsimp only at hSw); first | (go_simp; done) | (go_simp; with_reducible rfl)
              try simp only [Act.put, List.setIfInBounds_toArray, List.set_cons_zero, List.set_cons_succ]
              refine wpAnyH_ready (rs := [22]) (by kernel_rfl) (by simp) ?_
              refine AllReadyH.cons (o := { dst := some 107, op := Op.call { callee := Callee.value (Operand.func 29), args := #[Operand.tmp 106], argTypes := #[30] }, type := 30, pos := "ref.go:29", after := #[{ on := 21, ground := Ground.data }, { on := 17, ground := Ground.chain }, { on := 17, ground := Ground.guard }], guard := some (17, false) }) rfl (fun K hK => ?_) AllReadyH.nil
              go_simp
              go_at_call 29
              refine (plain_any _ f.Ar f.nr f.cr f.L (HN.out _ hE2.now).2.1 (by omega)).mono ?_
              rintro e w2 ⟨A2, n2, c2, rfl, hr2, hb2⟩
              replace hE2 := hE2.next hb2
              clear hb2
              go_wp2_with fail
              clear hHeld
              refine hK.out _ _ ⟨(HN.out _ hE2.now).1, hE2⟩ (fun hHeld => ?_)
              clear hK K
              try simp only [Act.put, List.setIfInBounds_toArray, List.set_cons_zero, List.set_cons_succ]
              refine wpAnyH_ready (rs := [23]) (by kernel_rfl) (by simp) ?_
              refine AllReadyH.cons (o := { dst := some 108, op := Op.call { callee := Callee.value (Operand.func 28), args := #[Operand.tmp 104, Operand.tmp 107], argTypes := #[30, 30] }, type := 4, pos := "ref.go:29", after := #[{ on := 19, ground := Ground.data }, { on := 22, ground := Ground.data }, { on := 22, ground := Ground.chain }, { on := 17, ground := Ground.guard }], guard := some (17, false) }) rfl (fun K hK => ?_) AllReadyH.nil
              go_simp
              go_at_call 28
              refine (refSameR_says _ f.Ar A2 f.nr f.cr n2 c2 f.L (setL f.L) (HN.out _ hE2.now).2.1 hr2).mono ?_
              rintro e w3 ⟨rfl, hb3⟩
              replace hE2 := hE2.next hb3
              clear hb3 hr2
              rw [show sameR f.L (setL f.L) = false from HCAN.out]
              go_wp2_with fail
              clear hHeld
              refine hK.out _ _ ⟨(HN.out _ hE2.now).1, hE2⟩ (fun hHeld => ?_)
              clear hK K
              try simp only [Act.put, List.setIfInBounds_toArray, List.set_cons_zero, List.set_cons_succ]
              refine wpAnyH_take (i := 24) (oi := { dst := some 109, op := Op.unOp UnOp.not 4 (Operand.tmp 108), type := 4, pos := "ref.go:29", after := #[{ on := 23, ground := Ground.data }, { on := 17, ground := Ground.guard }], guard := some (17, false) }) (v := ?_) rfl (by kernel_rfl) (by kernel_rfl) (by kernel_rfl) (fun _ _ _ h => h) (Or.inl ⟨by rfl, ?_⟩) (by assumption) ?_
              rotate_left
              · intro w hSw; (try dsimp only at hSw); first | (go_simp; done) | (go_simp; with_reducible rfl)
              try simp only [Act.put, List.setIfInBounds_toArray, List.set_cons_zero, List.set_cons_succ]
              refine wpAnyH_take (i := 25) (oi := { dst := some 110, op := Op.pick (Operand.tmp 102) (Operand.const (Value.bool true)) (Operand.tmp 109), type := 4, pos := "ref.go:29", after := #[{ on := 17, ground := Ground.data }, { on := 24, ground := Ground.data }], guard := none }) (v := ?_) rfl (by kernel_rfl) (by kernel_rfl) (by kernel_rfl) (fun _ _ _ h => h) (Or.inl ⟨by rfl, ?_⟩) (by assumption) ?_
              rotate_left
              · intro w hSw; (try dsimp only at hSw); first | (go_simp; done) | (go_simp; with_reducible rfl)
              try simp only [Act.put, List.setIfInBounds_toArray, List.set_cons_zero, List.set_cons_succ]
              refine wpAnyH_done (by kernel_rfl) ?_ _
              refine NoPanic.normal ?_
              have HBB := Lib.hid (HN.out _ hE2.now).2.2.2
              clear hE2
              go_wp2
              go_ret
              refine ⟨ret_b ?_, HBB.out⟩
              rw [HB.out, decP_congr HN0.out, decP_no HNO.out]
          · have Hh9 := Lib.hid h9
            have h9n0 : decide ((0 : Int) < (f.ni : Int)) = true := by simp; omega
            have h9n1 : decide (0 < f.ni) = true := by simp; omega
            clear h9
            go_enter Tryd.func13, Tryd.ntmps13
            go_wp2
            go_ret
            refine ⟨ret_b ?_, below_box w _⟩
            rw [HB.out, decP_congr HN0.out, decP_no]
            intro x
            have hx := Hh9.out
            first | exact hx x.1 | exact hx x.2.1 | exact hx x.2.2.1 | exact hx x.2.2.2.1 | exact hx x.2.2.2.2.1 | exact hx x.2.2.2.2.2.1 | exact hx x.2.2.2.2.2.2.1 | exact hx x.2.2.2.2.2.2.2.1 | exact hx x.2.2.2.2.2.2.2.2 | omega
        · have Hh4 := Lib.hid h4
          have h4n0 : decide ((0 : Int) < (f.ba : Int)) = true := by simp; omega
          have h4n1 : decide (0 < f.ba) = true := by simp; omega
          clear h4
          go_enter Tryd.func13, Tryd.ntmps13
          go_wp2
          go_ret
          refine ⟨ret_b ?_, below_box w _⟩
          rw [HB.out, decP_congr HN0.out, decP_no]
          intro x
          have hx := Hh4.out
          first | exact hx x.1 | exact hx x.2.1 | exact hx x.2.2.1 | exact hx x.2.2.2.1 | exact hx x.2.2.2.2.1 | exact hx x.2.2.2.2.2.1 | exact hx x.2.2.2.2.2.2.1 | exact hx x.2.2.2.2.2.2.2.1 | exact hx x.2.2.2.2.2.2.2.2 | omega
      · have Hh3 := Lib.hid h3
        have h3n0 : ((f.ep : Int) == 0) = true := by simp; omega
        clear h3
        go_enter Tryd.func13, Tryd.ntmps13
        go_wp2
        go_ret
        refine ⟨ret_b ?_, below_box w _⟩
        rw [HB.out, decP_congr HN0.out, decP_no]
        intro x
        have hx := Hh3.out
        first | exact hx x.1 | exact hx x.2.1 | exact hx x.2.2.1 | exact hx x.2.2.2.1 | exact hx x.2.2.2.2.1 | exact hx x.2.2.2.2.2.1 | exact hx x.2.2.2.2.2.2.1 | exact hx x.2.2.2.2.2.2.2.1 | exact hx x.2.2.2.2.2.2.2.2 | omega
    · have Hh2 := Lib.hid h2
      have h2n0 : (15 : Int) < f.ag := by omega
      clear h2
      go_enter Tryd.func13, Tryd.ntmps13
      go_wp2
      go_ret
      refine ⟨ret_b ?_, below_box w _⟩
      rw [HB.out, decP_congr HN0.out, decP_no]
      intro x
      have hx := Hh2.out
      first | exact hx x.1 | exact hx x.2.1 | exact hx x.2.2.1 | exact hx x.2.2.2.1 | exact hx x.2.2.2.2.1 | exact hx x.2.2.2.2.2.1 | exact hx x.2.2.2.2.2.2.1 | exact hx x.2.2.2.2.2.2.2.1 | exact hx x.2.2.2.2.2.2.2.2 | omega
  · have Hh1 := Lib.hid h1
    have h1n0 : f.ag < 0 := by omega
    clear h1
    go_enter Tryd.func13, Tryd.ntmps13
    go_wp2
    go_ret
    refine ⟨ret_b ?_, below_box w _⟩
    rw [HB.out, decP_congr HN0.out, decP_no]
    intro x
    have hx := Hh1.out
    first | exact hx x.1 | exact hx x.2.1 | exact hx x.2.2.1 | exact hx x.2.2.2.1 | exact hx x.2.2.2.2.1 | exact hx x.2.2.2.2.2.1 | exact hx x.2.2.2.2.2.2.1 | exact hx x.2.2.2.2.2.2.2.1 | exact hx x.2.2.2.2.2.2.2.2 | omega

end Go.Proofs.YtlkcnpmgafckoaaDoor
