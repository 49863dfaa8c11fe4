/-
  CONTRACT of the reference's Same (layer 5).
  No statement is proved here.
-/
import Derived.Test.YtlkcnpmgafckoaaDoorFrameSame
namespace Go.Proofs.YtlkcnpmgafckoaaDoor
open Go.RowKit

set_option maxRecDepth 100000 in
set_option maxHeartbeats 4000000 in
theorem refSameF_any (w : World) (f g : Fv) (h : FrAt w f) (h' : FrAt w g) :
    Calls Tryd.prog 23 #[f.r, g.r] w (Says w (.bool (decP (f.m = g.m)))) := by
  obtain ⟨bo, HB⟩ : ∃ bo, Hid (bo = decP (f.m = g.m)) := ⟨_, rfl⟩
  rw [← HB.out]
  have HF := Lib.hid h
  have HG := Lib.hid h'
  have HLI := Lib.hid h.it.len
  have HLG := Lib.hid h'.it.len
  clear h h'
  unfold Fv.r
  by_cases h1 : f.kd = g.kd
  · have h1I : ((f.kd : Int) != (g.kd : Int)) = false := by simp [h1]
    have Hh1 := Lib.hid h1; clear h1
    by_cases h2 : f.ag = g.ag
    · have h2I : (f.ag != g.ag) = false := by simp [h2]
      have Hh2 := Lib.hid h2; clear h2
      by_cases h3 : f.ep = g.ep
      · have h3I : ((f.ep : Int) != (g.ep : Int)) = false := by simp [h3]
        have Hh3 := Lib.hid h3; clear h3
        by_cases h4 : f.ic = g.ic
        · have h4I : ((f.ic : Int) != (g.ic : Int)) = false := by simp [h4]
          have Hh4 := Lib.hid h4; clear h4
          by_cases h5 : f.ba = g.ba
          · have h5I : ((f.ba : Int) != (g.ba : Int)) = false := by simp [h5]
            have Hh5 := Lib.hid h5; clear h5
            by_cases h6 : f.cu = g.cu
            · have h6I : ((f.cu : Int) != (g.cu : Int)) = false := by simp [h6]
              have Hh6 := Lib.hid h6; clear h6
              by_cases h7 : f.li = g.li
              · have h7I : ((f.li : Int) != (g.li : Int)) = false := by simp [h7]
                have Hh7 := Lib.hid h7; clear h7
                go_enter Tryd.func23, Tryd.ntmps23
                go_wp2_with fail
                have hbx : Below w.heap.size w ((w.alloc (Obj.cells #[.int .i64 (f.kd : Int), .int .i64 f.ag, .int .u64 (f.ep : Int), .int .u64 (f.ic : Int), .int .u64 (f.ba : Int), .int .u64 (f.cu : Int), .int .u64 (f.li : Int), .slice f.Ar f.nr f.cr, .slice f.Ai f.ni f.ci] 33)).alloc (Obj.cells #[.int .i64 (g.kd : Int), .int .i64 g.ag, .int .u64 (g.ep : Int), .int .u64 (g.ic : Int), .int .u64 (g.ba : Int), .int .u64 (g.cu : Int), .int .u64 (g.li : Int), .slice g.Ar g.nr g.cr, .slice g.Ai g.ni g.ci] 33)) := (below_box w (Obj.cells #[.int .i64 (f.kd : Int), .int .i64 f.ag, .int .u64 (f.ep : Int), .int .u64 (f.ic : Int), .int .u64 (f.ba : Int), .int .u64 (f.cu : Int), .int .u64 (f.li : Int), .slice f.Ar f.nr f.cr, .slice f.Ai f.ni f.ci] 33)).alloc (by simp) _
                have hk0 : ((w.alloc (Obj.cells #[.int .i64 (f.kd : Int), .int .i64 f.ag, .int .u64 (f.ep : Int), .int .u64 (f.ic : Int), .int .u64 (f.ba : Int), .int .u64 (f.cu : Int), .int .u64 (f.li : Int), .slice f.Ar f.nr f.cr, .slice f.Ai f.ni f.ci] 33)).alloc (Obj.cells #[.int .i64 (g.kd : Int), .int .i64 g.ag, .int .u64 (g.ep : Int), .int .u64 (g.ic : Int), .int .u64 (g.ba : Int), .int .u64 (g.cu : Int), .int .u64 (g.li : Int), .slice g.Ar g.nr g.cr, .slice g.Ai g.ni g.ci] 33)).heap[w.heap.size]? = some (Obj.cells #[.int .i64 (f.kd : Int), .int .i64 f.ag, .int .u64 (f.ep : Int), .int .u64 (f.ic : Int), .int .u64 (f.ba : Int), .int .u64 (f.cu : Int), .int .u64 (f.li : Int), .slice f.Ar f.nr f.cr, .slice f.Ai f.ni f.ci] 33) := (Below.heap_alloc (w.alloc (Obj.cells #[.int .i64 (f.kd : Int), .int .i64 f.ag, .int .u64 (f.ep : Int), .int .u64 (f.ic : Int), .int .u64 (f.ba : Int), .int .u64 (f.cu : Int), .int .u64 (f.li : Int), .slice f.Ar f.nr f.cr, .slice f.Ai f.ni f.ci] 33)) (Obj.cells #[.int .i64 (g.kd : Int), .int .i64 g.ag, .int .u64 (g.ep : Int), .int .u64 (g.ic : Int), .int .u64 (g.ba : Int), .int .u64 (g.cu : Int), .int .u64 (g.li : Int), .slice g.Ar g.nr g.cr, .slice g.Ai g.ni g.ci] 33) _ (by simp)).trans (heap_alloc_new w (Obj.cells #[.int .i64 (f.kd : Int), .int .i64 f.ag, .int .u64 (f.ep : Int), .int .u64 (f.ic : Int), .int .u64 (f.ba : Int), .int .u64 (f.cu : Int), .int .u64 (f.li : Int), .slice f.Ar f.nr f.cr, .slice f.Ai f.ni f.ci] 33))
                have hk1 : ((w.alloc (Obj.cells #[.int .i64 (f.kd : Int), .int .i64 f.ag, .int .u64 (f.ep : Int), .int .u64 (f.ic : Int), .int .u64 (f.ba : Int), .int .u64 (f.cu : Int), .int .u64 (f.li : Int), .slice f.Ar f.nr f.cr, .slice f.Ai f.ni f.ci] 33)).alloc (Obj.cells #[.int .i64 (g.kd : Int), .int .i64 g.ag, .int .u64 (g.ep : Int), .int .u64 (g.ic : Int), .int .u64 (g.ba : Int), .int .u64 (g.cu : Int), .int .u64 (g.li : Int), .slice g.Ar g.nr g.cr, .slice g.Ai g.ni g.ci] 33)).heap[w.heap.size + 1]? = some (Obj.cells #[.int .i64 (g.kd : Int), .int .i64 g.ag, .int .u64 (g.ep : Int), .int .u64 (g.ic : Int), .int .u64 (g.ba : Int), .int .u64 (g.cu : Int), .int .u64 (g.li : Int), .slice g.Ar g.nr g.cr, .slice g.Ai g.ni g.ci] 33) := by have := heap_alloc_new (w.alloc (Obj.cells #[.int .i64 (f.kd : Int), .int .i64 f.ag, .int .u64 (f.ep : Int), .int .u64 (f.ic : Int), .int .u64 (f.ba : Int), .int .u64 (f.cu : Int), .int .u64 (f.li : Int), .slice f.Ar f.nr f.cr, .slice f.Ai f.ni f.ci] 33)) (Obj.cells #[.int .i64 (g.kd : Int), .int .i64 g.ag, .int .u64 (g.ep : Int), .int .u64 (g.ic : Int), .int .u64 (g.ba : Int), .int .u64 (g.cu : Int), .int .u64 (g.li : Int), .slice g.Ar g.nr g.cr, .slice g.Ai g.ni g.ci] 33); simpa using this
                have hz : w.heap.size + 1 < ((w.alloc (Obj.cells #[.int .i64 (f.kd : Int), .int .i64 f.ag, .int .u64 (f.ep : Int), .int .u64 (f.ic : Int), .int .u64 (f.ba : Int), .int .u64 (f.cu : Int), .int .u64 (f.li : Int), .slice f.Ar f.nr f.cr, .slice f.Ai f.ni f.ci] 33)).alloc (Obj.cells #[.int .i64 (g.kd : Int), .int .i64 g.ag, .int .u64 (g.ep : Int), .int .u64 (g.ic : Int), .int .u64 (g.ba : Int), .int .u64 (g.cu : Int), .int .u64 (g.li : Int), .slice g.Ar g.nr g.cr, .slice g.Ai g.ni g.ci] 33)).heap.size := by simp
                generalize (w.alloc (Obj.cells #[.int .i64 (f.kd : Int), .int .i64 f.ag, .int .u64 (f.ep : Int), .int .u64 (f.ic : Int), .int .u64 (f.ba : Int), .int .u64 (f.cu : Int), .int .u64 (f.li : Int), .slice f.Ar f.nr f.cr, .slice f.Ai f.ni f.ci] 33)).alloc (Obj.cells #[.int .i64 (g.kd : Int), .int .i64 g.ag, .int .u64 (g.ep : Int), .int .u64 (g.ic : Int), .int .u64 (g.ba : Int), .int .u64 (g.cu : Int), .int .u64 (g.li : Int), .slice g.Ar g.nr g.cr, .slice g.Ai g.ni g.ci] 33) = wb at *
                refine (refSameR_any wb wb.heap.size f.Ar g.Ar f.nr f.cr g.nr g.cr f.L g.L (HF.out.on hbx).rs (HG.out.on hbx).rs).mono ?_
                rintro e w2 ⟨rfl, q, rfl⟩
                have HBX := Lib.hid (below_drewN hbx q)
                have j8 : (wb.drewN q).cell? ⟨w.heap.size, 8, none⟩ = some (.slice f.Ai f.ni f.ci) := by show wb.cell? _ = _; rw [cell_of_row wb _ 8 _ _ _ hk0]; rfl
                have j9 : (wb.drewN q).cell? ⟨w.heap.size + 1, 8, none⟩ = some (.slice g.Ai g.ni g.ci) := by show wb.cell? _ = _; rw [cell_of_row wb _ 8 _ _ _ hk1]; rfl
                have HI := Lib.hid ((HF.out.on hbx).drewN q).it
                have HI' := Lib.hid ((HG.out.on hbx).drewN q).it
                have hz' : w.heap.size + 1 < (wb.drewN q).heap.size := hz
                clear hk0 hk1 hbx hz
                generalize wb.drewN q = wd at *
                obtain ⟨x2, hx2⟩ : ∃ x2, x2 = w.heap.size := ⟨_, rfl⟩
                obtain ⟨x3, hx3⟩ : ∃ x3, x3 = w.heap.size + 1 := ⟨_, rfl⟩
                have hzd2 : x2 < wd.heap.size := by omega
                have hzd3 : x3 < wd.heap.size := by omega
                rw [← hx3] at j9 ⊢
                rw [← hx2] at j8 ⊢
                clear hx2 hx3 hz'
                by_cases hL : f.L = g.L
                · rw [show sameR f.L g.L = true from (sameR_iff _ _).2 hL]
                  have HL := Lib.hid hL; clear hL
                  by_cases hn : f.ni = g.ni
                  · have hnI : ((f.ni : Int) != (g.ni : Int)) = false := by simp [hn]
                    have HNN := Lib.hid hn; clear hn
                    go_wp2
                    go_loopg [73] f.ni (fun gk i wr => EqRel wd (f.ks.map Ik.it) (g.ks.map Ik.it) gk i wr)
                    case atStart => exact ⟨0, by rw [List.length_map]; have := HLI.out; omega, rfl, rfl, Below.refl _ _⟩
                    case round =>
                      obtain ⟨j, hj, rfl, htk, hbr⟩ := hrel
                      rw [List.length_map] at hj
                      have HJ := Lib.hid hj
                      have HTK := Lib.hid htk
                      have HBR := Lib.hid hbr
                      clear hj htk
                      by_cases hlt : j < f.ni
                      · obtain ⟨b, o, k, ea, hbb, hk, c0, c1, c2, hs, _⟩ := HI.out.at_ hlt
                        obtain ⟨b', o', k', ea', hbb', hk', c0', c1', c2', hs', _⟩ := HI'.out.at_ (j := j) (by have := HNN.out; omega)
                        have d0 := (hbr.cell (p := ⟨b, o + j * 3, none⟩) hbb).trans c0
                        have d1 := (hbr.cell (p := ⟨b, o + j * 3 + 1, none⟩) hbb).trans c1
                        have d2 := (hbr.cell (p := ⟨b, o + j * 3 + 2, none⟩) hbb).trans c2
                        have d0' := (hbr.cell (p := ⟨b', o' + j * 3, none⟩) hbb').trans c0'
                        have d1' := (hbr.cell (p := ⟨b', o' + j * 3 + 1, none⟩) hbb').trans c1'
                        have d2' := (hbr.cell (p := ⟨b', o' + j * 3 + 2, none⟩) hbb').trans c2'
                        have e2 := (hbr.cell (p := ⟨x2, 8, none⟩) hzd2).trans j8
                        have e3 := (hbr.cell (p := ⟨x3, 8, none⟩) hzd3).trans j9
                        have hz1 : b < wr.heap.size := Nat.lt_of_lt_of_le hbb hbr.size
                        have hz2 : b' < wr.heap.size := Nat.lt_of_lt_of_le hbb' hbr.size
                        have hzx2 : x2 < wr.heap.size := Nat.lt_of_lt_of_le hzd2 hbr.size
                        have hzx3 : x3 < wr.heap.size := Nat.lt_of_lt_of_le hzd3 hbr.size
                        have HS := Lib.hid ((hs.below hbr (Nat.le_refl _)).more hbr.size)
                        have HS' := Lib.hid ((hs'.below hbr (Nat.le_refl _)).more hbr.size)
                        have HX : Hid (f.m.its = f.ks.map Ik.it) := rfl
                        have HY : Hid (g.m.its = g.ks.map Ik.it) := rfl
                        have HK : Hid ((f.ks.map Ik.it)[j]? = some k.it) := by show _ = _; rw [List.getElem?_map, hk]; rfl
                        have HK' : Hid ((g.ks.map Ik.it)[j]? = some k'.it) := by show _ = _; rw [List.getElem?_map, hk']; rfl
                        have hjn : (j : Int) < (g.ni : Int) := by have := HNN.out; omega
                        have hgm := HI'.out.le
                        have hgx := HI'.out.max
                        have hfm := HI.out.le
                        have hfx := HI.out.max
                        unfold maxLen at hgx hfx
                        clear c0 c1 c2 c0' c1' c2' hs hs' hk hk' hbr hbb hbb'
                        rw [ea] at e2 ⊢
                        rw [ea'] at e3 ⊢
                        by_cases hN : k.N = k'.N
                        · have hNI : ((k.N : Int) != (k'.N : Int)) = false := by simp [hN]
                          have HNQ := Lib.hid hN; clear hN
                          by_cases hsp : k.C = k'.C ∧ k.q.l = k'.q.l
                          · have HVAL : Hid (sameS k.C k.q.l k'.C k'.q.l = true) := (sameS_iff _ _ _ _).2 hsp
                            have HQ : Hid (k.it = k'.it) := it_eq.2 ⟨HNQ.out, hsp.1, hsp.2⟩
                            clear hsp
                            have hE : Ever (fun w' => (w'.cell? ⟨x2, 8, none⟩ = some (.slice (some ⟨b, o, none⟩) f.ni f.ci) ∧ w'.cell? ⟨x3, 8, none⟩ = some (.slice (some ⟨b', o', none⟩) g.ni g.ci) ∧ w'.cell? ⟨b, o + j * 3, none⟩ = some (.int .u64 (k.N : Int)) ∧ w'.cell? ⟨b, o + j * 3 + 1, none⟩ = some (.int .i64 k.C) ∧ w'.cell? ⟨b, o + j * 3 + 2, none⟩ = some (.slice k.q.A k.q.n k.q.c) ∧ w'.cell? ⟨b', o' + j * 3, none⟩ = some (.int .u64 (k'.N : Int)) ∧ w'.cell? ⟨b', o' + j * 3 + 1, none⟩ = some (.int .i64 k'.C) ∧ w'.cell? ⟨b', o' + j * 3 + 2, none⟩ = some (.slice k'.q.A k'.q.n k'.q.c)) ∧ Sl w' w'.heap.size k.q.A k.q.n k.q.c k.q.l ∧ Sl w' w'.heap.size k'.q.A k'.q.n k'.q.c k'.q.l ∧ Below wr.heap.size wr w') wr := by
                              intro w' hw
                              exact ⟨⟨(hw.cell (p := ⟨x2, 8, none⟩) hzx2).trans e2, (hw.cell (p := ⟨x3, 8, none⟩) hzx3).trans e3, (hw.cell (p := ⟨b, o + j * 3, none⟩) hz1).trans d0, (hw.cell (p := ⟨b, o + j * 3 + 1, none⟩) hz1).trans d1, (hw.cell (p := ⟨b, o + j * 3 + 2, none⟩) hz1).trans d2, (hw.cell (p := ⟨b', o' + j * 3, none⟩) hz2).trans d0', (hw.cell (p := ⟨b', o' + j * 3 + 1, none⟩) hz2).trans d1', (hw.cell (p := ⟨b', o' + j * 3 + 2, none⟩) hz2).trans d2'⟩, HS.out.on hw (Nat.le_refl _), HS'.out.on hw (Nat.le_refl _), hw⟩
                            obtain ⟨Ps, HP⟩ : ∃ Ps : World → Prop, Hid (Ps = fun w' => (w'.cell? ⟨x2, 8, none⟩ = some (.slice (some ⟨b, o, none⟩) f.ni f.ci) ∧ w'.cell? ⟨x3, 8, none⟩ = some (.slice (some ⟨b', o', none⟩) g.ni g.ci) ∧ w'.cell? ⟨b, o + j * 3, none⟩ = some (.int .u64 (k.N : Int)) ∧ w'.cell? ⟨b, o + j * 3 + 1, none⟩ = some (.int .i64 k.C) ∧ w'.cell? ⟨b, o + j * 3 + 2, none⟩ = some (.slice k.q.A k.q.n k.q.c) ∧ w'.cell? ⟨b', o' + j * 3, none⟩ = some (.int .u64 (k'.N : Int)) ∧ w'.cell? ⟨b', o' + j * 3 + 1, none⟩ = some (.int .i64 k'.C) ∧ w'.cell? ⟨b', o' + j * 3 + 2, none⟩ = some (.slice k'.q.A k'.q.n k'.q.c)) ∧ Sl w' w'.heap.size k.q.A k.q.n k.q.c k.q.l ∧ Sl w' w'.heap.size k'.q.A k'.q.n k'.q.c k'.q.l ∧ Below wr.heap.size wr w') := ⟨_, rfl⟩
                            have HN : Hid (∀ w', Ps w' → (w'.cell? ⟨x2, 8, none⟩ = some (.slice (some ⟨b, o, none⟩) f.ni f.ci) ∧ w'.cell? ⟨x3, 8, none⟩ = some (.slice (some ⟨b', o', none⟩) g.ni g.ci) ∧ w'.cell? ⟨b, o + j * 3, none⟩ = some (.int .u64 (k.N : Int)) ∧ w'.cell? ⟨b, o + j * 3 + 1, none⟩ = some (.int .i64 k.C) ∧ w'.cell? ⟨b, o + j * 3 + 2, none⟩ = some (.slice k.q.A k.q.n k.q.c) ∧ w'.cell? ⟨b', o' + j * 3, none⟩ = some (.int .u64 (k'.N : Int)) ∧ w'.cell? ⟨b', o' + j * 3 + 1, none⟩ = some (.int .i64 k'.C) ∧ w'.cell? ⟨b', o' + j * 3 + 2, none⟩ = some (.slice k'.q.A k'.q.n k'.q.c)) ∧ Sl w' w'.heap.size k.q.A k.q.n k.q.c k.q.l ∧ Sl w' w'.heap.size k'.q.A k'.q.n k'.q.c k'.q.l ∧ Below wr.heap.size wr w') := by rw [HP.out]; exact fun _ h => h
                            replace hE : Ever Ps wr := by rw [HP.out]; exact hE
                            clear HP
                            go_wp2_with fail
                            have hE2 := hE.drewN 1
                            clear hE d0 d1 d2 d0' d1' d2' e2 e3
                            refine wp_region_noPanic ?_
                            refine wp_region_held_drew (S := (fun w' => (w'.cell? ⟨x2, 8, none⟩ = some (.slice (some ⟨b, o, none⟩) f.ni f.ci) ∧ w'.cell? ⟨x3, 8, none⟩ = some (.slice (some ⟨b', o', none⟩) g.ni g.ci) ∧ w'.cell? ⟨b, o + j * 3, none⟩ = some (.int .u64 (k.N : Int)) ∧ w'.cell? ⟨b, o + j * 3 + 1, none⟩ = some (.int .i64 k.C) ∧ w'.cell? ⟨b, o + j * 3 + 2, none⟩ = some (.slice k.q.A k.q.n k.q.c) ∧ w'.cell? ⟨b', o' + j * 3, none⟩ = some (.int .u64 (k'.N : Int)) ∧ w'.cell? ⟨b', o' + j * 3 + 1, none⟩ = some (.int .i64 k'.C) ∧ w'.cell? ⟨b', o' + j * 3 + 2, none⟩ = some (.slice k'.q.A k'.q.n k'.q.c)) ∧ Ever Ps w')) (by kernel_rfl) ⟨(HN.out _ hE2.now).1, hE2⟩ (fun hHeld => ?_)
                            refine wpAnyH_take (i := 0) (oi := { dst := some 76, op := Op.fieldAddr 33 (Operand.tmp 2) 8, type := 0, pos := "ref.go:140", after := #[], guard := none }) (v := ?_) rfl (by kernel_rfl) (by kernel_rfl) (by kernel_rfl) (fun _ _ _ h => h) (Or.inl ⟨by rfl, ?_⟩) (by assumption) ?_
                            rotate_left
                            · intro w hSw; (try dsimp only at hSw); first | (go_simp; done) | (go_simp; with_reducible rfl)
                            try simp only [Act.put, List.setIfInBounds_toArray, List.set_cons_zero, List.set_cons_succ]
                            refine wpAnyH_take (i := 1) (oi := { dst := some 77, op := Op.load 31 (Operand.tmp 76), type := 31, pos := "ref.go:140", after := #[{ on := 0, ground := Ground.data }], guard := none }) (v := ?_) rfl (by kernel_rfl) (by kernel_rfl) (by kernel_rfl) (fun _ _ _ h => h) (Or.inl ⟨by rfl, ?_⟩) (by assumption) ?_
                            rotate_left
                            · intro w hSw; (try dsimp only at hSw); first | (go_simp; done) | (go_simp; with_reducible rfl)
                            try simp only [Act.put, List.setIfInBounds_toArray, List.set_cons_zero, List.set_cons_succ]
                            refine wpAnyH_take (i := 2) (oi := { dst := some 78, op := Op.move (Operand.tmp 5), type := 3, pos := "ref.go:140", after := #[], guard := none }) (v := ?_) rfl (by kernel_rfl) (by kernel_rfl) (by kernel_rfl) (fun _ _ _ h => h) (Or.inl ⟨by rfl, ?_⟩) (by assumption) ?_
                            rotate_left
                            · intro w hSw; (try dsimp only at hSw); first | (go_simp; done) | (go_simp; with_reducible rfl)
                            try simp only [Act.put, List.setIfInBounds_toArray, List.set_cons_zero, List.set_cons_succ]
                            refine wpAnyH_take (i := 3) (oi := { dst := some 79, op := Op.indexAddr 31 (Operand.tmp 77) (Operand.tmp 78), type := 0, pos := "ref.go:140", after := #[{ on := 1, ground := Ground.data }, { on := 2, ground := Ground.data }], guard := none }) (v := ?_) rfl (by kernel_rfl) (by kernel_rfl) (by kernel_rfl) (fun _ _ _ h => h) (Or.inl ⟨by rfl, ?_⟩) (by assumption) ?_
                            rotate_left
                            · intro w hSw; (try dsimp only at hSw); first | (go_simp; done) | (go_simp; with_reducible rfl)
                            try simp only [Act.put, List.setIfInBounds_toArray, List.set_cons_zero, List.set_cons_succ]
                            refine wpAnyH_take (i := 4) (oi := { dst := some 80, op := Op.fieldAddr 73 (Operand.tmp 79) 0, type := 0, pos := "ref.go:140", after := #[{ on := 3, ground := Ground.data }], guard := none }) (v := ?_) rfl (by kernel_rfl) (by kernel_rfl) (by kernel_rfl) (fun _ _ _ h => h) (Or.inl ⟨by rfl, ?_⟩) (by assumption) ?_
                            rotate_left
                            · intro w hSw; (try dsimp only at hSw); first | (go_simp; done) | (go_simp; with_reducible rfl)
                            try simp only [Act.put, List.setIfInBounds_toArray, List.set_cons_zero, List.set_cons_succ]
                            refine wpAnyH_take (i := 5) (oi := { dst := some 81, op := Op.load 22 (Operand.tmp 80), type := 22, pos := "ref.go:140", after := #[{ on := 4, ground := Ground.data }], guard := none }) (v := ?_) rfl (by kernel_rfl) (by kernel_rfl) (by kernel_rfl) (fun _ _ _ h => h) (Or.inl ⟨by rfl, ?_⟩) (by assumption) ?_
                            rotate_left
                            · intro w hSw; (try dsimp only at hSw); first | (go_simp; done) | (go_simp; with_reducible rfl)
                            try simp only [Act.put, List.setIfInBounds_toArray, List.set_cons_zero, List.set_cons_succ]
                            refine wpAnyH_take (i := 6) (oi := { dst := some 82, op := Op.fieldAddr 33 (Operand.tmp 3) 8, type := 0, pos := "ref.go:140", after := #[], guard := none }) (v := ?_) rfl (by kernel_rfl) (by kernel_rfl) (by kernel_rfl) (fun _ _ _ h => h) (Or.inl ⟨by rfl, ?_⟩) (by assumption) ?_
                            rotate_left
                            · intro w hSw; (try dsimp only at hSw); first | (go_simp; done) | (go_simp; with_reducible rfl)
                            try simp only [Act.put, List.setIfInBounds_toArray, List.set_cons_zero, List.set_cons_succ]
                            refine wpAnyH_take (i := 7) (oi := { dst := some 83, op := Op.load 31 (Operand.tmp 82), type := 31, pos := "ref.go:140", after := #[{ on := 6, ground := Ground.data }], guard := none }) (v := ?_) rfl (by kernel_rfl) (by kernel_rfl) (by kernel_rfl) (fun _ _ _ h => h) (Or.inl ⟨by rfl, ?_⟩) (by assumption) ?_
                            rotate_left
                            · intro w hSw; (try dsimp only at hSw); first | (go_simp; done) | (go_simp; with_reducible rfl)
                            try simp only [Act.put, List.setIfInBounds_toArray, List.set_cons_zero, List.set_cons_succ]
                            refine wpAnyH_take (i := 8) (oi := { dst := some 84, op := Op.move (Operand.tmp 5), type := 3, pos := "ref.go:140", after := #[], guard := none }) (v := ?_) rfl (by kernel_rfl) (by kernel_rfl) (by kernel_rfl) (fun _ _ _ h => h) (Or.inl ⟨by rfl, ?_⟩) (by assumption) ?_
                            rotate_left
                            · intro w hSw; (try dsimp only at hSw); first | (go_simp; done) | (go_simp; with_reducible rfl)
                            try simp only [Act.put, List.setIfInBounds_toArray, List.set_cons_zero, List.set_cons_succ]
                            refine wpAnyH_take (i := 9) (oi := { dst := some 85, op := Op.indexAddr 31 (Operand.tmp 83) (Operand.tmp 84), type := 0, pos := "ref.go:140", after := #[{ on := 7, ground := Ground.data }, { on := 8, ground := Ground.data }], guard := none }) (v := ?_) rfl (by kernel_rfl) (by kernel_rfl) (by kernel_rfl) (fun _ _ _ h => h) (Or.inl ⟨by rfl, ?_⟩) (by assumption) ?_
                            rotate_left
                            · intro w hSw; (try dsimp only at hSw); first | (go_simp; done) | (go_simp; with_reducible rfl)
                            try simp only [Act.put, List.setIfInBounds_toArray, List.set_cons_zero, List.set_cons_succ]
                            refine wpAnyH_take (i := 10) (oi := { dst := some 86, op := Op.fieldAddr 73 (Operand.tmp 85) 0, type := 0, pos := "ref.go:140", after := #[{ on := 9, ground := Ground.data }], guard := none }) (v := ?_) rfl (by kernel_rfl) (by kernel_rfl) (by kernel_rfl) (fun _ _ _ h => h) (Or.inl ⟨by rfl, ?_⟩) (by assumption) ?_
                            rotate_left
                            · intro w hSw; (try dsimp only at hSw); first | (go_simp; done) | (go_simp; with_reducible rfl)
                            try simp only [Act.put, List.setIfInBounds_toArray, List.set_cons_zero, List.set_cons_succ]
                            refine wpAnyH_take (i := 11) (oi := { dst := some 87, op := Op.load 22 (Operand.tmp 86), type := 22, pos := "ref.go:140", after := #[{ on := 10, ground := Ground.data }], guard := none }) (v := ?_) rfl (by kernel_rfl) (by kernel_rfl) (by kernel_rfl) (fun _ _ _ h => h) (Or.inl ⟨by rfl, ?_⟩) (by assumption) ?_
                            rotate_left
                            · intro w hSw; (try dsimp only at hSw); first | (go_simp; done) | (go_simp; with_reducible rfl)
                            try simp only [Act.put, List.setIfInBounds_toArray, List.set_cons_zero, List.set_cons_succ]
                            refine wpAnyH_take (i := 12) (oi := { dst := some 88, op := Op.binOp BinOp.neq 22 (Operand.tmp 81) (Operand.tmp 87) 22, type := 4, pos := "ref.go:140", after := #[{ on := 5, ground := Ground.data }, { on := 11, ground := Ground.data }], guard := none }) (v := ?_) rfl (by kernel_rfl) (by kernel_rfl) (by kernel_rfl) (fun _ _ _ h => h) (Or.inl ⟨by rfl, ?_⟩) (by assumption) ?_
                            rotate_left
                            · intro w hSw; (try dsimp only at hSw); first | (go_simp; done) | (go_simp; with_reducible rfl)
                            try simp only [Act.put, List.setIfInBounds_toArray, List.set_cons_zero, List.set_cons_succ]
                            refine wpAnyH_take (i := 13) (oi := { dst := some 89, op := Op.move (Operand.tmp 88), type := 4, pos := "ref.go:140", after := #[{ on := 12, ground := Ground.data }], guard := none }) (v := ?_) rfl (by kernel_rfl) (by kernel_rfl) (by kernel_rfl) (fun _ _ _ h => h) (Or.inl ⟨by rfl, ?_⟩) (by assumption) ?_
                            rotate_left
                            · intro w hSw; (try dsimp only at hSw); first | (go_simp; done) | (go_simp; with_reducible rfl)
                            try simp only [Act.put, List.setIfInBounds_toArray, List.set_cons_zero, List.set_cons_succ]
                            refine wpAnyH_take (i := 14) (oi := { dst := some 90, op := Op.fieldAddr 33 (Operand.tmp 2) 8, type := 0, pos := "ref.go:140", after := #[{ on := 13, ground := Ground.guard }], guard := some (13, false) }) (v := ?_) rfl (by kernel_rfl) (by kernel_rfl) (by kernel_rfl) (fun _ _ _ h => h) (Or.inl ⟨by rfl, ?_⟩) (by assumption) ?_
                            rotate_left
                            · intro w hSw; (try dsimp only at hSw); first | (go_simp; done) | (go_simp; with_reducible rfl)
                            try simp only [Act.put, List.setIfInBounds_toArray, List.set_cons_zero, List.set_cons_succ]
                            refine wpAnyH_take (i := 15) (oi := { dst := some 91, op := Op.load 31 (Operand.tmp 90), type := 31, pos := "ref.go:140", after := #[{ on := 14, ground := Ground.data }, { on := 13, ground := Ground.guard }], guard := some (13, false) }) (v := ?_) rfl (by kernel_rfl) (by kernel_rfl) (by kernel_rfl) (fun _ _ _ h => h) (Or.inl ⟨by rfl, ?_⟩) (by assumption) ?_
                            rotate_left
                            · intro w hSw; (try dsimp only at hSw); first | (go_simp; done) | (go_simp; with_reducible rfl)
                            try simp only [Act.put, List.setIfInBounds_toArray, List.set_cons_zero, List.set_cons_succ]
                            refine wpAnyH_take (i := 16) (oi := { dst := some 92, op := Op.move (Operand.tmp 5), type := 3, pos := "ref.go:140", after := #[{ on := 13, ground := Ground.guard }], guard := some (13, false) }) (v := ?_) rfl (by kernel_rfl) (by kernel_rfl) (by kernel_rfl) (fun _ _ _ h => h) (Or.inl ⟨by rfl, ?_⟩) (by assumption) ?_
                            rotate_left
                            · intro w hSw; (try dsimp only at hSw); first | (go_simp; done) | (go_simp; with_reducible rfl)
                            try simp only [Act.put, List.setIfInBounds_toArray, List.set_cons_zero, List.set_cons_succ]
                            refine wpAnyH_take (i := 17) (oi := { dst := some 93, op := Op.indexAddr 31 (Operand.tmp 91) (Operand.tmp 92), type := 0, pos := "ref.go:140", after := #[{ on := 15, ground := Ground.data }, { on := 16, ground := Ground.data }, { on := 13, ground := Ground.guard }], guard := some (13, false) }) (v := ?_) rfl (by kernel_rfl) (by kernel_rfl) (by kernel_rfl) (fun _ _ _ h => h) (Or.inl ⟨by rfl, ?_⟩) (by assumption) ?_
                            rotate_left
                            · intro w hSw; (try dsimp only at hSw); first | (go_simp; done) | (go_simp; with_reducible rfl)
                            try simp only [Act.put, List.setIfInBounds_toArray, List.set_cons_zero, List.set_cons_succ]
                            refine wpAnyH_take (i := 18) (oi := { dst := some 94, op := Op.fieldAddr 73 (Operand.tmp 93) 1, type := 0, pos := "ref.go:140", after := #[{ on := 17, ground := Ground.data }, { on := 13, ground := Ground.guard }], guard := some (13, false) }) (v := ?_) rfl (by kernel_rfl) (by kernel_rfl) (by kernel_rfl) (fun _ _ _ h => h) (Or.inl ⟨by rfl, ?_⟩) (by assumption) ?_
                            rotate_left
                            · intro w hSw; (try dsimp only at hSw); first | (go_simp; done) | (go_simp; with_reducible rfl)
                            try simp only [Act.put, List.setIfInBounds_toArray, List.set_cons_zero, List.set_cons_succ]
                            refine wpAnyH_take (i := 19) (oi := { dst := some 95, op := Op.load 71 (Operand.tmp 94), type := 71, pos := "ref.go:140", after := #[{ on := 18, ground := Ground.data }, { on := 13, ground := Ground.guard }], guard := some (13, false) }) (v := ?_) rfl (by kernel_rfl) (by kernel_rfl) (by kernel_rfl) (fun _ _ _ h => h) (Or.inl ⟨by rfl, ?_⟩) (by assumption) ?_
                            rotate_left
                            · intro w hSw; (try dsimp only at hSw); first | (go_simp; done) | (go_simp; with_reducible rfl)
                            try simp only [Act.put, List.setIfInBounds_toArray, List.set_cons_zero, List.set_cons_succ]
                            refine wpAnyH_take (i := 20) (oi := { dst := some 96, op := Op.fieldAddr 33 (Operand.tmp 3) 8, type := 0, pos := "ref.go:140", after := #[{ on := 13, ground := Ground.guard }], guard := some (13, false) }) (v := ?_) rfl (by kernel_rfl) (by kernel_rfl) (by kernel_rfl) (fun _ _ _ h => h) (Or.inl ⟨by rfl, ?_⟩) (by assumption) ?_
                            rotate_left
                            · intro w hSw; (try dsimp only at hSw); first | (go_simp; done) | (go_simp; with_reducible rfl)
                            try simp only [Act.put, List.setIfInBounds_toArray, List.set_cons_zero, List.set_cons_succ]
                            refine wpAnyH_take (i := 21) (oi := { dst := some 97, op := Op.load 31 (Operand.tmp 96), type := 31, pos := "ref.go:140", after := #[{ on := 20, ground := Ground.data }, { on := 13, ground := Ground.guard }], guard := some (13, false) }) (v := ?_) rfl (by kernel_rfl) (by kernel_rfl) (by kernel_rfl) (fun _ _ _ h => h) (Or.inl ⟨by rfl, ?_⟩) (by assumption) ?_
                            rotate_left
                            · intro w hSw; (try dsimp only at hSw); first | (go_simp; done) | (go_simp; with_reducible rfl)
                            try simp only [Act.put, List.setIfInBounds_toArray, List.set_cons_zero, List.set_cons_succ]
                            refine wpAnyH_take (i := 22) (oi := { dst := some 98, op := Op.move (Operand.tmp 5), type := 3, pos := "ref.go:140", after := #[{ on := 13, ground := Ground.guard }], guard := some (13, false) }) (v := ?_) rfl (by kernel_rfl) (by kernel_rfl) (by kernel_rfl) (fun _ _ _ h => h) (Or.inl ⟨by rfl, ?_⟩) (by assumption) ?_
                            rotate_left
                            · intro w hSw; (try dsimp only at hSw); first | (go_simp; done) | (go_simp; with_reducible rfl)
                            try simp only [Act.put, List.setIfInBounds_toArray, List.set_cons_zero, List.set_cons_succ]
                            refine wpAnyH_take (i := 23) (oi := { dst := some 99, op := Op.indexAddr 31 (Operand.tmp 97) (Operand.tmp 98), type := 0, pos := "ref.go:140", after := #[{ on := 21, ground := Ground.data }, { on := 22, ground := Ground.data }, { on := 13, ground := Ground.guard }], guard := some (13, false) }) (v := ?_) rfl (by kernel_rfl) (by kernel_rfl) (by kernel_rfl) (fun _ _ _ h => h) (Or.inl ⟨by rfl, ?_⟩) (by assumption) ?_
                            rotate_left
                            · intro w hSw; (try dsimp only at hSw); first | (go_simp; done) | (go_simp; with_reducible rfl)
                            try simp only [Act.put, List.setIfInBounds_toArray, List.set_cons_zero, List.set_cons_succ]
                            refine wpAnyH_take (i := 24) (oi := { dst := some 100, op := Op.fieldAddr 73 (Operand.tmp 99) 1, type := 0, pos := "ref.go:140", after := #[{ on := 23, ground := Ground.data }, { on := 13, ground := Ground.guard }], guard := some (13, false) }) (v := ?_) rfl (by kernel_rfl) (by kernel_rfl) (by kernel_rfl) (fun _ _ _ h => h) (Or.inl ⟨by rfl, ?_⟩) (by assumption) ?_
                            rotate_left
                            · intro w hSw; (try dsimp only at hSw); first | (go_simp; done) | (go_simp; with_reducible rfl)
                            try simp only [Act.put, List.setIfInBounds_toArray, List.set_cons_zero, List.set_cons_succ]
                            refine wpAnyH_take (i := 25) (oi := { dst := some 101, op := Op.load 71 (Operand.tmp 100), type := 71, pos := "ref.go:140", after := #[{ on := 24, ground := Ground.data }, { on := 13, ground := Ground.guard }], guard := some (13, false) }) (v := ?_) rfl (by kernel_rfl) (by kernel_rfl) (by kernel_rfl) (fun _ _ _ h => h) (Or.inl ⟨by rfl, ?_⟩) (by assumption) ?_
                            rotate_left
                            · intro w hSw; (try dsimp only at hSw); first | (go_simp; done) | (go_simp; with_reducible rfl)
                            try simp only [Act.put, List.setIfInBounds_toArray, List.set_cons_zero, List.set_cons_succ]
                            refine wpAnyH_ready (rs := [26]) (by kernel_rfl) (by simp) ?_
                            refine AllReadyH.cons (o := { dst := some 102, op := Op.call { callee := Callee.value (Operand.func 47), args := #[Operand.tmp 95, Operand.tmp 101], argTypes := #[71, 71] }, type := 4, pos := "ref.go:140", after := #[{ on := 19, ground := Ground.data }, { on := 25, ground := Ground.data }, { on := 13, ground := Ground.chain }, { on := 13, ground := Ground.guard }], guard := some (13, false) }) rfl (fun K hK => ?_) AllReadyH.nil
                            go_simp
                            go_at_call 47
                            have hcs := refSpanSame_any _ k.C k'.C k.q.A k'.q.A k.q.n k.q.c k'.q.n k'.q.c k.q.l k'.q.l (HN.out _ hE2.now).2.1 (HN.out _ hE2.now).2.2.1
                            rw [show sameS k.C k.q.l k'.C k'.q.l = true from HVAL.out] at hcs
                            unfold spv at hcs
                            refine hcs.mono ?_
                            rintro e ws ⟨rfl, hbs⟩
                            replace hE2 := hE2.next hbs
                            clear hbs hcs
                            go_wp2_with fail
                            clear hHeld
                            refine hK.out _ _ ⟨(HN.out _ hE2.now).1, hE2⟩ (fun hHeld => ?_)
                            clear hK K
                            try simp only [Act.put, List.setIfInBounds_toArray, List.set_cons_zero, List.set_cons_succ]
                            refine wpAnyH_take (i := 27) (oi := { dst := some 103, op := Op.unOp UnOp.not 4 (Operand.tmp 102), type := 4, pos := "ref.go:140", after := #[{ on := 26, ground := Ground.data }, { on := 13, ground := Ground.guard }], guard := some (13, false) }) (v := ?_) rfl (by kernel_rfl) (by kernel_rfl) (by kernel_rfl) (fun _ _ _ h => h) (Or.inl ⟨by rfl, ?_⟩) (by assumption) ?_
                            rotate_left
                            · intro w hSw; (try dsimp only at hSw); first | (go_simp; done) | (go_simp; with_reducible rfl)
                            try simp only [Act.put, List.setIfInBounds_toArray, List.set_cons_zero, List.set_cons_succ]
                            refine wpAnyH_take (i := 28) (oi := { dst := some 104, op := Op.pick (Operand.tmp 89) (Operand.const (Value.bool true)) (Operand.tmp 103), type := 4, pos := "ref.go:140", after := #[{ on := 13, ground := Ground.data }, { on := 27, ground := Ground.data }], guard := none }) (v := ?_) rfl (by kernel_rfl) (by kernel_rfl) (by kernel_rfl) (fun _ _ _ h => h) (Or.inl ⟨by rfl, ?_⟩) (by assumption) ?_
                            rotate_left
                            · intro w hSw; (try dsimp only at hSw); first | (go_simp; done) | (go_simp; with_reducible rfl)
                            try simp only [Act.put, List.setIfInBounds_toArray, List.set_cons_zero, List.set_cons_succ]
                            refine wpAnyH_done (by kernel_rfl) ?_ _
                            refine NoPanic.normal ?_
                            have HB2 := Lib.hid (HN.out _ hE2.now).2.2.2
                            clear hE2
                            go_wp2
                            rw [← ea, ← ea']
                            go_roundg (gk - 1)
                            case measure => have := HJ.out; have := HLI.out; omega
                            case rel => exact ⟨j + 1, by rw [List.length_map]; have := HJ.out; have := HLI.out; omega, by go_num, take_more HTK.out HK.out HK'.out HQ.out, HBR.out.trans (HB2.out.mono HBR.out.size)⟩
                          · have HVAL : Hid (sameS k.C k.q.l k'.C k'.q.l = false) := by
                              show _ = _
                              cases hv : sameS k.C k.q.l k'.C k'.q.l with
                              | false => rfl
                              | true => exact absurd ((sameS_iff _ _ _ _).1 hv) hsp
                            have HNE : Hid (¬ k'.it = k.it) := fun e => hsp ⟨(it_eq.1 e).2.1.symm, (it_eq.1 e).2.2.symm⟩
                            clear hsp
                            have hE : Ever (fun w' => (w'.cell? ⟨x2, 8, none⟩ = some (.slice (some ⟨b, o, none⟩) f.ni f.ci) ∧ w'.cell? ⟨x3, 8, none⟩ = some (.slice (some ⟨b', o', none⟩) g.ni g.ci) ∧ w'.cell? ⟨b, o + j * 3, none⟩ = some (.int .u64 (k.N : Int)) ∧ w'.cell? ⟨b, o + j * 3 + 1, none⟩ = some (.int .i64 k.C) ∧ w'.cell? ⟨b, o + j * 3 + 2, none⟩ = some (.slice k.q.A k.q.n k.q.c) ∧ w'.cell? ⟨b', o' + j * 3, none⟩ = some (.int .u64 (k'.N : Int)) ∧ w'.cell? ⟨b', o' + j * 3 + 1, none⟩ = some (.int .i64 k'.C) ∧ w'.cell? ⟨b', o' + j * 3 + 2, none⟩ = some (.slice k'.q.A k'.q.n k'.q.c)) ∧ Sl w' w'.heap.size k.q.A k.q.n k.q.c k.q.l ∧ Sl w' w'.heap.size k'.q.A k'.q.n k'.q.c k'.q.l ∧ Below wr.heap.size wr w') wr := by
                              intro w' hw
                              exact ⟨⟨(hw.cell (p := ⟨x2, 8, none⟩) hzx2).trans e2, (hw.cell (p := ⟨x3, 8, none⟩) hzx3).trans e3, (hw.cell (p := ⟨b, o + j * 3, none⟩) hz1).trans d0, (hw.cell (p := ⟨b, o + j * 3 + 1, none⟩) hz1).trans d1, (hw.cell (p := ⟨b, o + j * 3 + 2, none⟩) hz1).trans d2, (hw.cell (p := ⟨b', o' + j * 3, none⟩) hz2).trans d0', (hw.cell (p := ⟨b', o' + j * 3 + 1, none⟩) hz2).trans d1', (hw.cell (p := ⟨b', o' + j * 3 + 2, none⟩) hz2).trans d2'⟩, HS.out.on hw (Nat.le_refl _), HS'.out.on hw (Nat.le_refl _), hw⟩
                            obtain ⟨Ps, HP⟩ : ∃ Ps : World → Prop, Hid (Ps = fun w' => (w'.cell? ⟨x2, 8, none⟩ = some (.slice (some ⟨b, o, none⟩) f.ni f.ci) ∧ w'.cell? ⟨x3, 8, none⟩ = some (.slice (some ⟨b', o', none⟩) g.ni g.ci) ∧ w'.cell? ⟨b, o + j * 3, none⟩ = some (.int .u64 (k.N : Int)) ∧ w'.cell? ⟨b, o + j * 3 + 1, none⟩ = some (.int .i64 k.C) ∧ w'.cell? ⟨b, o + j * 3 + 2, none⟩ = some (.slice k.q.A k.q.n k.q.c) ∧ w'.cell? ⟨b', o' + j * 3, none⟩ = some (.int .u64 (k'.N : Int)) ∧ w'.cell? ⟨b', o' + j * 3 + 1, none⟩ = some (.int .i64 k'.C) ∧ w'.cell? ⟨b', o' + j * 3 + 2, none⟩ = some (.slice k'.q.A k'.q.n k'.q.c)) ∧ Sl w' w'.heap.size k.q.A k.q.n k.q.c k.q.l ∧ Sl w' w'.heap.size k'.q.A k'.q.n k'.q.c k'.q.l ∧ Below wr.heap.size wr w') := ⟨_, rfl⟩
                            have HN : Hid (∀ w', Ps w' → (w'.cell? ⟨x2, 8, none⟩ = some (.slice (some ⟨b, o, none⟩) f.ni f.ci) ∧ w'.cell? ⟨x3, 8, none⟩ = some (.slice (some ⟨b', o', none⟩) g.ni g.ci) ∧ w'.cell? ⟨b, o + j * 3, none⟩ = some (.int .u64 (k.N : Int)) ∧ w'.cell? ⟨b, o + j * 3 + 1, none⟩ = some (.int .i64 k.C) ∧ w'.cell? ⟨b, o + j * 3 + 2, none⟩ = some (.slice k.q.A k.q.n k.q.c) ∧ w'.cell? ⟨b', o' + j * 3, none⟩ = some (.int .u64 (k'.N : Int)) ∧ w'.cell? ⟨b', o' + j * 3 + 1, none⟩ = some (.int .i64 k'.C) ∧ w'.cell? ⟨b', o' + j * 3 + 2, none⟩ = some (.slice k'.q.A k'.q.n k'.q.c)) ∧ Sl w' w'.heap.size k.q.A k.q.n k.q.c k.q.l ∧ Sl w' w'.heap.size k'.q.A k'.q.n k'.q.c k'.q.l ∧ Below wr.heap.size wr w') := by rw [HP.out]; exact fun _ h => h
                            replace hE : Ever Ps wr := by rw [HP.out]; exact hE
                            clear HP
                            go_wp2_with fail
                            have hE2 := hE.drewN 1
                            clear hE d0 d1 d2 d0' d1' d2' e2 e3
                            refine wp_region_noPanic ?_
                            refine wp_region_held_drew (S := (fun w' => (w'.cell? ⟨x2, 8, none⟩ = some (.slice (some ⟨b, o, none⟩) f.ni f.ci) ∧ w'.cell? ⟨x3, 8, none⟩ = some (.slice (some ⟨b', o', none⟩) g.ni g.ci) ∧ w'.cell? ⟨b, o + j * 3, none⟩ = some (.int .u64 (k.N : Int)) ∧ w'.cell? ⟨b, o + j * 3 + 1, none⟩ = some (.int .i64 k.C) ∧ w'.cell? ⟨b, o + j * 3 + 2, none⟩ = some (.slice k.q.A k.q.n k.q.c) ∧ w'.cell? ⟨b', o' + j * 3, none⟩ = some (.int .u64 (k'.N : Int)) ∧ w'.cell? ⟨b', o' + j * 3 + 1, none⟩ = some (.int .i64 k'.C) ∧ w'.cell? ⟨b', o' + j * 3 + 2, none⟩ = some (.slice k'.q.A k'.q.n k'.q.c)) ∧ Ever Ps w')) (by kernel_rfl) ⟨(HN.out _ hE2.now).1, hE2⟩ (fun hHeld => ?_)
                            refine wpAnyH_take (i := 0) (oi := { dst := some 76, op := Op.fieldAddr 33 (Operand.tmp 2) 8, type := 0, pos := "ref.go:140", after := #[], guard := none }) (v := ?_) rfl (by kernel_rfl) (by kernel_rfl) (by kernel_rfl) (fun _ _ _ h => h) (Or.inl ⟨by rfl, ?_⟩) (by assumption) ?_
                            rotate_left
                            · intro w hSw; (try dsimp only at hSw); first | (go_simp; done) | (go_simp; with_reducible rfl)
                            try simp only [Act.put, List.setIfInBounds_toArray, List.set_cons_zero, List.set_cons_succ]
                            refine wpAnyH_take (i := 1) (oi := { dst := some 77, op := Op.load 31 (Operand.tmp 76), type := 31, pos := "ref.go:140", after := #[{ on := 0, ground := Ground.data }], guard := none }) (v := ?_) rfl (by kernel_rfl) (by kernel_rfl) (by kernel_rfl) (fun _ _ _ h => h) (Or.inl ⟨by rfl, ?_⟩) (by assumption) ?_
                            rotate_left
                            · intro w hSw; (try dsimp only at hSw); first | (go_simp; done) | (go_simp; with_reducible rfl)
                            try simp only [Act.put, List.setIfInBounds_toArray, List.set_cons_zero, List.set_cons_succ]
                            refine wpAnyH_take (i := 2) (oi := { dst := some 78, op := Op.move (Operand.tmp 5), type := 3, pos := "ref.go:140", after := #[], guard := none }) (v := ?_) rfl (by kernel_rfl) (by kernel_rfl) (by kernel_rfl) (fun _ _ _ h => h) (Or.inl ⟨by rfl, ?_⟩) (by assumption) ?_
                            rotate_left
                            · intro w hSw; (try dsimp only at hSw); first | (go_simp; done) | (go_simp; with_reducible rfl)
                            try simp only [Act.put, List.setIfInBounds_toArray, List.set_cons_zero, List.set_cons_succ]
                            refine wpAnyH_take (i := 3) (oi := { dst := some 79, op := Op.indexAddr 31 (Operand.tmp 77) (Operand.tmp 78), type := 0, pos := "ref.go:140", after := #[{ on := 1, ground := Ground.data }, { on := 2, ground := Ground.data }], guard := none }) (v := ?_) rfl (by kernel_rfl) (by kernel_rfl) (by kernel_rfl) (fun _ _ _ h => h) (Or.inl ⟨by rfl, ?_⟩) (by assumption) ?_
                            rotate_left
                            · intro w hSw; (try dsimp only at hSw); first | (go_simp; done) | (go_simp; with_reducible rfl)
                            try simp only [Act.put, List.setIfInBounds_toArray, List.set_cons_zero, List.set_cons_succ]
                            refine wpAnyH_take (i := 4) (oi := { dst := some 80, op := Op.fieldAddr 73 (Operand.tmp 79) 0, type := 0, pos := "ref.go:140", after := #[{ on := 3, ground := Ground.data }], guard := none }) (v := ?_) rfl (by kernel_rfl) (by kernel_rfl) (by kernel_rfl) (fun _ _ _ h => h) (Or.inl ⟨by rfl, ?_⟩) (by assumption) ?_
                            rotate_left
                            · intro w hSw; (try dsimp only at hSw); first | (go_simp; done) | (go_simp; with_reducible rfl)
                            try simp only [Act.put, List.setIfInBounds_toArray, List.set_cons_zero, List.set_cons_succ]
                            refine wpAnyH_take (i := 5) (oi := { dst := some 81, op := Op.load 22 (Operand.tmp 80), type := 22, pos := "ref.go:140", after := #[{ on := 4, ground := Ground.data }], guard := none }) (v := ?_) rfl (by kernel_rfl) (by kernel_rfl) (by kernel_rfl) (fun _ _ _ h => h) (Or.inl ⟨by rfl, ?_⟩) (by assumption) ?_
                            rotate_left
                            · intro w hSw; (try dsimp only at hSw); first | (go_simp; done) | (go_simp; with_reducible rfl)
                            try simp only [Act.put, List.setIfInBounds_toArray, List.set_cons_zero, List.set_cons_succ]
                            refine wpAnyH_take (i := 6) (oi := { dst := some 82, op := Op.fieldAddr 33 (Operand.tmp 3) 8, type := 0, pos := "ref.go:140", after := #[], guard := none }) (v := ?_) rfl (by kernel_rfl) (by kernel_rfl) (by kernel_rfl) (fun _ _ _ h => h) (Or.inl ⟨by rfl, ?_⟩) (by assumption) ?_
                            rotate_left
                            · intro w hSw; (try dsimp only at hSw); first | (go_simp; done) | (go_simp; with_reducible rfl)
                            try simp only [Act.put, List.setIfInBounds_toArray, List.set_cons_zero, List.set_cons_succ]
                            refine wpAnyH_take (i := 7) (oi := { dst := some 83, op := Op.load 31 (Operand.tmp 82), type := 31, pos := "ref.go:140", after := #[{ on := 6, ground := Ground.data }], guard := none }) (v := ?_) rfl (by kernel_rfl) (by kernel_rfl) (by kernel_rfl) (fun _ _ _ h => h) (Or.inl ⟨by rfl, ?_⟩) (by assumption) ?_
                            rotate_left
                            · intro w hSw; (try dsimp only at hSw); first | (go_simp; done) | (go_simp; with_reducible rfl)
                            try simp only [Act.put, List.setIfInBounds_toArray, List.set_cons_zero, List.set_cons_succ]
                            refine wpAnyH_take (i := 8) (oi := { dst := some 84, op := Op.move (Operand.tmp 5), type := 3, pos := "ref.go:140", after := #[], guard := none }) (v := ?_) rfl (by kernel_rfl) (by kernel_rfl) (by kernel_rfl) (fun _ _ _ h => h) (Or.inl ⟨by rfl, ?_⟩) (by assumption) ?_
                            rotate_left
                            · intro w hSw; (try dsimp only at hSw); first | (go_simp; done) | (go_simp; with_reducible rfl)
                            try simp only [Act.put, List.setIfInBounds_toArray, List.set_cons_zero, List.set_cons_succ]
                            refine wpAnyH_take (i := 9) (oi := { dst := some 85, op := Op.indexAddr 31 (Operand.tmp 83) (Operand.tmp 84), type := 0, pos := "ref.go:140", after := #[{ on := 7, ground := Ground.data }, { on := 8, ground := Ground.data }], guard := none }) (v := ?_) rfl (by kernel_rfl) (by kernel_rfl) (by kernel_rfl) (fun _ _ _ h => h) (Or.inl ⟨by rfl, ?_⟩) (by assumption) ?_
                            rotate_left
                            · intro w hSw; (try dsimp only at hSw); first | (go_simp; done) | (go_simp; with_reducible rfl)
                            try simp only [Act.put, List.setIfInBounds_toArray, List.set_cons_zero, List.set_cons_succ]
                            refine wpAnyH_take (i := 10) (oi := { dst := some 86, op := Op.fieldAddr 73 (Operand.tmp 85) 0, type := 0, pos := "ref.go:140", after := #[{ on := 9, ground := Ground.data }], guard := none }) (v := ?_) rfl (by kernel_rfl) (by kernel_rfl) (by kernel_rfl) (fun _ _ _ h => h) (Or.inl ⟨by rfl, ?_⟩) (by assumption) ?_
                            rotate_left
                            · intro w hSw; (try dsimp only at hSw); first | (go_simp; done) | (go_simp; with_reducible rfl)
                            try simp only [Act.put, List.setIfInBounds_toArray, List.set_cons_zero, List.set_cons_succ]
                            refine wpAnyH_take (i := 11) (oi := { dst := some 87, op := Op.load 22 (Operand.tmp 86), type := 22, pos := "ref.go:140", after := #[{ on := 10, ground := Ground.data }], guard := none }) (v := ?_) rfl (by kernel_rfl) (by kernel_rfl) (by kernel_rfl) (fun _ _ _ h => h) (Or.inl ⟨by rfl, ?_⟩) (by assumption) ?_
                            rotate_left
                            · intro w hSw; (try dsimp only at hSw); first | (go_simp; done) | (go_simp; with_reducible rfl)
                            try simp only [Act.put, List.setIfInBounds_toArray, List.set_cons_zero, List.set_cons_succ]
                            refine wpAnyH_take (i := 12) (oi := { dst := some 88, op := Op.binOp BinOp.neq 22 (Operand.tmp 81) (Operand.tmp 87) 22, type := 4, pos := "ref.go:140", after := #[{ on := 5, ground := Ground.data }, { on := 11, ground := Ground.data }], guard := none }) (v := ?_) rfl (by kernel_rfl) (by kernel_rfl) (by kernel_rfl) (fun _ _ _ h => h) (Or.inl ⟨by rfl, ?_⟩) (by assumption) ?_
                            rotate_left
                            · intro w hSw; (try dsimp only at hSw); first | (go_simp; done) | (go_simp; with_reducible rfl)
                            try simp only [Act.put, List.setIfInBounds_toArray, List.set_cons_zero, List.set_cons_succ]
                            refine wpAnyH_take (i := 13) (oi := { dst := some 89, op := Op.move (Operand.tmp 88), type := 4, pos := "ref.go:140", after := #[{ on := 12, ground := Ground.data }], guard := none }) (v := ?_) rfl (by kernel_rfl) (by kernel_rfl) (by kernel_rfl) (fun _ _ _ h => h) (Or.inl ⟨by rfl, ?_⟩) (by assumption) ?_
                            rotate_left
                            · intro w hSw; (try dsimp only at hSw); first | (go_simp; done) | (go_simp; with_reducible rfl)
                            try simp only [Act.put, List.setIfInBounds_toArray, List.set_cons_zero, List.set_cons_succ]
                            refine wpAnyH_take (i := 14) (oi := { dst := some 90, op := Op.fieldAddr 33 (Operand.tmp 2) 8, type := 0, pos := "ref.go:140", after := #[{ on := 13, ground := Ground.guard }], guard := some (13, false) }) (v := ?_) rfl (by kernel_rfl) (by kernel_rfl) (by kernel_rfl) (fun _ _ _ h => h) (Or.inl ⟨by rfl, ?_⟩) (by assumption) ?_
                            rotate_left
                            · intro w hSw; (try dsimp only at hSw); first | (go_simp; done) | (go_simp; with_reducible rfl)
                            try simp only [Act.put, List.setIfInBounds_toArray, List.set_cons_zero, List.set_cons_succ]
                            refine wpAnyH_take (i := 15) (oi := { dst := some 91, op := Op.load 31 (Operand.tmp 90), type := 31, pos := "ref.go:140", after := #[{ on := 14, ground := Ground.data }, { on := 13, ground := Ground.guard }], guard := some (13, false) }) (v := ?_) rfl (by kernel_rfl) (by kernel_rfl) (by kernel_rfl) (fun _ _ _ h => h) (Or.inl ⟨by rfl, ?_⟩) (by assumption) ?_
                            rotate_left
                            · intro w hSw; (try dsimp only at hSw); first | (go_simp; done) | (go_simp; with_reducible rfl)
                            try simp only [Act.put, List.setIfInBounds_toArray, List.set_cons_zero, List.set_cons_succ]
                            refine wpAnyH_take (i := 16) (oi := { dst := some 92, op := Op.move (Operand.tmp 5), type := 3, pos := "ref.go:140", after := #[{ on := 13, ground := Ground.guard }], guard := some (13, false) }) (v := ?_) rfl (by kernel_rfl) (by kernel_rfl) (by kernel_rfl) (fun _ _ _ h => h) (Or.inl ⟨by rfl, ?_⟩) (by assumption) ?_
                            rotate_left
                            · intro w hSw; (try dsimp only at hSw); first | (go_simp; done) | (go_simp; with_reducible rfl)
                            try simp only [Act.put, List.setIfInBounds_toArray, List.set_cons_zero, List.set_cons_succ]
                            refine wpAnyH_take (i := 17) (oi := { dst := some 93, op := Op.indexAddr 31 (Operand.tmp 91) (Operand.tmp 92), type := 0, pos := "ref.go:140", after := #[{ on := 15, ground := Ground.data }, { on := 16, ground := Ground.data }, { on := 13, ground := Ground.guard }], guard := some (13, false) }) (v := ?_) rfl (by kernel_rfl) (by kernel_rfl) (by kernel_rfl) (fun _ _ _ h => h) (Or.inl ⟨by rfl, ?_⟩) (by assumption) ?_
                            rotate_left
                            · intro w hSw; (try dsimp only at hSw); first | (go_simp; done) | (go_simp; with_reducible rfl)
                            try simp only [Act.put, List.setIfInBounds_toArray, List.set_cons_zero, List.set_cons_succ]
                            refine wpAnyH_take (i := 18) (oi := { dst := some 94, op := Op.fieldAddr 73 (Operand.tmp 93) 1, type := 0, pos := "ref.go:140", after := #[{ on := 17, ground := Ground.data }, { on := 13, ground := Ground.guard }], guard := some (13, false) }) (v := ?_) rfl (by kernel_rfl) (by kernel_rfl) (by kernel_rfl) (fun _ _ _ h => h) (Or.inl ⟨by rfl, ?_⟩) (by assumption) ?_
                            rotate_left
                            · intro w hSw; (try dsimp only at hSw); first | (go_simp; done) | (go_simp; with_reducible rfl)
                            try simp only [Act.put, List.setIfInBounds_toArray, List.set_cons_zero, List.set_cons_succ]
                            refine wpAnyH_take (i := 19) (oi := { dst := some 95, op := Op.load 71 (Operand.tmp 94), type := 71, pos := "ref.go:140", after := #[{ on := 18, ground := Ground.data }, { on := 13, ground := Ground.guard }], guard := some (13, false) }) (v := ?_) rfl (by kernel_rfl) (by kernel_rfl) (by kernel_rfl) (fun _ _ _ h => h) (Or.inl ⟨by rfl, ?_⟩) (by assumption) ?_
                            rotate_left
                            · intro w hSw; (try dsimp only at hSw); first | (go_simp; done) | (go_simp; with_reducible rfl)
                            try simp only [Act.put, List.setIfInBounds_toArray, List.set_cons_zero, List.set_cons_succ]
                            refine wpAnyH_take (i := 20) (oi := { dst := some 96, op := Op.fieldAddr 33 (Operand.tmp 3) 8, type := 0, pos := "ref.go:140", after := #[{ on := 13, ground := Ground.guard }], guard := some (13, false) }) (v := ?_) rfl (by kernel_rfl) (by kernel_rfl) (by kernel_rfl) (fun _ _ _ h => h) (Or.inl ⟨by rfl, ?_⟩) (by assumption) ?_
                            rotate_left
                            · intro w hSw; (try dsimp only at hSw); first | (go_simp; done) | (go_simp; with_reducible rfl)
                            try simp only [Act.put, List.setIfInBounds_toArray, List.set_cons_zero, List.set_cons_succ]
                            refine wpAnyH_take (i := 21) (oi := { dst := some 97, op := Op.load 31 (Operand.tmp 96), type := 31, pos := "ref.go:140", after := #[{ on := 20, ground := Ground.data }, { on := 13, ground := Ground.guard }], guard := some (13, false) }) (v := ?_) rfl (by kernel_rfl) (by kernel_rfl) (by kernel_rfl) (fun _ _ _ h => h) (Or.inl ⟨by rfl, ?_⟩) (by assumption) ?_
                            rotate_left
                            · intro w hSw; (try dsimp only at hSw); first | (go_simp; done) | (go_simp; with_reducible rfl)
                            try simp only [Act.put, List.setIfInBounds_toArray, List.set_cons_zero, List.set_cons_succ]
                            refine wpAnyH_take (i := 22) (oi := { dst := some 98, op := Op.move (Operand.tmp 5), type := 3, pos := "ref.go:140", after := #[{ on := 13, ground := Ground.guard }], guard := some (13, false) }) (v := ?_) rfl (by kernel_rfl) (by kernel_rfl) (by kernel_rfl) (fun _ _ _ h => h) (Or.inl ⟨by rfl, ?_⟩) (by assumption) ?_
                            rotate_left
                            · intro w hSw; (try dsimp only at hSw); first | (go_simp; done) | (go_simp; with_reducible rfl)
                            try simp only [Act.put, List.setIfInBounds_toArray, List.set_cons_zero, List.set_cons_succ]
                            refine wpAnyH_take (i := 23) (oi := { dst := some 99, op := Op.indexAddr 31 (Operand.tmp 97) (Operand.tmp 98), type := 0, pos := "ref.go:140", after := #[{ on := 21, ground := Ground.data }, { on := 22, ground := Ground.data }, { on := 13, ground := Ground.guard }], guard := some (13, false) }) (v := ?_) rfl (by kernel_rfl) (by kernel_rfl) (by kernel_rfl) (fun _ _ _ h => h) (Or.inl ⟨by rfl, ?_⟩) (by assumption) ?_
                            rotate_left
                            · intro w hSw; (try dsimp only at hSw); first | (go_simp; done) | (go_simp; with_reducible rfl)
                            try simp only [Act.put, List.setIfInBounds_toArray, List.set_cons_zero, List.set_cons_succ]
                            refine wpAnyH_take (i := 24) (oi := { dst := some 100, op := Op.fieldAddr 73 (Operand.tmp 99) 1, type := 0, pos := "ref.go:140", after := #[{ on := 23, ground := Ground.data }, { on := 13, ground := Ground.guard }], guard := some (13, false) }) (v := ?_) rfl (by kernel_rfl) (by kernel_rfl) (by kernel_rfl) (fun _ _ _ h => h) (Or.inl ⟨by rfl, ?_⟩) (by assumption) ?_
                            rotate_left
                            · intro w hSw; (try dsimp only at hSw); first | (go_simp; done) | (go_simp; with_reducible rfl)
                            try simp only [Act.put, List.setIfInBounds_toArray, List.set_cons_zero, List.set_cons_succ]
                            refine wpAnyH_take (i := 25) (oi := { dst := some 101, op := Op.load 71 (Operand.tmp 100), type := 71, pos := "ref.go:140", after := #[{ on := 24, ground := Ground.data }, { on := 13, ground := Ground.guard }], guard := some (13, false) }) (v := ?_) rfl (by kernel_rfl) (by kernel_rfl) (by kernel_rfl) (fun _ _ _ h => h) (Or.inl ⟨by rfl, ?_⟩) (by assumption) ?_
                            rotate_left
                            · intro w hSw; (try dsimp only at hSw); first | (go_simp; done) | (go_simp; with_reducible rfl)
                            try simp only [Act.put, List.setIfInBounds_toArray, List.set_cons_zero, List.set_cons_succ]
                            refine wpAnyH_ready (rs := [26]) (by kernel_rfl) (by simp) ?_
                            refine AllReadyH.cons (o := { dst := some 102, op := Op.call { callee := Callee.value (Operand.func 47), args := #[Operand.tmp 95, Operand.tmp 101], argTypes := #[71, 71] }, type := 4, pos := "ref.go:140", after := #[{ on := 19, ground := Ground.data }, { on := 25, ground := Ground.data }, { on := 13, ground := Ground.chain }, { on := 13, ground := Ground.guard }], guard := some (13, false) }) rfl (fun K hK => ?_) AllReadyH.nil
                            go_simp
                            go_at_call 47
                            have hcs := refSpanSame_any _ k.C k'.C k.q.A k'.q.A k.q.n k.q.c k'.q.n k'.q.c k.q.l k'.q.l (HN.out _ hE2.now).2.1 (HN.out _ hE2.now).2.2.1
                            rw [show sameS k.C k.q.l k'.C k'.q.l = false from HVAL.out] at hcs
                            unfold spv at hcs
                            refine hcs.mono ?_
                            rintro e ws ⟨rfl, hbs⟩
                            replace hE2 := hE2.next hbs
                            clear hbs hcs
                            go_wp2_with fail
                            clear hHeld
                            refine hK.out _ _ ⟨(HN.out _ hE2.now).1, hE2⟩ (fun hHeld => ?_)
                            clear hK K
                            try simp only [Act.put, List.setIfInBounds_toArray, List.set_cons_zero, List.set_cons_succ]
                            refine wpAnyH_take (i := 27) (oi := { dst := some 103, op := Op.unOp UnOp.not 4 (Operand.tmp 102), type := 4, pos := "ref.go:140", after := #[{ on := 26, ground := Ground.data }, { on := 13, ground := Ground.guard }], guard := some (13, false) }) (v := ?_) rfl (by kernel_rfl) (by kernel_rfl) (by kernel_rfl) (fun _ _ _ h => h) (Or.inl ⟨by rfl, ?_⟩) (by assumption) ?_
                            rotate_left
                            · intro w hSw; (try dsimp only at hSw); first | (go_simp; done) | (go_simp; with_reducible rfl)
                            try simp only [Act.put, List.setIfInBounds_toArray, List.set_cons_zero, List.set_cons_succ]
                            refine wpAnyH_take (i := 28) (oi := { dst := some 104, op := Op.pick (Operand.tmp 89) (Operand.const (Value.bool true)) (Operand.tmp 103), type := 4, pos := "ref.go:140", after := #[{ on := 13, ground := Ground.data }, { on := 27, ground := Ground.data }], guard := none }) (v := ?_) rfl (by kernel_rfl) (by kernel_rfl) (by kernel_rfl) (fun _ _ _ h => h) (Or.inl ⟨by rfl, ?_⟩) (by assumption) ?_
                            rotate_left
                            · intro w hSw; (try dsimp only at hSw); first | (go_simp; done) | (go_simp; with_reducible rfl)
                            try simp only [Act.put, List.setIfInBounds_toArray, List.set_cons_zero, List.set_cons_succ]
                            refine wpAnyH_done (by kernel_rfl) ?_ _
                            refine NoPanic.normal ?_
                            have HB2 := Lib.hid (HN.out _ hE2.now).2.2.2
                            clear hE2
                            go_wp2
                            go_ret
                            refine ⟨ret_b ?_, HBX.out.trans ((HBR.out.trans (HB2.out.mono HBR.out.size)).mono HBX.out.size)⟩
                            rw [HB.out, decP_no]
                            intro e
                            have h1 := HK.out
                            have h2 := HK'.out
                            rw [← HX.out] at h1
                            rw [← HY.out] at h2
                            have e9 : f.m.its = g.m.its := (fm_eq.1 e).2.2.2.2.2.2.2.2
                            rw [e9, h2] at h1
                            injection h1 with h1
                            exact HNE.out h1
                        · have hNI : ((k.N : Int) != (k'.N : Int)) = true := by simp; omega
                          have HNE : Hid (¬ k'.it = k.it) := fun e => hN (it_eq.1 e).1.symm
                          have HVAL : Hid (sameS k.C k.q.l k'.C k'.q.l = sameS k.C k.q.l k'.C k'.q.l) := rfl
                          clear hN
                          have hE : Ever (fun w' => (w'.cell? ⟨x2, 8, none⟩ = some (.slice (some ⟨b, o, none⟩) f.ni f.ci) ∧ w'.cell? ⟨x3, 8, none⟩ = some (.slice (some ⟨b', o', none⟩) g.ni g.ci) ∧ w'.cell? ⟨b, o + j * 3, none⟩ = some (.int .u64 (k.N : Int)) ∧ w'.cell? ⟨b, o + j * 3 + 1, none⟩ = some (.int .i64 k.C) ∧ w'.cell? ⟨b, o + j * 3 + 2, none⟩ = some (.slice k.q.A k.q.n k.q.c) ∧ w'.cell? ⟨b', o' + j * 3, none⟩ = some (.int .u64 (k'.N : Int)) ∧ w'.cell? ⟨b', o' + j * 3 + 1, none⟩ = some (.int .i64 k'.C) ∧ w'.cell? ⟨b', o' + j * 3 + 2, none⟩ = some (.slice k'.q.A k'.q.n k'.q.c)) ∧ Sl w' w'.heap.size k.q.A k.q.n k.q.c k.q.l ∧ Sl w' w'.heap.size k'.q.A k'.q.n k'.q.c k'.q.l ∧ Below wr.heap.size wr w') wr := by
                            intro w' hw
                            exact ⟨⟨(hw.cell (p := ⟨x2, 8, none⟩) hzx2).trans e2, (hw.cell (p := ⟨x3, 8, none⟩) hzx3).trans e3, (hw.cell (p := ⟨b, o + j * 3, none⟩) hz1).trans d0, (hw.cell (p := ⟨b, o + j * 3 + 1, none⟩) hz1).trans d1, (hw.cell (p := ⟨b, o + j * 3 + 2, none⟩) hz1).trans d2, (hw.cell (p := ⟨b', o' + j * 3, none⟩) hz2).trans d0', (hw.cell (p := ⟨b', o' + j * 3 + 1, none⟩) hz2).trans d1', (hw.cell (p := ⟨b', o' + j * 3 + 2, none⟩) hz2).trans d2'⟩, HS.out.on hw (Nat.le_refl _), HS'.out.on hw (Nat.le_refl _), hw⟩
                          obtain ⟨Ps, HP⟩ : ∃ Ps : World → Prop, Hid (Ps = fun w' => (w'.cell? ⟨x2, 8, none⟩ = some (.slice (some ⟨b, o, none⟩) f.ni f.ci) ∧ w'.cell? ⟨x3, 8, none⟩ = some (.slice (some ⟨b', o', none⟩) g.ni g.ci) ∧ w'.cell? ⟨b, o + j * 3, none⟩ = some (.int .u64 (k.N : Int)) ∧ w'.cell? ⟨b, o + j * 3 + 1, none⟩ = some (.int .i64 k.C) ∧ w'.cell? ⟨b, o + j * 3 + 2, none⟩ = some (.slice k.q.A k.q.n k.q.c) ∧ w'.cell? ⟨b', o' + j * 3, none⟩ = some (.int .u64 (k'.N : Int)) ∧ w'.cell? ⟨b', o' + j * 3 + 1, none⟩ = some (.int .i64 k'.C) ∧ w'.cell? ⟨b', o' + j * 3 + 2, none⟩ = some (.slice k'.q.A k'.q.n k'.q.c)) ∧ Sl w' w'.heap.size k.q.A k.q.n k.q.c k.q.l ∧ Sl w' w'.heap.size k'.q.A k'.q.n k'.q.c k'.q.l ∧ Below wr.heap.size wr w') := ⟨_, rfl⟩
                          have HN : Hid (∀ w', Ps w' → (w'.cell? ⟨x2, 8, none⟩ = some (.slice (some ⟨b, o, none⟩) f.ni f.ci) ∧ w'.cell? ⟨x3, 8, none⟩ = some (.slice (some ⟨b', o', none⟩) g.ni g.ci) ∧ w'.cell? ⟨b, o + j * 3, none⟩ = some (.int .u64 (k.N : Int)) ∧ w'.cell? ⟨b, o + j * 3 + 1, none⟩ = some (.int .i64 k.C) ∧ w'.cell? ⟨b, o + j * 3 + 2, none⟩ = some (.slice k.q.A k.q.n k.q.c) ∧ w'.cell? ⟨b', o' + j * 3, none⟩ = some (.int .u64 (k'.N : Int)) ∧ w'.cell? ⟨b', o' + j * 3 + 1, none⟩ = some (.int .i64 k'.C) ∧ w'.cell? ⟨b', o' + j * 3 + 2, none⟩ = some (.slice k'.q.A k'.q.n k'.q.c)) ∧ Sl w' w'.heap.size k.q.A k.q.n k.q.c k.q.l ∧ Sl w' w'.heap.size k'.q.A k'.q.n k'.q.c k'.q.l ∧ Below wr.heap.size wr w') := by rw [HP.out]; exact fun _ h => h
                          replace hE : Ever Ps wr := by rw [HP.out]; exact hE
                          clear HP
                          go_wp2_with fail
                          have hE2 := hE.drewN 1
                          clear hE d0 d1 d2 d0' d1' d2' e2 e3
                          refine wp_region_noPanic ?_
                          refine wp_region_held_drew (S := (fun w' => (w'.cell? ⟨x2, 8, none⟩ = some (.slice (some ⟨b, o, none⟩) f.ni f.ci) ∧ w'.cell? ⟨x3, 8, none⟩ = some (.slice (some ⟨b', o', none⟩) g.ni g.ci) ∧ w'.cell? ⟨b, o + j * 3, none⟩ = some (.int .u64 (k.N : Int)) ∧ w'.cell? ⟨b, o + j * 3 + 1, none⟩ = some (.int .i64 k.C) ∧ w'.cell? ⟨b, o + j * 3 + 2, none⟩ = some (.slice k.q.A k.q.n k.q.c) ∧ w'.cell? ⟨b', o' + j * 3, none⟩ = some (.int .u64 (k'.N : Int)) ∧ w'.cell? ⟨b', o' + j * 3 + 1, none⟩ = some (.int .i64 k'.C) ∧ w'.cell? ⟨b', o' + j * 3 + 2, none⟩ = some (.slice k'.q.A k'.q.n k'.q.c)) ∧ Ever Ps w')) (by kernel_rfl) ⟨(HN.out _ hE2.now).1, hE2⟩ (fun hHeld => ?_)
                          refine wpAnyH_take (i := 0) (oi := { dst := some 76, op := Op.fieldAddr 33 (Operand.tmp 2) 8, type := 0, pos := "ref.go:140", after := #[], guard := none }) (v := ?_) rfl (by kernel_rfl) (by kernel_rfl) (by kernel_rfl) (fun _ _ _ h => h) (Or.inl ⟨by rfl, ?_⟩) (by assumption) ?_
                          rotate_left
                          · intro w hSw; (try dsimp only at hSw); first | (go_simp; done) | (go_simp; with_reducible rfl)
                          try simp only [Act.put, List.setIfInBounds_toArray, List.set_cons_zero, List.set_cons_succ]
                          refine wpAnyH_take (i := 1) (oi := { dst := some 77, op := Op.load 31 (Operand.tmp 76), type := 31, pos := "ref.go:140", after := #[{ on := 0, ground := Ground.data }], guard := none }) (v := ?_) rfl (by kernel_rfl) (by kernel_rfl) (by kernel_rfl) (fun _ _ _ h => h) (Or.inl ⟨by rfl, ?_⟩) (by assumption) ?_
                          rotate_left
                          · intro w hSw; (try dsimp only at hSw); first | (go_simp; done) | (go_simp; with_reducible rfl)
                          try simp only [Act.put, List.setIfInBounds_toArray, List.set_cons_zero, List.set_cons_succ]
                          refine wpAnyH_take (i := 2) (oi := { dst := some 78, op := Op.move (Operand.tmp 5), type := 3, pos := "ref.go:140", after := #[], guard := none }) (v := ?_) rfl (by kernel_rfl) (by kernel_rfl) (by kernel_rfl) (fun _ _ _ h => h) (Or.inl ⟨by rfl, ?_⟩) (by assumption) ?_
                          rotate_left
                          · intro w hSw; (try dsimp only at hSw); first | (go_simp; done) | (go_simp; with_reducible rfl)
                          try simp only [Act.put, List.setIfInBounds_toArray, List.set_cons_zero, List.set_cons_succ]
                          refine wpAnyH_take (i := 3) (oi := { dst := some 79, op := Op.indexAddr 31 (Operand.tmp 77) (Operand.tmp 78), type := 0, pos := "ref.go:140", after := #[{ on := 1, ground := Ground.data }, { on := 2, ground := Ground.data }], guard := none }) (v := ?_) rfl (by kernel_rfl) (by kernel_rfl) (by kernel_rfl) (fun _ _ _ h => h) (Or.inl ⟨by rfl, ?_⟩) (by assumption) ?_
                          rotate_left
                          · intro w hSw; (try dsimp only at hSw); first | (go_simp; done) | (go_simp; with_reducible rfl)
                          try simp only [Act.put, List.setIfInBounds_toArray, List.set_cons_zero, List.set_cons_succ]
                          refine wpAnyH_take (i := 4) (oi := { dst := some 80, op := Op.fieldAddr 73 (Operand.tmp 79) 0, type := 0, pos := "ref.go:140", after := #[{ on := 3, ground := Ground.data }], guard := none }) (v := ?_) rfl (by kernel_rfl) (by kernel_rfl) (by kernel_rfl) (fun _ _ _ h => h) (Or.inl ⟨by rfl, ?_⟩) (by assumption) ?_
                          rotate_left
                          · intro w hSw; (try dsimp only at hSw); first | (go_simp; done) | (go_simp; with_reducible rfl)
                          try simp only [Act.put, List.setIfInBounds_toArray, List.set_cons_zero, List.set_cons_succ]
                          refine wpAnyH_take (i := 5) (oi := { dst := some 81, op := Op.load 22 (Operand.tmp 80), type := 22, pos := "ref.go:140", after := #[{ on := 4, ground := Ground.data }], guard := none }) (v := ?_) rfl (by kernel_rfl) (by kernel_rfl) (by kernel_rfl) (fun _ _ _ h => h) (Or.inl ⟨by rfl, ?_⟩) (by assumption) ?_
                          rotate_left
                          · intro w hSw; (try dsimp only at hSw); first | (go_simp; done) | (go_simp; with_reducible rfl)
                          try simp only [Act.put, List.setIfInBounds_toArray, List.set_cons_zero, List.set_cons_succ]
                          refine wpAnyH_take (i := 6) (oi := { dst := some 82, op := Op.fieldAddr 33 (Operand.tmp 3) 8, type := 0, pos := "ref.go:140", after := #[], guard := none }) (v := ?_) rfl (by kernel_rfl) (by kernel_rfl) (by kernel_rfl) (fun _ _ _ h => h) (Or.inl ⟨by rfl, ?_⟩) (by assumption) ?_
                          rotate_left
                          · intro w hSw; (try dsimp only at hSw); first | (go_simp; done) | (go_simp; with_reducible rfl)
                          try simp only [Act.put, List.setIfInBounds_toArray, List.set_cons_zero, List.set_cons_succ]
                          refine wpAnyH_take (i := 7) (oi := { dst := some 83, op := Op.load 31 (Operand.tmp 82), type := 31, pos := "ref.go:140", after := #[{ on := 6, ground := Ground.data }], guard := none }) (v := ?_) rfl (by kernel_rfl) (by kernel_rfl) (by kernel_rfl) (fun _ _ _ h => h) (Or.inl ⟨by rfl, ?_⟩) (by assumption) ?_
                          rotate_left
                          · intro w hSw; (try dsimp only at hSw); first | (go_simp; done) | (go_simp; with_reducible rfl)
                          try simp only [Act.put, List.setIfInBounds_toArray, List.set_cons_zero, List.set_cons_succ]
                          refine wpAnyH_take (i := 8) (oi := { dst := some 84, op := Op.move (Operand.tmp 5), type := 3, pos := "ref.go:140", after := #[], guard := none }) (v := ?_) rfl (by kernel_rfl) (by kernel_rfl) (by kernel_rfl) (fun _ _ _ h => h) (Or.inl ⟨by rfl, ?_⟩) (by assumption) ?_
                          rotate_left
                          · intro w hSw; (try dsimp only at hSw); first | (go_simp; done) | (go_simp; with_reducible rfl)
                          try simp only [Act.put, List.setIfInBounds_toArray, List.set_cons_zero, List.set_cons_succ]
                          refine wpAnyH_take (i := 9) (oi := { dst := some 85, op := Op.indexAddr 31 (Operand.tmp 83) (Operand.tmp 84), type := 0, pos := "ref.go:140", after := #[{ on := 7, ground := Ground.data }, { on := 8, ground := Ground.data }], guard := none }) (v := ?_) rfl (by kernel_rfl) (by kernel_rfl) (by kernel_rfl) (fun _ _ _ h => h) (Or.inl ⟨by rfl, ?_⟩) (by assumption) ?_
                          rotate_left
                          · intro w hSw; (try dsimp only at hSw); first | (go_simp; done) | (go_simp; with_reducible rfl)
                          try simp only [Act.put, List.setIfInBounds_toArray, List.set_cons_zero, List.set_cons_succ]
                          refine wpAnyH_take (i := 10) (oi := { dst := some 86, op := Op.fieldAddr 73 (Operand.tmp 85) 0, type := 0, pos := "ref.go:140", after := #[{ on := 9, ground := Ground.data }], guard := none }) (v := ?_) rfl (by kernel_rfl) (by kernel_rfl) (by kernel_rfl) (fun _ _ _ h => h) (Or.inl ⟨by rfl, ?_⟩) (by assumption) ?_
                          rotate_left
                          · intro w hSw; (try dsimp only at hSw); first | (go_simp; done) | (go_simp; with_reducible rfl)
                          try simp only [Act.put, List.setIfInBounds_toArray, List.set_cons_zero, List.set_cons_succ]
                          refine wpAnyH_take (i := 11) (oi := { dst := some 87, op := Op.load 22 (Operand.tmp 86), type := 22, pos := "ref.go:140", after := #[{ on := 10, ground := Ground.data }], guard := none }) (v := ?_) rfl (by kernel_rfl) (by kernel_rfl) (by kernel_rfl) (fun _ _ _ h => h) (Or.inl ⟨by rfl, ?_⟩) (by assumption) ?_
                          rotate_left
                          · intro w hSw; (try dsimp only at hSw); first | (go_simp; done) | (go_simp; with_reducible rfl)
                          try simp only [Act.put, List.setIfInBounds_toArray, List.set_cons_zero, List.set_cons_succ]
                          refine wpAnyH_take (i := 12) (oi := { dst := some 88, op := Op.binOp BinOp.neq 22 (Operand.tmp 81) (Operand.tmp 87) 22, type := 4, pos := "ref.go:140", after := #[{ on := 5, ground := Ground.data }, { on := 11, ground := Ground.data }], guard := none }) (v := ?_) rfl (by kernel_rfl) (by kernel_rfl) (by kernel_rfl) (fun _ _ _ h => h) (Or.inl ⟨by rfl, ?_⟩) (by assumption) ?_
                          rotate_left
                          · intro w hSw; (try dsimp only at hSw); first | (go_simp; done) | (go_simp; with_reducible rfl)
                          try simp only [Act.put, List.setIfInBounds_toArray, List.set_cons_zero, List.set_cons_succ]
                          refine wpAnyH_take (i := 13) (oi := { dst := some 89, op := Op.move (Operand.tmp 88), type := 4, pos := "ref.go:140", after := #[{ on := 12, ground := Ground.data }], guard := none }) (v := ?_) rfl (by kernel_rfl) (by kernel_rfl) (by kernel_rfl) (fun _ _ _ h => h) (Or.inl ⟨by rfl, ?_⟩) (by assumption) ?_
                          rotate_left
                          · intro w hSw; (try dsimp only at hSw); first | (go_simp; done) | (go_simp; with_reducible rfl)
                          try simp only [Act.put, List.setIfInBounds_toArray, List.set_cons_zero, List.set_cons_succ]
                          refine wpAnyH_take (i := 14) (oi := { dst := some 90, op := Op.fieldAddr 33 (Operand.tmp 2) 8, type := 0, pos := "ref.go:140", after := #[{ on := 13, ground := Ground.guard }], guard := some (13, false) }) (v := undef) rfl (by kernel_rfl) (by kernel_rfl) (by kernel_rfl) (fun _ _ _ h => h) (Or.inr ⟨by rfl, rfl⟩) (by assumption) ?_
                          try simp only [Act.put, List.setIfInBounds_toArray, List.set_cons_zero, List.set_cons_succ]
                          refine wpAnyH_take (i := 15) (oi := { dst := some 91, op := Op.load 31 (Operand.tmp 90), type := 31, pos := "ref.go:140", after := #[{ on := 14, ground := Ground.data }, { on := 13, ground := Ground.guard }], guard := some (13, false) }) (v := undef) rfl (by kernel_rfl) (by kernel_rfl) (by kernel_rfl) (fun _ _ _ h => h) (Or.inr ⟨by rfl, rfl⟩) (by assumption) ?_
                          try simp only [Act.put, List.setIfInBounds_toArray, List.set_cons_zero, List.set_cons_succ]
                          refine wpAnyH_take (i := 16) (oi := { dst := some 92, op := Op.move (Operand.tmp 5), type := 3, pos := "ref.go:140", after := #[{ on := 13, ground := Ground.guard }], guard := some (13, false) }) (v := undef) rfl (by kernel_rfl) (by kernel_rfl) (by kernel_rfl) (fun _ _ _ h => h) (Or.inr ⟨by rfl, rfl⟩) (by assumption) ?_
                          try simp only [Act.put, List.setIfInBounds_toArray, List.set_cons_zero, List.set_cons_succ]
                          refine wpAnyH_take (i := 17) (oi := { dst := some 93, op := Op.indexAddr 31 (Operand.tmp 91) (Operand.tmp 92), type := 0, pos := "ref.go:140", after := #[{ on := 15, ground := Ground.data }, { on := 16, ground := Ground.data }, { on := 13, ground := Ground.guard }], guard := some (13, false) }) (v := undef) rfl (by kernel_rfl) (by kernel_rfl) (by kernel_rfl) (fun _ _ _ h => h) (Or.inr ⟨by rfl, rfl⟩) (by assumption) ?_
                          try simp only [Act.put, List.setIfInBounds_toArray, List.set_cons_zero, List.set_cons_succ]
                          refine wpAnyH_take (i := 18) (oi := { dst := some 94, op := Op.fieldAddr 73 (Operand.tmp 93) 1, type := 0, pos := "ref.go:140", after := #[{ on := 17, ground := Ground.data }, { on := 13, ground := Ground.guard }], guard := some (13, false) }) (v := undef) rfl (by kernel_rfl) (by kernel_rfl) (by kernel_rfl) (fun _ _ _ h => h) (Or.inr ⟨by rfl, rfl⟩) (by assumption) ?_
                          try simp only [Act.put, List.setIfInBounds_toArray, List.set_cons_zero, List.set_cons_succ]
                          refine wpAnyH_take (i := 19) (oi := { dst := some 95, op := Op.load 71 (Operand.tmp 94), type := 71, pos := "ref.go:140", after := #[{ on := 18, ground := Ground.data }, { on := 13, ground := Ground.guard }], guard := some (13, false) }) (v := undef) rfl (by kernel_rfl) (by kernel_rfl) (by kernel_rfl) (fun _ _ _ h => h) (Or.inr ⟨by rfl, rfl⟩) (by assumption) ?_
                          try simp only [Act.put, List.setIfInBounds_toArray, List.set_cons_zero, List.set_cons_succ]
                          refine wpAnyH_take (i := 20) (oi := { dst := some 96, op := Op.fieldAddr 33 (Operand.tmp 3) 8, type := 0, pos := "ref.go:140", after := #[{ on := 13, ground := Ground.guard }], guard := some (13, false) }) (v := undef) rfl (by kernel_rfl) (by kernel_rfl) (by kernel_rfl) (fun _ _ _ h => h) (Or.inr ⟨by rfl, rfl⟩) (by assumption) ?_
                          try simp only [Act.put, List.setIfInBounds_toArray, List.set_cons_zero, List.set_cons_succ]
                          refine wpAnyH_take (i := 21) (oi := { dst := some 97, op := Op.load 31 (Operand.tmp 96), type := 31, pos := "ref.go:140", after := #[{ on := 20, ground := Ground.data }, { on := 13, ground := Ground.guard }], guard := some (13, false) }) (v := undef) rfl (by kernel_rfl) (by kernel_rfl) (by kernel_rfl) (fun _ _ _ h => h) (Or.inr ⟨by rfl, rfl⟩) (by assumption) ?_
                          try simp only [Act.put, List.setIfInBounds_toArray, List.set_cons_zero, List.set_cons_succ]
                          refine wpAnyH_take (i := 22) (oi := { dst := some 98, op := Op.move (Operand.tmp 5), type := 3, pos := "ref.go:140", after := #[{ on := 13, ground := Ground.guard }], guard := some (13, false) }) (v := undef) rfl (by kernel_rfl) (by kernel_rfl) (by kernel_rfl) (fun _ _ _ h => h) (Or.inr ⟨by rfl, rfl⟩) (by assumption) ?_
                          try simp only [Act.put, List.setIfInBounds_toArray, List.set_cons_zero, List.set_cons_succ]
                          refine wpAnyH_take (i := 23) (oi := { dst := some 99, op := Op.indexAddr 31 (Operand.tmp 97) (Operand.tmp 98), type := 0, pos := "ref.go:140", after := #[{ on := 21, ground := Ground.data }, { on := 22, ground := Ground.data }, { on := 13, ground := Ground.guard }], guard := some (13, false) }) (v := undef) rfl (by kernel_rfl) (by kernel_rfl) (by kernel_rfl) (fun _ _ _ h => h) (Or.inr ⟨by rfl, rfl⟩) (by assumption) ?_
                          try simp only [Act.put, List.setIfInBounds_toArray, List.set_cons_zero, List.set_cons_succ]
                          refine wpAnyH_take (i := 24) (oi := { dst := some 100, op := Op.fieldAddr 73 (Operand.tmp 99) 1, type := 0, pos := "ref.go:140", after := #[{ on := 23, ground := Ground.data }, { on := 13, ground := Ground.guard }], guard := some (13, false) }) (v := undef) rfl (by kernel_rfl) (by kernel_rfl) (by kernel_rfl) (fun _ _ _ h => h) (Or.inr ⟨by rfl, rfl⟩) (by assumption) ?_
                          try simp only [Act.put, List.setIfInBounds_toArray, List.set_cons_zero, List.set_cons_succ]
                          refine wpAnyH_take (i := 25) (oi := { dst := some 101, op := Op.load 71 (Operand.tmp 100), type := 71, pos := "ref.go:140", after := #[{ on := 24, ground := Ground.data }, { on := 13, ground := Ground.guard }], guard := some (13, false) }) (v := undef) rfl (by kernel_rfl) (by kernel_rfl) (by kernel_rfl) (fun _ _ _ h => h) (Or.inr ⟨by rfl, rfl⟩) (by assumption) ?_
                          try simp only [Act.put, List.setIfInBounds_toArray, List.set_cons_zero, List.set_cons_succ]
                          refine wpAnyH_ready (rs := [26]) (by kernel_rfl) (by simp) ?_
                          refine AllReadyH.cons (o := { dst := some 102, op := Op.call { callee := Callee.value (Operand.func 47), args := #[Operand.tmp 95, Operand.tmp 101], argTypes := #[71, 71] }, type := 4, pos := "ref.go:140", after := #[{ on := 19, ground := Ground.data }, { on := 25, ground := Ground.data }, { on := 13, ground := Ground.chain }, { on := 13, ground := Ground.guard }], guard := some (13, false) }) rfl (fun K hK => ?_) AllReadyH.nil
                          refine not_wanted (by rfl) ?_
                          clear hHeld
                          refine hK.out _ _ ⟨(HN.out _ hE2.now).1, hE2⟩ (fun hHeld => ?_)
                          clear hK K
                          try simp only [Act.put, List.setIfInBounds_toArray, List.set_cons_zero, List.set_cons_succ]
                          refine wpAnyH_take (i := 27) (oi := { dst := some 103, op := Op.unOp UnOp.not 4 (Operand.tmp 102), type := 4, pos := "ref.go:140", after := #[{ on := 26, ground := Ground.data }, { on := 13, ground := Ground.guard }], guard := some (13, false) }) (v := undef) rfl (by kernel_rfl) (by kernel_rfl) (by kernel_rfl) (fun _ _ _ h => h) (Or.inr ⟨by rfl, rfl⟩) (by assumption) ?_
                          try simp only [Act.put, List.setIfInBounds_toArray, List.set_cons_zero, List.set_cons_succ]
                          refine wpAnyH_take (i := 28) (oi := { dst := some 104, op := Op.pick (Operand.tmp 89) (Operand.const (Value.bool true)) (Operand.tmp 103), type := 4, pos := "ref.go:140", after := #[{ on := 13, ground := Ground.data }, { on := 27, ground := Ground.data }], guard := none }) (v := ?_) rfl (by kernel_rfl) (by kernel_rfl) (by kernel_rfl) (fun _ _ _ h => h) (Or.inl ⟨by rfl, ?_⟩) (by assumption) ?_
                          rotate_left
                          · intro w hSw; (try dsimp only at hSw); first | (go_simp; done) | (go_simp; with_reducible rfl)
                          try simp only [Act.put, List.setIfInBounds_toArray, List.set_cons_zero, List.set_cons_succ]
                          refine wpAnyH_done (by kernel_rfl) ?_ _
                          refine NoPanic.normal ?_
                          have HB2 := Lib.hid (HN.out _ hE2.now).2.2.2
                          clear hE2
                          go_wp2
                          go_ret
                          refine ⟨ret_b ?_, HBX.out.trans ((HBR.out.trans (HB2.out.mono HBR.out.size)).mono HBX.out.size)⟩
                          rw [HB.out, decP_no]
                          intro e
                          have h1 := HK.out
                          have h2 := HK'.out
                          rw [← HX.out] at h1
                          rw [← HY.out] at h2
                          have e9 : f.m.its = g.m.its := (fm_eq.1 e).2.2.2.2.2.2.2.2
                          rw [e9, h2] at h1
                          injection h1 with h1
                          exact HNE.out h1
                      · clear hbr
                        go_wp2
                        go_ret
                        refine ⟨ret_b ?_, HBX.out.trans (HBR.out.mono HBX.out.size)⟩
                        rw [HB.out, decP_yes]
                        have h1 := HTK.out
                        rw [List.take_of_length_le (by rw [List.length_map]; have := HLI.out; omega), List.take_of_length_le (by rw [List.length_map]; have := HLG.out; have := HNN.out; omega)] at h1
                        exact fm_eq.2 ⟨Hh1.out, Hh2.out, Hh3.out, Hh4.out, Hh5.out, Hh6.out, Hh7.out, HL.out, h1⟩
                  · have hnI : ((f.ni : Int) != (g.ni : Int)) = true := by simp; omega
                    have HNN := Lib.hid hn; clear hn
                    go_wp2
                    go_ret
                    refine ⟨ret_b ?_, HBX.out⟩
                    rw [HB.out, decP_no]
                    intro x
                    have e9 : f.ks.map Ik.it = g.ks.map Ik.it := (fm_eq.1 x).2.2.2.2.2.2.2.2
                    have := congrArg List.length e9
                    rw [List.length_map, List.length_map] at this
                    have := HLI.out
                    have := HLG.out
                    have := HNN.out
                    omega
                · rw [show sameR f.L g.L = false from by cases hs : sameR f.L g.L with | false => rfl | true => exact absurd ((sameR_iff _ _).1 hs) hL]
                  have HL := Lib.hid hL; clear hL
                  go_wp2
                  go_ret
                  refine ⟨ret_b ?_, HBX.out⟩
                  rw [HB.out, decP_no]
                  exact fun x => HL.out (fm_eq.1 x).2.2.2.2.2.2.2.1
              · have h7I : ((f.li : Int) != (g.li : Int)) = true := by simp; omega
                have Hh7 := Lib.hid h7; clear h7
                go_enter Tryd.func23, Tryd.ntmps23
                go_wp2
                go_ret
                refine ⟨ret_b ?_, (below_box w _).alloc (by simp) _⟩
                rw [HB.out, decP_no]
                intro x
                obtain ⟨k1, k2, k3, k4, k5, k6, k7, _, _⟩ := fm_eq.1 x
                exact Hh7.out (by first | exact k1 | exact k2 | exact k3 | exact k4 | exact k5 | exact k6 | exact k7)
            · have h6I : ((f.cu : Int) != (g.cu : Int)) = true := by simp; omega
              have Hh6 := Lib.hid h6; clear h6
              go_enter Tryd.func23, Tryd.ntmps23
              go_wp2
              go_ret
              refine ⟨ret_b ?_, (below_box w _).alloc (by simp) _⟩
              rw [HB.out, decP_no]
              intro x
              obtain ⟨k1, k2, k3, k4, k5, k6, k7, _, _⟩ := fm_eq.1 x
              exact Hh6.out (by first | exact k1 | exact k2 | exact k3 | exact k4 | exact k5 | exact k6 | exact k7)
          · have h5I : ((f.ba : Int) != (g.ba : Int)) = true := by simp; omega
            have Hh5 := Lib.hid h5; clear h5
            go_enter Tryd.func23, Tryd.ntmps23
            go_wp2
            go_ret
            refine ⟨ret_b ?_, (below_box w _).alloc (by simp) _⟩
            rw [HB.out, decP_no]
            intro x
            obtain ⟨k1, k2, k3, k4, k5, k6, k7, _, _⟩ := fm_eq.1 x
            exact Hh5.out (by first | exact k1 | exact k2 | exact k3 | exact k4 | exact k5 | exact k6 | exact k7)
        · have h4I : ((f.ic : Int) != (g.ic : Int)) = true := by simp; omega
          have Hh4 := Lib.hid h4; clear h4
          go_enter Tryd.func23, Tryd.ntmps23
          go_wp2
          go_ret
          refine ⟨ret_b ?_, (below_box w _).alloc (by simp) _⟩
          rw [HB.out, decP_no]
          intro x
          obtain ⟨k1, k2, k3, k4, k5, k6, k7, _, _⟩ := fm_eq.1 x
          exact Hh4.out (by first | exact k1 | exact k2 | exact k3 | exact k4 | exact k5 | exact k6 | exact k7)
      · have h3I : ((f.ep : Int) != (g.ep : Int)) = true := by simp; omega
        have Hh3 := Lib.hid h3; clear h3
        go_enter Tryd.func23, Tryd.ntmps23
        go_wp2
        go_ret
        refine ⟨ret_b ?_, (below_box w _).alloc (by simp) _⟩
        rw [HB.out, decP_no]
        intro x
        obtain ⟨k1, k2, k3, k4, k5, k6, k7, _, _⟩ := fm_eq.1 x
        exact Hh3.out (by first | exact k1 | exact k2 | exact k3 | exact k4 | exact k5 | exact k6 | exact k7)
    · have h2I : (f.ag != g.ag) = true := by simp [h2]
      have Hh2 := Lib.hid h2; clear h2
      go_enter Tryd.func23, Tryd.ntmps23
      go_wp2
      go_ret
      refine ⟨ret_b ?_, (below_box w _).alloc (by simp) _⟩
      rw [HB.out, decP_no]
      intro x
      obtain ⟨k1, k2, k3, k4, k5, k6, k7, _, _⟩ := fm_eq.1 x
      exact Hh2.out (by first | exact k1 | exact k2 | exact k3 | exact k4 | exact k5 | exact k6 | exact k7)
  · have h1I : ((f.kd : Int) != (g.kd : Int)) = true := by simp; omega
    have Hh1 := Lib.hid h1; clear h1
    go_enter Tryd.func23, Tryd.ntmps23
    go_wp2
    go_ret
    refine ⟨ret_b ?_, (below_box w _).alloc (by simp) _⟩
    rw [HB.out, decP_no]
    intro x
    obtain ⟨k1, k2, k3, k4, k5, k6, k7, _, _⟩ := fm_eq.1 x
    exact Hh1.out (by first | exact k1 | exact k2 | exact k3 | exact k4 | exact k5 | exact k6 | exact k7)
end Go.Proofs.YtlkcnpmgafckoaaDoor
