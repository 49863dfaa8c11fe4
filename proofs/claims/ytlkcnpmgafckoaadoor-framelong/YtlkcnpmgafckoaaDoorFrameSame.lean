/-
  CONTRACTS of layer 5: Same.
  No statement is proved here.
-/
import Derived.Test.YtlkcnpmgafckoaaDoorFrameOne
namespace Go.Proofs.YtlkcnpmgafckoaaDoor
open Go.RowKit

theorem sameB_iff (l l' : List UInt8) : sameB l l' = true ↔ l = l' := by unfold sameB; simp
theorem sameS_iff (C C' : Int) (l l' : List UInt8) : sameS C l C' l' = true ↔ C = C' ∧ l = l' := by unfold sameS; simp [sameB_iff]
theorem it_eq {a b : It} : a = b ↔ a.N = b.N ∧ a.C = b.C ∧ a.b = b.b := by
  cases a; cases b; simp
set_option maxRecDepth 100000 in
set_option maxHeartbeats 400000 in
theorem sameItem_any (w : World) (a b : Ik) (ha : Sl w w.heap.size a.q.A a.q.n a.q.c a.q.l) (hb : Sl w w.heap.size b.q.A b.q.n b.q.c b.q.l) :
    Calls Tryd.prog 33 #[.agg #[.int .u64 (a.N : Int), .int .i64 a.C, .slice a.q.A a.q.n a.q.c], .agg #[.int .u64 (b.N : Int), .int .i64 b.C, .slice b.q.A b.q.n b.q.c]] w (Says w (.bool (decP (a.it = b.it)))) := by
  have HA := Lib.hid ha
  have HB := Lib.hid hb
  clear ha hb
  obtain ⟨bo, HBO⟩ : ∃ bo, Hid (bo = decP (a.it = b.it)) := ⟨_, rfl⟩
  rw [← HBO.out]
  by_cases hN : a.N = b.N
  · have hNI : ((a.N : Int) == (b.N : Int)) = true := by simp [hN]
    have HN := Lib.hid hN; clear hN
    go_enter Tryd.func33, Tryd.ntmps33
    go_wp2_with fail
    have hc := spanSame_any ((w.alloc (.cells #[.int .u64 (a.N : Int), .int .i64 a.C, .slice a.q.A a.q.n a.q.c] 58)).alloc (.cells #[.int .u64 (b.N : Int), .int .i64 b.C, .slice b.q.A b.q.n b.q.c] 58)) a.C b.C a.q.A b.q.A a.q.n a.q.c b.q.n b.q.c a.q.l b.q.l ((HA.out.onA _).onA _) ((HB.out.onA _).onA _)
    unfold spv at hc
    refine hc.mono ?_
    rintro e w2 ⟨rfl, hb2⟩
    clear hc
    go_wp2
    go_ret
    refine ⟨ret_b ?_, ((below_box w _).alloc (by simp) _).trans (hb2.mono (by simp; omega))⟩
    rw [HBO.out, ← eq_decP]
    rw [sameS_iff, it_eq]
    exact ⟨fun h => ⟨HN.out, h⟩, fun h => h.2⟩
  · have hNI : ((a.N : Int) == (b.N : Int)) = false := by simp; omega
    have HN := Lib.hid hN; clear hN
    go_enter Tryd.func33, Tryd.ntmps33
    go_wp2
    go_ret
    refine ⟨ret_b ?_, (below_box w _).alloc (by simp) _⟩
    rw [HBO.out, decP_no]
    intro h
    exact HN.out (congrArg It.N h)

def EqRel (w : World) (xs ys : List It) (gk : Nat) (i : Value) (wr : World) : Prop :=
  ∃ j : Nat, gk + j = xs.length ∧ i = .int .i64 (j : Int) ∧ xs.take j = ys.take j ∧ Below w.heap.size w wr
theorem take_more {α : Type} {xs ys : List α} {j : Nat} {x y : α} (h : xs.take j = ys.take j) (hx : xs[j]? = some x) (hy : ys[j]? = some y) (e : x = y) : xs.take (j + 1) = ys.take (j + 1) := by
  rw [List.take_add_one, List.take_add_one, hx, hy, h, e]
set_option maxRecDepth 100000 in
set_option maxHeartbeats 800000 in
theorem eqItems_any (w : World) (A A' : Option Addr) (n c n' c' : Nat) (ks ks' : List Ik) (h : Itms w w.heap.size A n c ks) (h' : Itms w w.heap.size A' n' c' ks') :
    Calls Tryd.prog 32 #[.slice A n c, .slice A' n' c', .func (Fn.func 33) #[] #[]] w (Says w (.bool (decP (ks.map Ik.it = ks'.map Ik.it)))) := by
  obtain ⟨xs, HX⟩ : ∃ xs, Hid (xs = ks.map Ik.it) := ⟨_, rfl⟩
  obtain ⟨ys, HY⟩ : ∃ ys, Hid (ys = ks'.map Ik.it) := ⟨_, rfl⟩
  rw [← HX.out, ← HY.out]
  obtain ⟨bo, HBO⟩ : ∃ bo, Hid (bo = decP (xs = ys)) := ⟨_, rfl⟩
  rw [← HBO.out]
  have HXL : Hid (xs.length = n) := by show _ = _; rw [HX.out, List.length_map, h.len]
  have HYL : Hid (ys.length = n') := by show _ = _; rw [HY.out, List.length_map, h'.len]
  have H := Lib.hid h
  have H' := Lib.hid h'
  have hl1 := h.le
  have hm1 := h.max
  have hl2 := h'.le
  have hm2 := h'.max
  unfold maxLen at hm1 hm2
  clear h h'
  by_cases hn : n = n'
  · subst hn
    go_enter Tryd.func32, Tryd.ntmps32
    go_wp2
    go_loopg [17] n (fun gk i wr => EqRel w xs ys gk i wr)
    case atStart => exact ⟨0, by have := HXL.out; omega, rfl, rfl, Below.refl _ _⟩
    case round =>
      obtain ⟨j, hj, rfl, htk, hbel⟩ := hrel
      have HJ := Lib.hid hj
      have HTK := Lib.hid htk
      have HB := Lib.hid hbel
      clear hj htk
      by_cases hlt : j < n
      · obtain ⟨b, o, k, rfl, hbb, hk, c0, c1, c2, hs, _⟩ := H.out.at_ hlt
        obtain ⟨b', o', k', rfl, hbb', hk', c0', c1', c2', hs', _⟩ := H'.out.at_ hlt
        have d0 := (hbel.cell (p := ⟨b, o + j * 3, none⟩) hbb).trans c0
        have d1 := (hbel.cell (p := ⟨b, o + j * 3 + 1, none⟩) hbb).trans c1
        have d2 := (hbel.cell (p := ⟨b, o + j * 3 + 2, none⟩) hbb).trans c2
        have d0' := (hbel.cell (p := ⟨b', o' + j * 3, none⟩) hbb').trans c0'
        have d1' := (hbel.cell (p := ⟨b', o' + j * 3 + 1, none⟩) hbb').trans c1'
        have d2' := (hbel.cell (p := ⟨b', o' + j * 3 + 2, none⟩) hbb').trans c2'
        have hz1 : b < wr.heap.size := Nat.lt_of_lt_of_le hbb hbel.size
        have hz2 : b' < wr.heap.size := Nat.lt_of_lt_of_le hbb' hbel.size
        have HS := Lib.hid ((hs.below hbel (Nat.le_refl _)).more hbel.size)
        have HS' := Lib.hid ((hs'.below hbel (Nat.le_refl _)).more hbel.size)
        have HK : Hid (xs[j]? = some k.it) := by show _ = _; rw [HX.out, List.getElem?_map, hk]; rfl
        have HK' : Hid (ys[j]? = some k'.it) := by show _ = _; rw [HY.out, List.getElem?_map, hk']; rfl
        clear c0 c1 c2 c0' c1' c2' hs hs' hk hk' hbel hbb hbb'
        go_wp2_with fail
        have hc := sameItem_any ((wr.alloc (.cells #[.int .u64 (k.N : Int), .int .i64 k.C, .slice k.q.A k.q.n k.q.c] 58)).alloc (.cells #[.int .u64 (k'.N : Int), .int .i64 k'.C, .slice k'.q.A k'.q.n k'.q.c] 58)) k k' ((HS.out.onA _).onA _) ((HS'.out.onA _).onA _)
        refine hc.mono ?_
        rintro e w2 ⟨rfl, hb2⟩
        have HB2 : Hid (Below wr.heap.size wr w2) := ((below_box wr _).alloc (by simp) _).trans (hb2.mono (by simp; omega))
        clear hc hb2 d0 d1 d2 d0' d1' d2'
        by_cases hq : k.it = k'.it
        · rw [decP_yes hq]
          have HQ := Lib.hid hq; clear hq
          go_wp2
          go_roundg (gk - 1)
          case measure => have := HJ.out; have := HXL.out; omega
          case rel => exact ⟨j + 1, by have := HJ.out; have := HXL.out; omega, by go_num, take_more HTK.out HK.out HK'.out HQ.out, HB.out.trans (HB2.out.mono HB.out.size)⟩
        · rw [decP_no hq]
          have HQ := Lib.hid hq; clear hq
          go_wp2
          go_ret
          refine ⟨ret_b ?_, HB.out.trans (HB2.out.mono HB.out.size)⟩
          rw [HBO.out, decP_no]
          intro e
          have h1 := HK.out
          rw [e, HK'.out] at h1
          injection h1 with h1
          exact HQ.out h1.symm
      · clear hbel
        go_wp2
        go_ret
        refine ⟨ret_b ?_, HB.out⟩
        rw [HBO.out, decP_yes]
        have h1 := HTK.out
        rw [List.take_of_length_le (by have := HXL.out; omega), List.take_of_length_le (by have := HYL.out; omega)] at h1
        exact h1
  · have hnI : ((n : Int) != (n' : Int)) = true := by simp; omega
    have HN := Lib.hid hn; clear hn
    go_enter Tryd.func32, Tryd.ntmps32
    go_wp2
    go_ret
    refine ⟨ret_b ?_, Below.refl _ _⟩
    rw [HBO.out, decP_no]
    intro e
    have e1 := HXL.out
    have e2 := HYL.out
    rw [e] at e1
    have := HN.out
    omega

theorem fm_eq {a b : Fm} : a = b ↔ a.kd = b.kd ∧ a.ag = b.ag ∧ a.ep = b.ep ∧ a.ic = b.ic ∧ a.ba = b.ba ∧ a.cu = b.cu ∧ a.li = b.li ∧ a.L = b.L ∧ a.its = b.its := by
  cases a; cases b; simp
theorem sameR_iff (l l' : List Rn) : sameR l l' = true ↔ l = l' := by unfold sameR; simp
set_option maxRecDepth 100000 in
set_option maxHeartbeats 1000000 in
theorem sameF_any (w : World) (f g : Fv) (h : FrAt w f) (h' : FrAt w g) :
    Calls Tryd.prog 15 #[f.v, g.v] w (Says w (.bool (decP (f.m = g.m)))) := by
  obtain ⟨b, HB⟩ : ∃ b, Hid (b = decP (f.m = g.m)) := ⟨_, rfl⟩
  rw [← HB.out]
  have HF := Lib.hid h
  have HG := Lib.hid h'
  clear h h'
  unfold Fv.v
  by_cases h1 : f.kd = g.kd
  · have h1I : ((f.kd : Int) == (g.kd : Int)) = true := by simp [h1]
    have Hh1 := Lib.hid h1; clear h1
    by_cases h2 : f.ag = g.ag
    · have h2I : (f.ag == g.ag) = true := by simp [h2]
      have Hh2 := Lib.hid h2; clear h2
      by_cases h3 : f.ep = g.ep
      · have h3I : ((f.ep : Int) == (g.ep : Int)) = true := by simp [h3]
        have Hh3 := Lib.hid h3; clear h3
        by_cases h4 : f.ic = g.ic
        · have h4I : ((f.ic : Int) == (g.ic : Int)) = true := by simp [h4]
          have Hh4 := Lib.hid h4; clear h4
          by_cases h5 : f.ba = g.ba
          · have h5I : ((f.ba : Int) == (g.ba : Int)) = true := by simp [h5]
            have Hh5 := Lib.hid h5; clear h5
            by_cases h6 : f.cu = g.cu
            · have h6I : ((f.cu : Int) == (g.cu : Int)) = true := by simp [h6]
              have Hh6 := Lib.hid h6; clear h6
              by_cases h7 : f.li = g.li
              · have h7I : ((f.li : Int) == (g.li : Int)) = true := by simp [h7]
                have Hh7 := Lib.hid h7; clear h7
                go_enter Tryd.func15, Tryd.ntmps15
                go_wp2_with fail
                have hbx : Below w.heap.size w ((w.alloc f.box).alloc g.box) := (below_box w f.box).alloc (by simp) _
                have hb0 := heap_alloc_new w f.box
                have hk0 : ((w.alloc f.box).alloc g.box).heap[w.heap.size]? = some f.box := (Below.heap_alloc (w.alloc f.box) g.box _ (by simp)).trans hb0
                have hk1 : ((w.alloc f.box).alloc g.box).heap[w.heap.size + 1]? = some g.box := by have := heap_alloc_new (w.alloc f.box) g.box; simpa using this
                have hz : w.heap.size + 1 < ((w.alloc f.box).alloc g.box).heap.size := by simp
                generalize (w.alloc f.box).alloc g.box = wb at *
                refine (eqR_any wb wb.heap.size f.Ar g.Ar f.nr f.cr g.nr g.cr f.L g.L (HF.out.on hbx).rs (HG.out.on hbx).rs).mono ?_
                rintro e w2 ⟨rfl, q, rfl⟩
                have HBX := Lib.hid hbx
                have j8 : wb.cell? ⟨w.heap.size, 8, none⟩ = some (.slice f.Ai f.ni f.ci) := by rw [cell_of_row wb _ 8 _ _ _ hk0]; rfl
                have j9 : wb.cell? ⟨w.heap.size + 1, 8, none⟩ = some (.slice g.Ai g.ni g.ci) := by rw [cell_of_row wb _ 8 _ _ _ hk1]; rfl
                clear hk0 hk1 hb0
                by_cases hL : f.L = g.L
                · rw [show sameR f.L g.L = true from (sameR_iff _ _).2 hL]
                  have HL := Lib.hid hL; clear hL
                  go_wp2_with fail
                  refine (eqItems_any _ f.Ai g.Ai f.ni f.ci g.ni g.ci f.ks g.ks ((HF.out.on hbx).drewN q).it ((HG.out.on hbx).drewN q).it).mono ?_
                  rintro e w3 ⟨rfl, hb3⟩
                  have HB3 := Lib.hid hb3
                  clear hbx hb3
                  go_wp2
                  go_ret
                  refine ⟨ret_b ?_, (below_drewN HBX.out q).trans (HB3.out.mono HBX.out.size)⟩
                  rw [HB.out]
                  exact decP_congr ⟨fun x => fm_eq.2 ⟨Hh1.out, Hh2.out, Hh3.out, Hh4.out, Hh5.out, Hh6.out, Hh7.out, HL.out, x⟩, fun x => (fm_eq.1 x).2.2.2.2.2.2.2.2⟩
                · rw [show sameR f.L g.L = false from by cases hs : sameR f.L g.L with | false => rfl | true => exact absurd ((sameR_iff _ _).1 hs) hL]
                  have HL := Lib.hid hL; clear hL hbx
                  go_wp2
                  go_ret
                  refine ⟨ret_b ?_, below_drewN HBX.out q⟩
                  rw [HB.out, decP_no]
                  exact fun x => HL.out (fm_eq.1 x).2.2.2.2.2.2.2.1
              · have h7I : ((f.li : Int) == (g.li : Int)) = false := by simp; omega
                have Hh7 := Lib.hid h7; clear h7
                go_enter Tryd.func15, Tryd.ntmps15
                go_wp2
                go_ret
                refine ⟨ret_b ?_, (below_box w _).alloc (by simp) _⟩
                rw [HB.out, decP_no]
                intro x
                obtain ⟨k1, k2, k3, k4, k5, k6, k7, _, _⟩ := fm_eq.1 x
                exact Hh7.out (by first | exact k1 | exact k2 | exact k3 | exact k4 | exact k5 | exact k6 | exact k7)
            · have h6I : ((f.cu : Int) == (g.cu : Int)) = false := by simp; omega
              have Hh6 := Lib.hid h6; clear h6
              go_enter Tryd.func15, Tryd.ntmps15
              go_wp2
              go_ret
              refine ⟨ret_b ?_, (below_box w _).alloc (by simp) _⟩
              rw [HB.out, decP_no]
              intro x
              obtain ⟨k1, k2, k3, k4, k5, k6, k7, _, _⟩ := fm_eq.1 x
              exact Hh6.out (by first | exact k1 | exact k2 | exact k3 | exact k4 | exact k5 | exact k6 | exact k7)
          · have h5I : ((f.ba : Int) == (g.ba : Int)) = false := by simp; omega
            have Hh5 := Lib.hid h5; clear h5
            go_enter Tryd.func15, Tryd.ntmps15
            go_wp2
            go_ret
            refine ⟨ret_b ?_, (below_box w _).alloc (by simp) _⟩
            rw [HB.out, decP_no]
            intro x
            obtain ⟨k1, k2, k3, k4, k5, k6, k7, _, _⟩ := fm_eq.1 x
            exact Hh5.out (by first | exact k1 | exact k2 | exact k3 | exact k4 | exact k5 | exact k6 | exact k7)
        · have h4I : ((f.ic : Int) == (g.ic : Int)) = false := by simp; omega
          have Hh4 := Lib.hid h4; clear h4
          go_enter Tryd.func15, Tryd.ntmps15
          go_wp2
          go_ret
          refine ⟨ret_b ?_, (below_box w _).alloc (by simp) _⟩
          rw [HB.out, decP_no]
          intro x
          obtain ⟨k1, k2, k3, k4, k5, k6, k7, _, _⟩ := fm_eq.1 x
          exact Hh4.out (by first | exact k1 | exact k2 | exact k3 | exact k4 | exact k5 | exact k6 | exact k7)
      · have h3I : ((f.ep : Int) == (g.ep : Int)) = false := by simp; omega
        have Hh3 := Lib.hid h3; clear h3
        go_enter Tryd.func15, Tryd.ntmps15
        go_wp2
        go_ret
        refine ⟨ret_b ?_, (below_box w _).alloc (by simp) _⟩
        rw [HB.out, decP_no]
        intro x
        obtain ⟨k1, k2, k3, k4, k5, k6, k7, _, _⟩ := fm_eq.1 x
        exact Hh3.out (by first | exact k1 | exact k2 | exact k3 | exact k4 | exact k5 | exact k6 | exact k7)
    · have h2I : (f.ag == g.ag) = false := by simp [h2]
      have Hh2 := Lib.hid h2; clear h2
      go_enter Tryd.func15, Tryd.ntmps15
      go_wp2
      go_ret
      refine ⟨ret_b ?_, (below_box w _).alloc (by simp) _⟩
      rw [HB.out, decP_no]
      intro x
      obtain ⟨k1, k2, k3, k4, k5, k6, k7, _, _⟩ := fm_eq.1 x
      exact Hh2.out (by first | exact k1 | exact k2 | exact k3 | exact k4 | exact k5 | exact k6 | exact k7)
  · have h1I : ((f.kd : Int) == (g.kd : Int)) = false := by simp; omega
    have Hh1 := Lib.hid h1; clear h1
    go_enter Tryd.func15, Tryd.ntmps15
    go_wp2
    go_ret
    refine ⟨ret_b ?_, (below_box w _).alloc (by simp) _⟩
    rw [HB.out, decP_no]
    intro x
    obtain ⟨k1, k2, k3, k4, k5, k6, k7, _, _⟩ := fm_eq.1 x
    exact Hh1.out (by first | exact k1 | exact k2 | exact k3 | exact k4 | exact k5 | exact k6 | exact k7)
end Go.Proofs.YtlkcnpmgafckoaaDoor
