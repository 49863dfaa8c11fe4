/-
  CONTRACT of layer 5: a frame's runs are judged.
  No statement is proved here.
-/
import Derived.Test.YtlkcnpmgafckoaaDoorFrameOne
namespace Go.Proofs.YtlkcnpmgafckoaaDoor
open Go.RowKit

theorem runs_yes {m : Fm} {r0 r1 : Rn} (hl : m.L.length ≤ 32) (hc : Canon m.L) (h0 : m.L[0]? = some r0) (h1 : m.L[m.L.length - 1]? = some r1) (ha : m.cu + 2 ≤ r0.1) (hb : r1.2 ≤ m.li) : RunsP m :=
  .inr ⟨hl, hc, fun r hr => by rw [h0] at hr; injection hr with hr; subst hr; exact ha, fun r hr => by rw [h1] at hr; injection hr with hr; subst hr; exact hb⟩
theorem runs_no {m : Fm} {r0 r1 : Rn} (h0 : m.L[0]? = some r0) (h1 : m.L[m.L.length - 1]? = some r1) (h : RunsP m) : Canon m.L ∧ m.cu + 2 ≤ r0.1 ∧ r1.2 ≤ m.li := by
  rcases h with h | ⟨_, h2, h3, h4⟩
  · rw [h] at h0; simp at h0
  · exact ⟨h2, h3 r0 h0, h4 r1 h1⟩

set_option maxRecDepth 100000 in
set_option maxHeartbeats 1000000 in
theorem rightRuns_any (w : World) (f : Fv) (h : FrAt w f) :
    Calls Tryd.prog 78 #[f.v] w (Says w (.bool (decP (RunsP f.m)))) := by
  obtain ⟨mm, HMM⟩ : ∃ mm, Hid (mm = f.m) := ⟨_, rfl⟩
  obtain ⟨b, HB⟩ : ∃ b, Hid (b = decP (RunsP mm)) := ⟨_, rfl⟩
  rw [← HMM.out, ← HB.out]
  obtain ⟨kd, ag, ep, ic, ba, cu, li, Ar, nr, cr, L, Ai, ni, ci, ks⟩ := f
  have hrs : Rs w w.heap.size Ar nr cr L := h.rs
  have hcu : cu < two64 := h.cu
  have hli : li < two64 := h.li
  clear h
  unfold two64 at hcu hli
  unfold Fv.v
  dsimp only
  have hln := hrs.len
  have hmx := hrs.sn.max
  have hle := hrs.sn.le
  unfold maxLen at hmx
  have HL := Lib.hid hln; clear hln
  have HR := Lib.hid hrs; clear hrs
  have HML : Hid (mm.L = L ∧ mm.cu = cu ∧ mm.li = li) := by have e := HMM.out; subst e; exact ⟨rfl, rfl, rfl⟩
  clear HMM
  rcases nr with _ | m
  · go_enter Tryd.func78, Tryd.ntmps78
    go_wp2
    go_ret
    refine ⟨ret_b ?_, below_box w _⟩
    rw [HB.out, decP_yes]
    exact .inl (by rw [HML.out.1]; exact List.eq_nil_of_length_eq_zero HL.out)
  by_cases h32 : 32 < m + 1
  · have h32I : (32 : Int) < (m : Int) + 1 := by omega
    have H32 := Lib.hid h32; clear h32
    go_enter Tryd.func78, Tryd.ntmps78
    go_wp2
    go_ret
    refine ⟨ret_b ?_, below_box w _⟩
    rw [HB.out, decP_no]
    have e1 := HL.out
    have e2 := H32.out
    rintro (e | e)
    · rw [HML.out.1] at e; rw [e] at e1; simp at e1
    · have e3 := e.1
      rw [HML.out.1] at e3
      omega
  have h32I : ¬ (32 : Int) < (m : Int) + 1 := by omega
  have H32 := Lib.hid h32; clear h32
  obtain ⟨bb, o, r0, rfl, hbb, hr0, c00, c01, l00, l01⟩ := HR.out.at_ (j := 0) (by omega)
  obtain ⟨bb', o', r1, ea', _, hr1, c10, c11, l10, l11⟩ := HR.out.at_ (j := m) (by omega)
  injection ea' with ea'
  injection ea' with e1 e2
  subst e1 e2
  rw [Nat.zero_mul, Nat.add_zero] at c00 c01
  unfold two64 at l00 l01 l10 l11
  have HR0 : Hid (mm.L[0]? = some r0) := by show _ = _; rw [HML.out.1]; exact hr0
  have HR1 : Hid (mm.L[mm.L.length - 1]? = some r1) := by show _ = _; rw [HML.out.1, HL.out]; exact hr1
  clear hr0 hr1
  obtain ⟨r00, r01⟩ := r0
  obtain ⟨r10, r11⟩ := r1
  dsimp only at c00 c01 c10 c11 l00 l01 l10 l11
  go_enter Tryd.func78, Tryd.ntmps78
  go_wp2_with fail
  have hbx := below_box w (.cells #[.int .u8 (kd : Int), .int .i64 ag, .int .u64 (ep : Int), .int .u64 (ic : Int), .int .u64 (ba : Int), .int .u64 (cu : Int), .int .u64 (li : Int), .slice (some ⟨bb, o, none⟩) (m + 1) cr, .slice Ai ni ci] 26)
  have hzb : w.heap.size < (w.alloc (.cells #[.int .u8 (kd : Int), .int .i64 ag, .int .u64 (ep : Int), .int .u64 (ic : Int), .int .u64 (ba : Int), .int .u64 (cu : Int), .int .u64 (li : Int), .slice (some ⟨bb, o, none⟩) (m + 1) cr, .slice Ai ni ci] 26)).heap.size := by simp
  have hcl : ∀ i, (w.alloc (.cells #[.int .u8 (kd : Int), .int .i64 ag, .int .u64 (ep : Int), .int .u64 (ic : Int), .int .u64 (ba : Int), .int .u64 (cu : Int), .int .u64 (li : Int), .slice (some ⟨bb, o, none⟩) (m + 1) cr, .slice Ai ni ci] 26)).cell? ⟨w.heap.size, i, none⟩ = #[Value.int .u8 (kd : Int), .int .i64 ag, .int .u64 (ep : Int), .int .u64 (ic : Int), .int .u64 (ba : Int), .int .u64 (cu : Int), .int .u64 (li : Int), .slice (some ⟨bb, o, none⟩) (m + 1) cr, .slice Ai ni ci][i]? := fun i => cell_last w _ _ _ _ rfl
  generalize (w.alloc (.cells #[.int .u8 (kd : Int), .int .i64 ag, .int .u64 (ep : Int), .int .u64 (ic : Int), .int .u64 (ba : Int), .int .u64 (cu : Int), .int .u64 (li : Int), .slice (some ⟨bb, o, none⟩) (m + 1) cr, .slice Ai ni ci] 26)) = wb at *
  refine (make_any wb _ _ _ L (HR.out.on hbx (Nat.le_refl _)) (by omega)).mono ?_
  intro e w2 hm
  have hx : ∃ A n c bo, e = .returned (.tuple #[.agg #[.slice A n c], .bool bo]) ∧ (bo = true ↔ Canon L) ∧ Below wb.heap.size wb w2 := by
    rcases hm with ⟨hcan, A, n, c, rfl, -, -, hb2⟩ | ⟨hcan, rfl, hb2⟩
    · exact ⟨_, _, _, true, rfl, by simp [hcan], hb2⟩
    · exact ⟨_, _, _, false, rfl, by simp [hcan], hb2⟩
  obtain ⟨A, n, c, bo, rfl, hbo, hb2⟩ := hx
  have HBO := Lib.hid hbo
  clear hm hbo
  go_wp2_with fail
  have hbw : Below w.heap.size w (w2.alloc (.cells #[.slice A n c] 131)) := (hbx.trans (hb2.mono (Nat.le_of_lt hzb))).alloc (by have := hb2.size; omega) _
  have hzb2 : w.heap.size < (w2.alloc (.cells #[.slice A n c] 131)).heap.size := Nat.lt_of_lt_of_le hzb (Nat.le_trans hb2.size (by simp))
  have hcl2 : ∀ i, (w2.alloc (.cells #[.slice A n c] 131)).cell? ⟨w.heap.size, i, none⟩ = wb.cell? ⟨w.heap.size, i, none⟩ := fun i => (World.cell?_alloc_lt w2 _ ⟨w.heap.size, i, none⟩ (Nat.lt_of_lt_of_le hzb hb2.size)).trans (hb2.cell (p := ⟨w.heap.size, i, none⟩) hzb)
  generalize (w2.alloc (.cells #[.slice A n c] 131)) = w3 at *
  have q5 : w3.cell? ⟨w.heap.size, 5, none⟩ = some (.int .u64 (cu : Int)) := (hcl2 5).trans (hcl 5)
  have q6 : w3.cell? ⟨w.heap.size, 6, none⟩ = some (.int .u64 (li : Int)) := (hcl2 6).trans (hcl 6)
  have q7 : w3.cell? ⟨w.heap.size, 7, none⟩ = some (.slice (some ⟨bb, o, none⟩) (m + 1) cr) := (hcl2 7).trans (hcl 7)
  have d00 := (hbw.cell (p := ⟨bb, o, none⟩) hbb).trans c00
  have d01 := (hbw.cell (p := ⟨bb, o + 1, none⟩) hbb).trans c01
  have d10 := (hbw.cell (p := ⟨bb, o + m * 2, none⟩) hbb).trans c10
  have d11 := (hbw.cell (p := ⟨bb, o + m * 2 + 1, none⟩) hbb).trans c11
  have hbb3 : bb < w3.heap.size := by omega
  clear hcl hcl2 c00 c01 c10 c11 hb2 hbx
  obtain ⟨g, hg⟩ : ∃ g, g = w.heap.size := ⟨_, rfl⟩
  rw [← hg] at hzb2 q5 q6 q7 ⊢
  have HG := Lib.hid hg
  have HBW := Lib.hid hbw
  clear hg hbw
  have hbe : ∀ o1 o2, Below w.heap.size w ((w3.alloc o1).alloc o2).drew := fun o1 o2 => (((HBW.out.alloc (by rw [← HG.out]; omega) o1).alloc (by rw [← HG.out]; simp; omega) o2).drew)
  have HBE := Lib.hid hbe
  clear hbe
  go_region
  all_goals (
    rcases bo with _ | _
    all_goals go_wp2
    all_goals (
      go_ret
      refine ⟨ret_b ?_, HBE.out _ _⟩
      rw [HB.out]
      first
        | (refine (decP_no fun hx => ?_).symm
           obtain ⟨k1, k2, k3⟩ := runs_no HR0.out HR1.out hx
           rw [HML.out.1] at k1
           rw [HML.out.2.1] at k2
           rw [HML.out.2.2] at k3
           first
             | omega
             | (have h9 := HBO.out.2 k1; simp at h9))
        | (refine eq_decP ⟨fun hx => runs_yes (by rw [HML.out.1, HL.out]; have := H32.out; omega) (by rw [HML.out.1]; have := HBO.out; simpa using this) HR0.out HR1.out (by rw [HML.out.2.1]; show cu + 2 ≤ r00; omega) (by rw [HML.out.2.2]; show r11 ≤ li; simp at hx; omega), fun hx => ?_⟩
           obtain ⟨k1, k2, k3⟩ := runs_no HR0.out HR1.out hx
           rw [HML.out.2.2] at k3
           simp
           omega)))
end Go.Proofs.YtlkcnpmgafckoaaDoor
