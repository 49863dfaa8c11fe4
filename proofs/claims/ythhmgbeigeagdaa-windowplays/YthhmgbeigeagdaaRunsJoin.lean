/-
  CONTRACTS of join, slices.Grow, Union, Span.
  No statement is proved here.
-/
import Derived.Test.YthhmgbeigeagdaaRunsOne
import Derived.RegionTactic
import Derived.BigRegion
namespace Go.Proofs.Ythhmgbeigeagdaa
open Go.RowKit

theorem run_info : (Try.prog.info? 48).map (fun i => (i.zero, i.size, i.bytes)) = some (some (.agg #[.int .u64 0, .int .u64 0]), 2, 16) := by kernel_rfl
/-- A row of runs of one's own. -/
def Own (w : World) (base : Nat) (A : Option Addr) (n c : Nat) (L : List Rn) : Prop := w.ownsRow base 48 2 (.slice A n c) n (rvs L)
def SaysOwn (w : World) (base : Nat) (L : List Rn) (e : Ending) (w' : World) : Prop := ∃ A n c, e = .returned (.slice A n c) ∧ Own w' base A n c L ∧ Below base w w'

theorem rv_one (r : Rn) : ∀ u ∈ rv r, u.oneCell' = true := by have := rvs_one [r]; rwa [rvs_one1] at this

theorem only_below' {a b : World} (h : Below a.heap.size a b) : a.grownBy b none := ⟨h.os, h.tape, h.output, h.size, fun i hi _ => h.block i hi⟩

theorem own_setN {w : World} {base g n c k : Nat} {e : TypeId} {xs : List Value} (h : w.ownsRow base e k (.slice (some ⟨g, 0, none⟩) n c) n xs) (j : Nat) (u : Value) :
    (w.setCell ⟨g, j, none⟩ u).ownsRow base e k (.slice (some ⟨g, 0, none⟩) n c) n (xs.set j u) := by
  refine ⟨by rw [List.length_set]; exact h.1, ?_⟩
  rcases h.2 with ⟨hv, _⟩ | ⟨g', cap, cur, hv, hbg, hg, hnc, hcm, hcs, ht⟩
  · cases hv
  · injection hv with e1 e2 e3
    injection e1 with e1
    injection e1 with e1
    subst e1 e3
    refine .inr ⟨g, c, cur.setIfInBounds j u, rfl, hbg, ?_, hnc, hcm, by simpa using hcs, ?_⟩
    · simp [World.setCell, Array.getElem?_modify, hg]
    · rw [Array.toList_setIfInBounds, List.take_set, ht]
theorem own_setTo {w : World} {base g m c : Nat} {M : List Rn} {l : Rn} (h : Own w base (some ⟨g, 0, none⟩) (m + 1) c (M ++ [l])) (hm : M.length = m) (v : Nat) :
    Own ((w.setCell ⟨g, m * 2 + 1, none⟩ (.int .u64 (v : Int))).drew) base (some ⟨g, 0, none⟩) (m + 1) c (M ++ [(l.1, v)]) := by
  have h1 := own_setN h (m * 2 + 1) (.int .u64 (v : Int))
  have e : (rvs (M ++ [l])).set (m * 2 + 1) (.int .u64 (v : Int)) = rvs (M ++ [(l.1, v)]) := by
    have hl := rvs_len M
    rw [rvs_app, rvs_app, rvs_one1, rvs_one1, List.set_append_right _ _ (by omega), hl, hm, show m * 2 + 1 - m * 2 = 1 from by omega]
    rfl
  rw [e] at h1
  exact h1

set_option maxHeartbeats 800000 in
theorem join_any_nil (w : World) (base : Nat) (A : Option Addr) (c : Nat) (r : Rn) (h : Own w base A 0 c []) (hB : base ≤ w.heap.size) :
    Calls Try.prog 38 #[.slice A 0 c, rnv r] w (SaysOwn w base [r]) := by
  unfold rnv
  have H := Lib.hid h
  clear h
  obtain ⟨i0, hi0, hz0, hz1, hz2⟩ := info_parts run_info
  go_enter Try.func38, Try.ntmps38
  go_wp2_with fail
  go_quiet (fail)
  have hc0 : ((w.alloc (Obj.cells #[.int .u64 (r.1 : Int), .int .u64 (r.2 : Int)] 48)).drewN nq).cell? ⟨w.heap.size, 0, none⟩ = some (.int .u64 (r.1 : Int)) := cell_last w _ _ _ 0 rfl
  have hc1 : ((w.alloc (Obj.cells #[.int .u64 (r.1 : Int), .int .u64 (r.2 : Int)] 48)).drewN nq).cell? ⟨w.heap.size, 1, none⟩ = some (.int .u64 (r.2 : Int)) := cell_last w _ _ _ 1 rfl
  have hd : DstN ((w.alloc (Obj.cells #[.int .u64 (r.1 : Int), .int .u64 (r.2 : Int)] 48)).drewN nq) base 48 A 0 c 2 (rvs []) := (DstN.alloc (.inr H.out) _).drewN nq
  have hbx : Below base w ((w.alloc (Obj.cells #[.int .u64 (r.1 : Int), .int .u64 (r.2 : Int)] 48)).drewN nq) := below_drewN ((below_box w _).mono hB) nq
  have hown : ((w.alloc (Obj.cells #[.int .u64 (r.1 : Int), .int .u64 (r.2 : Int)] 48)).drewN nq).ownsRow base 48 2 (.slice A 0 c) 0 (rvs []) := H.out.alloc _
  have hz2' : base ≤ ((w.alloc (Obj.cells #[.int .u64 (r.1 : Int), .int .u64 (r.2 : Int)] 48)).drewN nq).heap.size := by simp; omega
  generalize (w.alloc (Obj.cells #[.int .u64 (r.1 : Int), .int .u64 (r.2 : Int)] 48)).drewN nq = w2 at *
  go_wp2_with (at_builtin; refine wpList_append_dstN _ rfl (.tmp 19) (.tmp 21) 26 26 rfl base 48 i0 _ 2 16 Try.underlying26 hi0 hz0 hz1 hz2 rfl A 0 c (rvs []) rfl (hd.alloc _) _ 1 (rv r) rfl ((lit_sn w2 _ (rv r) 1 2 rfl (by unfold maxLen; omega)).src Try.underlying26 (rv_one r)) (by omega) (by omega) (by simp; omega) ?_; intro A3 c3 w3 h1 h2 h3 h4 h5 _)
  go_ret
  exact ⟨A3, 0 + 1, c3, rfl, by have := h2 (by omega); rwa [show rvs [] ++ rv r = rvs [r] from by simp [rvs]] at this, hbx.trans (((below_box w2 _).mono hz2').trans h4)⟩

set_option maxHeartbeats 800000 in
theorem join_any_far (w : World) (base g m c : Nat) (M : List Rn) (l r : Rn) (hl : l.1 < two64 ∧ l.2 < two64) (hr : r.1 < two64 ∧ r.2 < two64) (hm : M.length = m) (hmb : m ≤ 100000) (h : Own w base (some ⟨g, 0, none⟩) (m + 1) c (M ++ [l])) (hB : base ≤ w.heap.size) (hf : l.2 + 1 < r.1) :
    Calls Try.prog 38 #[.slice (some ⟨g, 0, none⟩) (m + 1) c, rnv r] w (SaysOwn w base (M ++ [l] ++ [r])) := by
  unfold rnv
  have H := Lib.hid h
  have hlast : (M ++ [l])[m]? = some l := by rw [List.getElem?_append_right (by omega)]; simp [hm]
  obtain ⟨x0, x1⟩ := rvs_at hlast
  have hq0 := h.cells (g := g) rfl _ _ x0
  have hq1 := h.cells (g := g) rfl _ _ x1
  rw [add_plain, Nat.zero_add] at hq0 hq1
  have hgw := (h.lt g rfl).2
  clear h x0 x1 hlast
  obtain ⟨i0, hi0, hz0, hz1, hz2⟩ := info_parts run_info
  go_enter Try.func38, Try.ntmps38
  go_wp2_with fail
  have hE : Ever (fun w' => (w'.cell? ⟨g, m * 2, none⟩ = some (.int .u64 (l.1 : Int)) ∧ w'.cell? ⟨g, m * 2 + 1, none⟩ = some (.int .u64 (l.2 : Int)) ∧ w'.cell? ⟨w.heap.size, 0, none⟩ = some (.int .u64 (r.1 : Int)) ∧ w'.cell? ⟨w.heap.size, 1, none⟩ = some (.int .u64 (r.2 : Int))) ∧ Own w' base (some ⟨g, 0, none⟩) (m + 1) c (M ++ [l]) ∧ Below base w w' ∧ base ≤ w'.heap.size) (w.alloc (Obj.cells #[.int .u64 (r.1 : Int), .int .u64 (r.2 : Int)] 48)) := by
    intro w' hw
    have hb : Below w.heap.size w w' := (below_box w (Obj.cells #[.int .u64 (r.1 : Int), .int .u64 (r.2 : Int)] 48)).trans (hw.mono (by simp))
    exact ⟨⟨(hb.cell (p := ⟨g, m * 2, none⟩) hgw).trans hq0, (hb.cell (p := ⟨g, m * 2 + 1, none⟩) hgw).trans hq1, ever_cell (cell_last w _ _ _ 0 rfl) _ hw, ever_cell (cell_last w _ _ _ 1 rfl) _ hw⟩,
      H.out.kept (only_below' hb) (by cases (Value.slice (some ⟨g, 0, none⟩) (m + 1) c).ownBlock <;> simp), hb.mono hB, Nat.le_trans hB hb.size⟩
  obtain ⟨Ps, HP⟩ : ∃ Ps : World → Prop, Hid (Ps = fun w' => (w'.cell? ⟨g, m * 2, none⟩ = some (.int .u64 (l.1 : Int)) ∧ w'.cell? ⟨g, m * 2 + 1, none⟩ = some (.int .u64 (l.2 : Int)) ∧ w'.cell? ⟨w.heap.size, 0, none⟩ = some (.int .u64 (r.1 : Int)) ∧ w'.cell? ⟨w.heap.size, 1, none⟩ = some (.int .u64 (r.2 : Int))) ∧ Own w' base (some ⟨g, 0, none⟩) (m + 1) c (M ++ [l]) ∧ Below base w w' ∧ base ≤ w'.heap.size) := ⟨_, rfl⟩
  have HN : Hid (∀ w', Ps w' → (w'.cell? ⟨g, m * 2, none⟩ = some (.int .u64 (l.1 : Int)) ∧ w'.cell? ⟨g, m * 2 + 1, none⟩ = some (.int .u64 (l.2 : Int)) ∧ w'.cell? ⟨w.heap.size, 0, none⟩ = some (.int .u64 (r.1 : Int)) ∧ w'.cell? ⟨w.heap.size, 1, none⟩ = some (.int .u64 (r.2 : Int))) ∧ Own w' base (some ⟨g, 0, none⟩) (m + 1) c (M ++ [l]) ∧ Below base w w' ∧ base ≤ w'.heap.size) := by rw [HP.out]; exact fun _ h => h
  replace hE : Ever Ps (w.alloc (Obj.cells #[.int .u64 (r.1 : Int), .int .u64 (r.2 : Int)] 48)) := by rw [HP.out]; exact hE
  have hE2 := hE.drewN 1
  have hneg : decide ((m : Int) < 0) = false := by simp
  have hm0 : (0 : Int) ≤ (m : Int) := by omega
  have hm1 : (m : Int) < (m : Int) + 1 := by omega
  clear hE HP hq0 hq1 hgw
  have HA : Hid (∀ w', Ps w' → Calls Try.prog 48 #[.agg #[.int .u64 (l.1 : Int), .int .u64 (l.2 : Int)], .agg #[.int .u64 (r.1 : Int), .int .u64 (r.2 : Int)]] w' (Says w' (.bool true))) := fun w' _ => by
    have h := apart_any w' l r hl hr
    rw [show apartB l r = true from by simp [apartB, hf]] at h
    exact h
  generalize w.alloc (Obj.cells #[.int .u64 (r.1 : Int), .int .u64 (r.2 : Int)] 48) = wb at *
  go_region_held3 (fun w' => (w'.cell? ⟨g, m * 2, none⟩ = some (.int .u64 (l.1 : Int)) ∧ w'.cell? ⟨g, m * 2 + 1, none⟩ = some (.int .u64 (l.2 : Int)) ∧ w'.cell? ⟨w.heap.size, 0, none⟩ = some (.int .u64 (r.1 : Int)) ∧ w'.cell? ⟨w.heap.size, 1, none⟩ = some (.int .u64 (r.2 : Int))) ∧ Ever Ps w') (first | exact ⟨(HN.out _ hE2.now).1, hE2⟩) (first
    | (go_at_call 48; with_reducible refine calls_ever (Ps := Ps) (by assumption) HA.out ?_; clear hE2; intro w2 hE2))
  obtain ⟨⟨_, _, hc0, hc1⟩, hown, hbw, hzb⟩ := HN.out _ hE2.now
  have hd : DstN w2 base 48 (some ⟨g, 0, none⟩) (m + 1) c 2 (rvs (M ++ [l])) := .inr hown
  have HD := Lib.hid hd
  clear hd hown hE2 HN HA
  go_wp2_with (at_builtin; refine wpList_append_dstN _ rfl (.tmp 19) (.tmp 21) 26 26 rfl base 48 i0 _ 2 16 Try.underlying26 hi0 hz0 hz1 hz2 rfl (some ⟨g, 0, none⟩) (m + 1) c (rvs (M ++ [l])) rfl (HD.out.alloc _) _ 1 (rv r) rfl ((lit_sn w2 _ (rv r) 1 2 rfl (by unfold maxLen; omega)).src Try.underlying26 (rv_one r)) (by omega) (by omega) (by simp; omega) ?_; intro A3 c3 w3 h1 h2 h3 h4 h5 _)
  go_ret
  exact ⟨A3, m + 1 + 1, c3, rfl, by have := h2 (by omega); rwa [← rvs_one1, ← rvs_app] at this, hbw.trans (((below_box w2 _).mono hzb).trans h4)⟩

set_option maxHeartbeats 800000 in
theorem join_any_near (w : World) (base g m c : Nat) (M : List Rn) (l r : Rn) (hl : l.1 < two64 ∧ l.2 < two64) (hr : r.1 < two64 ∧ r.2 < two64) (hm : M.length = m) (hmb : m ≤ 100000) (h : Own w base (some ⟨g, 0, none⟩) (m + 1) c (M ++ [l])) (hB : base ≤ w.heap.size) (hf : ¬ l.2 + 1 < r.1) :
    Calls Try.prog 38 #[.slice (some ⟨g, 0, none⟩) (m + 1) c, rnv r] w (SaysOwn w base (M ++ [(l.1, max l.2 r.2)])) := by
  unfold rnv
  have H := Lib.hid h
  have hlast : (M ++ [l])[m]? = some l := by rw [List.getElem?_append_right (by omega)]; simp [hm]
  obtain ⟨x0, x1⟩ := rvs_at hlast
  have hq0 := h.cells (g := g) rfl _ _ x0
  have hq1 := h.cells (g := g) rfl _ _ x1
  rw [add_plain, Nat.zero_add] at hq0 hq1
  have hgw := (h.lt g rfl).2
  clear h x0 x1 hlast
  go_enter Try.func38, Try.ntmps38
  go_wp2_with fail
  have hE : Ever (fun w' => (w'.cell? ⟨g, m * 2, none⟩ = some (.int .u64 (l.1 : Int)) ∧ w'.cell? ⟨g, m * 2 + 1, none⟩ = some (.int .u64 (l.2 : Int)) ∧ w'.cell? ⟨w.heap.size, 0, none⟩ = some (.int .u64 (r.1 : Int)) ∧ w'.cell? ⟨w.heap.size, 1, none⟩ = some (.int .u64 (r.2 : Int))) ∧ Own w' base (some ⟨g, 0, none⟩) (m + 1) c (M ++ [l]) ∧ Below base w w' ∧ base ≤ w'.heap.size) (w.alloc (Obj.cells #[.int .u64 (r.1 : Int), .int .u64 (r.2 : Int)] 48)) := by
    intro w' hw
    have hb : Below w.heap.size w w' := (below_box w (Obj.cells #[.int .u64 (r.1 : Int), .int .u64 (r.2 : Int)] 48)).trans (hw.mono (by simp))
    exact ⟨⟨(hb.cell (p := ⟨g, m * 2, none⟩) hgw).trans hq0, (hb.cell (p := ⟨g, m * 2 + 1, none⟩) hgw).trans hq1, ever_cell (cell_last w _ _ _ 0 rfl) _ hw, ever_cell (cell_last w _ _ _ 1 rfl) _ hw⟩,
      H.out.kept (only_below' hb) (by cases (Value.slice (some ⟨g, 0, none⟩) (m + 1) c).ownBlock <;> simp), hb.mono hB, Nat.le_trans hB hb.size⟩
  obtain ⟨Ps, HP⟩ : ∃ Ps : World → Prop, Hid (Ps = fun w' => (w'.cell? ⟨g, m * 2, none⟩ = some (.int .u64 (l.1 : Int)) ∧ w'.cell? ⟨g, m * 2 + 1, none⟩ = some (.int .u64 (l.2 : Int)) ∧ w'.cell? ⟨w.heap.size, 0, none⟩ = some (.int .u64 (r.1 : Int)) ∧ w'.cell? ⟨w.heap.size, 1, none⟩ = some (.int .u64 (r.2 : Int))) ∧ Own w' base (some ⟨g, 0, none⟩) (m + 1) c (M ++ [l]) ∧ Below base w w' ∧ base ≤ w'.heap.size) := ⟨_, rfl⟩
  have HN : Hid (∀ w', Ps w' → (w'.cell? ⟨g, m * 2, none⟩ = some (.int .u64 (l.1 : Int)) ∧ w'.cell? ⟨g, m * 2 + 1, none⟩ = some (.int .u64 (l.2 : Int)) ∧ w'.cell? ⟨w.heap.size, 0, none⟩ = some (.int .u64 (r.1 : Int)) ∧ w'.cell? ⟨w.heap.size, 1, none⟩ = some (.int .u64 (r.2 : Int))) ∧ Own w' base (some ⟨g, 0, none⟩) (m + 1) c (M ++ [l]) ∧ Below base w w' ∧ base ≤ w'.heap.size) := by rw [HP.out]; exact fun _ h => h
  replace hE : Ever Ps (w.alloc (Obj.cells #[.int .u64 (r.1 : Int), .int .u64 (r.2 : Int)] 48)) := by rw [HP.out]; exact hE
  have hE2 := hE.drewN 1
  have hneg : decide ((m : Int) < 0) = false := by simp
  have hm0 : (0 : Int) ≤ (m : Int) := by omega
  have hm1 : (m : Int) < (m : Int) + 1 := by omega
  clear hE HP hq0 hq1 hgw
  have HA : Hid (∀ w', Ps w' → Calls Try.prog 48 #[.agg #[.int .u64 (l.1 : Int), .int .u64 (l.2 : Int)], .agg #[.int .u64 (r.1 : Int), .int .u64 (r.2 : Int)]] w' (Says w' (.bool false))) := fun w' _ => by
    have h := apart_any w' l r hl hr
    rw [show apartB l r = false from by simp [apartB, hf]] at h
    exact h
  generalize w.alloc (Obj.cells #[.int .u64 (r.1 : Int), .int .u64 (r.2 : Int)] 48) = wb at *
  go_region_held3 (fun w' => (w'.cell? ⟨g, m * 2, none⟩ = some (.int .u64 (l.1 : Int)) ∧ w'.cell? ⟨g, m * 2 + 1, none⟩ = some (.int .u64 (l.2 : Int)) ∧ w'.cell? ⟨w.heap.size, 0, none⟩ = some (.int .u64 (r.1 : Int)) ∧ w'.cell? ⟨w.heap.size, 1, none⟩ = some (.int .u64 (r.2 : Int))) ∧ Ever Ps w') (first | exact ⟨(HN.out _ hE2.now).1, hE2⟩) (first
    | (go_at_call 48; with_reducible refine calls_ever (Ps := Ps) (by assumption) HA.out ?_; clear hE2; intro w2 hE2))
  obtain ⟨⟨hc2, hc3, hc0, hc1⟩, hown, hbw, hzb⟩ := HN.out _ hE2.now
  have hfz : ∀ i, w2.frozen? ⟨g, i, none⟩ = false := fun i => hown.frozenAt i
  have hfz1 := hfz (m * 2 + 1)
  have HD := Lib.hid hown
  have HG := Lib.hid (hown.lt g rfl).1
  clear hown hE2 HN HA hfz
  go_wp2_with fail
  go_region
  go_wp2
  all_goals go_ret
  · have e : max l.2 r.2 = r.2 := by omega
    rw [e]
    exact ⟨some ⟨g, 0, none⟩, m + 1, c, rfl, (own_setTo HD.out hm r.2), (hbw.setCell HG.out _).drew⟩
  · have e : max l.2 r.2 = l.2 := by omega
    rw [e]
    exact ⟨some ⟨g, 0, none⟩, m + 1, c, rfl, (own_setTo HD.out hm l.2), (hbw.setCell HG.out _).drew⟩

/-- JOIN. -/
theorem join_any' (w : World) (base : Nat) (A : Option Addr) (n c : Nat) (L : List Rn) (r : Rn) (hL : ∀ q ∈ L, q.1 < two64 ∧ q.2 < two64) (hr : r.1 < two64 ∧ r.2 < two64) (hn : n ≤ 100000) (h : Own w base A n c L) (hB : base ≤ w.heap.size) :
    Calls Try.prog 38 #[.slice A n c, rnv r] w (SaysOwn w base (joinL L r)) := by
  have hlen : L.length = n := by have := h.1; rw [rvs_len] at this; omega
  rcases List.eq_nil_or_concat L with rfl | ⟨M, l, rfl⟩
  · obtain rfl : n = 0 := by simpa using hlen.symm
    rw [joinL_nil]
    exact join_any_nil w base A c r h hB
  · rw [List.concat_eq_append] at h hL hlen ⊢
    have hl := hL l (List.mem_append_right _ (List.mem_singleton.2 rfl))
    obtain ⟨g, cap, hv, -, -⟩ := h.form (by rw [← hlen]; simp)
    injection hv with hA _ hc
    subst hA
    obtain rfl : n = M.length + 1 := by rw [← hlen]; simp
    by_cases hf : l.2 + 1 < r.1
    · rw [joinL_far hf]
      exact join_any_far w base g M.length c M l r hl hr rfl (by omega) h hB hf
    · rw [joinL_near hf]
      exact join_any_near w base g M.length c M l r hl hr rfl (by omega) h hB hf

/-! ### slices.Grow -/
theorem run_append_zeros {P : Program} (w : World) (t tx ty e : TypeId) (k : IntKind) (i : TypeInfo) (z : Value) (ht : P.underlying t = some (.slice e)) (hx : P.underlying tx = some (.int k)) (hi : P.info? e = some i) (hz : i.zero = some z) (n : Nat) (hn : 0 < n) (hsz : 0 < i.size) (hb : n * i.bytes ≤ 140737488355328) (h63 : n ≤ 140737488355328) :
    (Builtin.append_ #[t, tx] ty #[.slice none 0 0, .int .i64 (n : Int)]).run P w =
      .ok (.slice (some ⟨w.heap.size, 0, none⟩) n (grownCap w n 0 e)) (w.drew.alloc (.cells (Builtin.zeroCells z.cells n ++ Builtin.zeroCells z.cells (grownCap w n 0 e - n)) e)) := by
  have hw : IntKind.i64.wrap (n : Int) = (n : Int) := by rw [IntKind.wrap_i64]; omega
  have h1 : ¬ ((n : Int) < 0) := by omega
  have h2 : ¬ (281474976710656 < (n : Int) * (i.bytes : Int)) := by
    have : (n : Int) * (i.bytes : Int) = ((n * i.bytes : Nat) : Int) := by simp
    rw [this]; omega
  have h3 : ¬ n ≤ 0 := by omega
  have h4 : ¬ (n = 0) := by omega
  have h5 : ¬ (n * i.size = 0) := by
    have := Nat.mul_pos hn hsz
    omega
  have h6 : ¬ (9223372036854775807 < (n : Int)) := by omega
  have h7 : Builtin.nextslicecap n 0 * i.bytes ≤ 281474976710656 := growslice_fits (by omega) hb
  have hmx : max (n : Int) 0 = (n : Int) := by omega
  have h8 : ¬ (281474976710656 < Builtin.nextslicecap n 0 * i.bytes) := by omega
  simp [Builtin.append_, run_underlying ht, run_underlying hx, sizeOf, typeInfo, zeroValue, hi, hz, hw, h2, h4, h5, h6, h8, asInt, asIntOf, hmx, Question.forced, Builtin.firstCells, newRow, grownCap]
  intro h
  omega

set_option maxRecDepth 100000 in
set_option maxHeartbeats 400000 in
theorem grow_any (w : World) (n : Nat) (hn : n ≤ 100000) : Calls Try.prog 52 #[.slice none 0 0, .int .i64 (n : Int)] w (SaysOwn w w.heap.size []) := by
  rcases Nat.eq_zero_or_pos n with rfl | hp
  · go_enter Try.func52, Try.ntmps52
    go_wp2
    go_ret
    exact ⟨none, 0, 0, rfl, ⟨rfl, .inl ⟨rfl, rfl⟩⟩, Below.refl _ _⟩
  · obtain ⟨i0, hi0, hz0, hz1, hz2⟩ := info_parts run_info
    have hap := run_append_zeros (P := Try.prog) w 26 3 26 48 .i64 i0 (.agg #[.int .u64 0, .int .u64 0]) Try.underlying26 Try.underlying3 hi0 hz0 n hp (by omega) (by rw [hz2]; omega) (by omega)
    have hge := grownCap_ge w n 0 48
    have hle := grownCap_le_maxLen w n 0 48 (by unfold maxLen; omega)
    have hle' := hle
    unfold maxLen at hle'
    have hpI : (0 : Int) < (n : Int) := by omega
    have hpN : ¬ (n : Int) < 0 := by omega
    generalize grownCap w n 0 48 = cap at *
    have HAP := Lib.hid hap
    clear hap
    go_enter Try.func52, Try.ntmps52
    go_wp2_with (at_builtin; refine wpList_append_run _ rfl (.tmp 20) (.tmp 21) 26 3 rfl _ _ _ _ rfl rfl HAP.out ?_)
    go_ret
    refine ⟨_, 0, cap, rfl, ⟨rfl, .inr ⟨w.heap.size, cap, _, rfl, Nat.le_refl _, heap_alloc_new w.drew _, Nat.zero_le _, hle, ?_, rfl⟩⟩, ((Below.refl _ _).drew).alloc (Nat.le_refl _) _⟩
    rw [Array.size_append, size_zeroCells, size_zeroCells]
    show n * 2 + (cap - n) * 2 = cap * 2
    omega

/-! ### Union -/
theorem frz_row {w : World} {r i : Nat} {cs : Array Value} {t : TypeId} (h : w.heap[r]? = some (.cells cs t (0, 0))) : w.frozen? ⟨r, i, none⟩ = false := by simp [World.frozen?, h]
theorem set_grown (w : World) (g i : Nat) (u : Value) : w.grownBy (w.setCell ⟨g, i, none⟩ u) (some g) :=
  ⟨rfl, rfl, rfl, by simp [World.setCell], fun k _ hne => Below.heap_setCell w ⟨g, i, none⟩ u k (fun e => hne (by rw [e]))⟩
theorem own_ne {w : World} {base : Nat} {e : TypeId} {k : Nat} {v : Value} {n g : Nat} {xs : List Value} (h : w.ownsRow base e k v n xs) (hg : g < base) : v.ownBlock = none ∨ v.ownBlock ≠ some g := by
  refine .inr fun hv => ?_
  have := (h.lt g hv).1
  omega
def UnionRel (w4 : World) (B base : Nat) (tot : List Rn) (gk : Nat) (a b l : Value) (wr : World) : Prop :=
  ∃ (Aa Ab Al : Option Addr) (na ca nb cb nl cl : Nat) (La Lb acc : List Rn), gk = na + nb ∧ a = .slice Aa na ca ∧ b = .slice Ab nb cb ∧ l = .slice Al nl cl ∧ Rs wr B Aa na ca La ∧ Rs wr B Ab nb cb Lb ∧ Own wr base Al nl cl acc ∧
    tot = unionGo acc La Lb ∧ (∀ q ∈ acc, q.1 < two64 ∧ q.2 < two64) ∧ nl + na + nb ≤ 2000 ∧ Below base w4 wr ∧ base ≤ wr.heap.size
theorem Rs.first {w : World} {B : Nat} {A : Option Addr} {n c : Nat} {L : List Rn} (h : Rs w B A n c L) (hn : 0 < n) :
    ∃ b o x X, A = some ⟨b, o, none⟩ ∧ b < B ∧ L = x :: X ∧ w.cell? ⟨b, o, none⟩ = some (.int .u64 (x.1 : Int)) ∧ w.cell? ⟨b, o + 1, none⟩ = some (.int .u64 (x.2 : Int)) ∧ x.1 < two64 ∧ x.2 < two64 := by
  obtain ⟨b, o, r, e, hb, hr, h0, h1, h2, h3⟩ := h.at_ hn
  rcases L with _ | ⟨x, X⟩
  · simp at hr
  · simp at hr
    subst hr
    exact ⟨b, o, x, X, e, hb, rfl, by simpa using h0, by simpa using h1, h2, h3⟩
theorem Rs.rest {w : World} {B b o n c : Nat} {x : Rn} {X : List Rn} (h : Rs w B (some ⟨b, o, none⟩) n c (x :: X)) (hn : 0 < n) (hc : c ≠ 1) : Rs w B (some ⟨b, o + 2, none⟩) (n - 1) (c - 1) X := by
  have := h.drop (m := 1) hn
  rw [if_neg hc] at this
  simpa [add_plain] using this
theorem Rs.rest1 {w : World} {B n : Nat} {A : Option Addr} {x : Rn} {X : List Rn} (h : Rs w B A n 1 (x :: X)) (hn : 0 < n) : Rs w B A (n - 1) 0 X := by
  have := h.drop (m := 1) hn
  rw [if_pos rfl] at this
  simpa using this

set_option maxRecDepth 100000 in
set_option maxHeartbeats 1000000 in
theorem union_any (w : World) (A A' : Option Addr) (n c n' c' : Nat) (L L' : List Rn) (h : Rs w w.heap.size A n c L) (h' : Rs w w.heap.size A' n' c' L') (hn : n + n' ≤ 1000) :
    Calls Try.prog 44 #[.agg #[.slice A n c], .agg #[.slice A' n' c']] w (SaysS w 0 (unionL L L')) := by
  have H := Lib.hid h
  have H' := Lib.hid h'
  clear h h'
  obtain ⟨tot, HT⟩ : ∃ tot, Hid (tot = unionL L L') := ⟨_, rfl⟩
  rw [← HT.out]
  go_enter Try.func44, Try.ntmps44
  go_wp2_with fail
  go_quiet (fail)
  go_wp2_with fail
  have hb3 : Below w.heap.size w ((((w.alloc (Obj.cells #[.slice A n c] 28)).alloc (Obj.cells #[.slice A' n' c'] 28)).alloc (Obj.cells #[.slice none 0 0] 28)).drewN nq) := below_drewN (((below_box w _).alloc (by simp) _).alloc (by simp; omega) _) nq
  have hR : ((((w.alloc (Obj.cells #[.slice A n c] 28)).alloc (Obj.cells #[.slice A' n' c'] 28)).alloc (Obj.cells #[.slice none 0 0] 28)).drewN nq).heap[w.heap.size + 1 + 1]? = some (.cells #[.slice none 0 0] 28 (0, 0)) := by
    have := heap_alloc_new ((w.alloc (Obj.cells #[.slice A n c] 28)).alloc (Obj.cells #[.slice A' n' c'] 28)) (Obj.cells #[.slice none 0 0] 28)
    simpa using this
  have hz3 : w.heap.size + 1 + 1 < ((((w.alloc (Obj.cells #[.slice A n c] 28)).alloc (Obj.cells #[.slice A' n' c'] 28)).alloc (Obj.cells #[.slice none 0 0] 28)).drewN nq).heap.size := by simp
  generalize ((((w.alloc (Obj.cells #[.slice A n c] 28)).alloc (Obj.cells #[.slice A' n' c'] 28)).alloc (Obj.cells #[.slice none 0 0] 28)).drewN nq) = w3 at *
  have e : ((n : Int) + (n' : Int)) = ((n + n' : Nat) : Int) := by omega
  rw [e]
  clear e
  refine (grow_any w3 (n + n') (by omega)).mono ?_
  rintro e w4 ⟨A4, n4, c4, rfl, hown4, hb4⟩
  have hn4 : n4 = 0 := by have := hown4.1; rw [rvs_len] at this; simp at this; omega
  subst hn4
  have hR4 := (hb4.block _ hz3).trans hR
  have hb4w : Below w.heap.size w w4 := hb3.trans (hb4.mono (by omega))
  have hs4 : Rs w4 w.heap.size A n c L := H.out.below hb4w (Nat.le_refl _)
  have hs4' : Rs w4 w.heap.size A' n' c' L' := H'.out.below hb4w (Nat.le_refl _)
  have hz4 := hb4.size
  clear hb3 hR hb4 H H'
  generalize w3.heap.size = base at *
  go_wp2
  go_loopg [5, 6, 7] (n + n') (fun gk a b l wr => UnionRel w4 w.heap.size base tot gk a b l wr)
  case atStart => exact ⟨A, A', A4, n, c, n', c', 0, c4, L, L', [], rfl, rfl, rfl, rfl, hs4, hs4', hown4, HT.out, fun q hq => (by cases hq), by omega, Below.refl _ _, hz4⟩
  case round =>
    clear hs4 hs4' hown4
    obtain ⟨Aa, Ab, Al, na, ca, nb, cb, nl, cl, La, Lb, acc, hgk, rfl, rfl, rfl, hsa, hsb, hown, htot, hacc, hlen, hbel, hzr⟩ := hrel
    have HGK := Lib.hid hgk
    clear hgk
    by_cases hpos : 0 < na + nb
    · have hposI : (0 : Int) < (na : Int) + (nb : Int) := by omega
      have HOL : Hid (acc.length = nl) := by show _ = _; have := hown.1; rw [rvs_len] at this; omega
      by_cases ha : na = 0
      · subst ha
        obtain ⟨b, o, x, X, rfl, hbb, rfl, hc0, hc1, hx1, hx2⟩ := hsb.first (by omega)
        have hnil : La = [] := List.eq_nil_of_length_eq_zero hsa.len
        subst hnil
        have HTOT : Hid (tot = unionGo (joinL acc x) X []) := by show _ = _; rw [htot, unionGo]
        have HSX := Lib.hid hsb
        have HSY := Lib.hid hsa
        have hbI : (0 : Int) < (nb : Int) := by omega
        clear hsa hsb htot
        go_wp2_with fail
        go_quiet (fail)
        have hjo := join_any' (wr.drewN nq) base Al nl cl acc x hacc ⟨hx1, hx2⟩ (by omega) hown hzr
        unfold rnv at hjo
        have HJ := Lib.hid hjo
        clear hjo
        go_wp2_with fail
        refine HJ.out.mono ?_
        rintro e w5 ⟨A5, n5, c5, rfl, hown5, hb5⟩
        have hb5' : Below base w4 w5 := hbel.trans ((below_drewN (Below.refl _ _) nq).trans hb5)
        have hs5 : Rs w5 w.heap.size (some ⟨b, o, none⟩) nb cb (x :: X) := (HSX.out.drewN nq).below hb5 (by omega)
        have ht5 : Rs w5 w.heap.size Aa 0 ca [] := (HSY.out.drewN nq).below hb5 (by omega)
        have HL5 : Hid (n5 = (joinL acc x).length) := by show _ = _; have := hown5.1; rw [rvs_len] at this; omega
        have hl6 := (joinL_len acc x).1
        have hcx := hs5.sn.le
        have hmx := hs5.sn.max
        unfold maxLen at hmx
        have hz5 := Nat.le_trans hzr hb5.size
        clear HJ hb5 hc0 hc1 hown
        by_cases hc1' : cb = 1
        · have hs6 := (hc1' ▸ hs5 : Rs w5 w.heap.size (some ⟨b, o, none⟩) nb 1 (x :: X)).rest1 (by omega)
          have HN1 : Hid (nb = 1) := by show _ = _; omega
          have HS6 := Lib.hid hs6
          clear hs6 hs5
          go_wp2
          go_roundg (gk - 1)
          case measure => have := HGK.out; omega
          case rel => exact ⟨_, Aa, A5, nb - 1, 0, 0, ca, n5, c5, X, [], joinL acc x, by have := HGK.out; omega, by simp, rfl, rfl, HS6.out, ht5, hown5, HTOT.out, joinL_lt hacc ⟨hx1, hx2⟩, by have := HL5.out; have := HOL.out; omega, hb5', hz5⟩
        · have hs6 := hs5.rest (by omega) hc1'
          have HS6 := Lib.hid hs6
          clear hs6 hs5
          go_wp2
          go_roundg (gk - 1)
          case measure => have := HGK.out; omega
          case rel => exact ⟨_, Aa, A5, nb - 1, cb - 1, 0, ca, n5, c5, X, [], joinL acc x, by have := HGK.out; omega, by simp, rfl, rfl, HS6.out, ht5, hown5, HTOT.out, joinL_lt hacc ⟨hx1, hx2⟩, by have := HL5.out; have := HOL.out; omega, hb5', hz5⟩
      · have haI : ((na : Int) == 0) = false := by simp; omega
        obtain ⟨b, o, x, X, rfl, hbb, rfl, hc0, hc1, hx1, hx2⟩ := hsa.first (by omega)
        by_cases hb : nb = 0
        · subst hb
          have hnil : Lb = [] := List.eq_nil_of_length_eq_zero hsb.len
          subst hnil
          have HTOT : Hid (tot = unionGo (joinL acc x) X []) := by show _ = _; rw [htot, unionGo]
          have HSX := Lib.hid hsa
          have HSY := Lib.hid hsb
          clear hsa hsb htot
          go_wp2_with fail
          go_quiet (fail)
          have hjo := join_any' (wr.drewN nq) base Al nl cl acc x hacc ⟨hx1, hx2⟩ (by omega) hown hzr
          unfold rnv at hjo
          have HJ := Lib.hid hjo
          clear hjo
          go_wp2_with fail
          refine HJ.out.mono ?_
          rintro e w5 ⟨A5, n5, c5, rfl, hown5, hb5⟩
          have hb5' : Below base w4 w5 := hbel.trans ((below_drewN (Below.refl _ _) nq).trans hb5)
          have hs5 : Rs w5 w.heap.size (some ⟨b, o, none⟩) na ca (x :: X) := (HSX.out.drewN nq).below hb5 (by omega)
          have ht5 : Rs w5 w.heap.size Ab 0 cb [] := (HSY.out.drewN nq).below hb5 (by omega)
          have HL5 : Hid (n5 = (joinL acc x).length) := by show _ = _; have := hown5.1; rw [rvs_len] at this; omega
          have hl6 := (joinL_len acc x).1
          have hcx := hs5.sn.le
          have hmx := hs5.sn.max
          unfold maxLen at hmx
          have hz5 := Nat.le_trans hzr hb5.size
          clear HJ hb5 hc0 hc1 hown
          by_cases hc1' : ca = 1
          · have hs6 := (hc1' ▸ hs5 : Rs w5 w.heap.size (some ⟨b, o, none⟩) na 1 (x :: X)).rest1 (by omega)
            have HN1 : Hid (na = 1) := by show _ = _; omega
            have HS6 := Lib.hid hs6
            clear hs6 hs5
            go_wp2
            go_roundg (gk - 1)
            case measure => have := HGK.out; omega
            case rel => exact ⟨_, Ab, A5, na - 1, 0, 0, cb, n5, c5, X, [], joinL acc x, by have := HGK.out; omega, by simp, rfl, rfl, HS6.out, ht5, hown5, HTOT.out, joinL_lt hacc ⟨hx1, hx2⟩, by have := HL5.out; have := HOL.out; omega, hb5', hz5⟩
          · have hs6 := hs5.rest (by omega) hc1'
            have HS6 := Lib.hid hs6
            clear hs6 hs5
            go_wp2
            go_roundg (gk - 1)
            case measure => have := HGK.out; omega
            case rel => exact ⟨_, Ab, A5, na - 1, ca - 1, 0, cb, n5, c5, X, [], joinL acc x, by have := HGK.out; omega, by simp, rfl, rfl, HS6.out, ht5, hown5, HTOT.out, joinL_lt hacc ⟨hx1, hx2⟩, by have := HL5.out; have := HOL.out; omega, hb5', hz5⟩
        · obtain ⟨b2, o2, y, Y, rfl, hbb2, rfl, hd0, hd1, hy1, hy2⟩ := hsb.first (by omega)
          have hbI : (0 : Int) < (nb : Int) := by omega
          have haI2 : (0 : Int) < (na : Int) := by omega
          have hbD : decide (0 < nb) = true := by simp; omega
          by_cases hyx : y.1 < x.1
          · have hyI : (y.1 : Int) < (x.1 : Int) := by omega
            have HTOT : Hid (tot = unionGo (joinL acc y) Y (x :: X)) := by show _ = _; rw [htot, unionGo, if_pos hyx]
            have HSX := Lib.hid hsb
            have HSY := Lib.hid hsa
            clear hsa hsb htot
            go_wp2_with fail
            go_quiet (fail)
            have hjo := join_any' (wr.drewN nq) base Al nl cl acc y hacc ⟨hy1, hy2⟩ (by omega) hown hzr
            unfold rnv at hjo
            have HJ := Lib.hid hjo
            clear hjo
            go_wp2_with fail
            refine HJ.out.mono ?_
            rintro e w5 ⟨A5, n5, c5, rfl, hown5, hb5⟩
            have hb5' : Below base w4 w5 := hbel.trans ((below_drewN (Below.refl _ _) nq).trans hb5)
            have hs5 : Rs w5 w.heap.size (some ⟨b2, o2, none⟩) nb cb (y :: Y) := (HSX.out.drewN nq).below hb5 (by omega)
            have ht5 : Rs w5 w.heap.size (some ⟨b, o, none⟩) na ca (x :: X) := (HSY.out.drewN nq).below hb5 (by omega)
            have HL5 : Hid (n5 = (joinL acc y).length) := by show _ = _; have := hown5.1; rw [rvs_len] at this; omega
            have hl6 := (joinL_len acc y).1
            have hcx := hs5.sn.le
            have hmx := hs5.sn.max
            unfold maxLen at hmx
            have hz5 := Nat.le_trans hzr hb5.size
            clear HJ hb5 hd0 hd1 hown
            by_cases hc1' : cb = 1
            · have hs6 := (hc1' ▸ hs5 : Rs w5 w.heap.size (some ⟨b2, o2, none⟩) nb 1 (y :: Y)).rest1 (by omega)
              have HN1 : Hid (nb = 1) := by show _ = _; omega
              have HS6 := Lib.hid hs6
              clear hs6 hs5
              go_wp2
              go_roundg (gk - 1)
              case measure => have := HGK.out; omega
              case rel => exact ⟨_, (some ⟨b, o, none⟩), A5, nb - 1, 0, na, ca, n5, c5, Y, (x :: X), joinL acc y, by have := HGK.out; omega, by simp, rfl, rfl, HS6.out, ht5, hown5, HTOT.out, joinL_lt hacc ⟨hy1, hy2⟩, by have := HL5.out; have := HOL.out; omega, hb5', hz5⟩
            · have hs6 := hs5.rest (by omega) hc1'
              have HS6 := Lib.hid hs6
              clear hs6 hs5
              go_wp2
              go_roundg (gk - 1)
              case measure => have := HGK.out; omega
              case rel => exact ⟨_, (some ⟨b, o, none⟩), A5, nb - 1, cb - 1, na, ca, n5, c5, Y, (x :: X), joinL acc y, by have := HGK.out; omega, by simp, rfl, rfl, HS6.out, ht5, hown5, HTOT.out, joinL_lt hacc ⟨hy1, hy2⟩, by have := HL5.out; have := HOL.out; omega, hb5', hz5⟩
          · have hyI : ¬ (y.1 : Int) < (x.1 : Int) := by omega
            have HTOT : Hid (tot = unionGo (joinL acc x) X (y :: Y)) := by show _ = _; rw [htot, unionGo, if_neg hyx]
            have HSX := Lib.hid hsa
            have HSY := Lib.hid hsb
            clear hsa hsb htot
            go_wp2_with fail
            go_quiet (fail)
            have hjo := join_any' (wr.drewN nq) base Al nl cl acc x hacc ⟨hx1, hx2⟩ (by omega) hown hzr
            unfold rnv at hjo
            have HJ := Lib.hid hjo
            clear hjo
            go_wp2_with fail
            refine HJ.out.mono ?_
            rintro e w5 ⟨A5, n5, c5, rfl, hown5, hb5⟩
            have hb5' : Below base w4 w5 := hbel.trans ((below_drewN (Below.refl _ _) nq).trans hb5)
            have hs5 : Rs w5 w.heap.size (some ⟨b, o, none⟩) na ca (x :: X) := (HSX.out.drewN nq).below hb5 (by omega)
            have ht5 : Rs w5 w.heap.size (some ⟨b2, o2, none⟩) nb cb (y :: Y) := (HSY.out.drewN nq).below hb5 (by omega)
            have HL5 : Hid (n5 = (joinL acc x).length) := by show _ = _; have := hown5.1; rw [rvs_len] at this; omega
            have hl6 := (joinL_len acc x).1
            have hcx := hs5.sn.le
            have hmx := hs5.sn.max
            unfold maxLen at hmx
            have hz5 := Nat.le_trans hzr hb5.size
            clear HJ hb5 hc0 hc1 hown
            by_cases hc1' : ca = 1
            · have hs6 := (hc1' ▸ hs5 : Rs w5 w.heap.size (some ⟨b, o, none⟩) na 1 (x :: X)).rest1 (by omega)
              have HN1 : Hid (na = 1) := by show _ = _; omega
              have HS6 := Lib.hid hs6
              clear hs6 hs5
              go_wp2
              go_roundg (gk - 1)
              case measure => have := HGK.out; omega
              case rel => exact ⟨_, (some ⟨b2, o2, none⟩), A5, na - 1, 0, nb, cb, n5, c5, X, (y :: Y), joinL acc x, by have := HGK.out; omega, by simp, rfl, rfl, HS6.out, ht5, hown5, HTOT.out, joinL_lt hacc ⟨hx1, hx2⟩, by have := HL5.out; have := HOL.out; omega, hb5', hz5⟩
            · have hs6 := hs5.rest (by omega) hc1'
              have HS6 := Lib.hid hs6
              clear hs6 hs5
              go_wp2
              go_roundg (gk - 1)
              case measure => have := HGK.out; omega
              case rel => exact ⟨_, (some ⟨b2, o2, none⟩), A5, na - 1, ca - 1, nb, cb, n5, c5, X, (y :: Y), joinL acc x, by have := HGK.out; omega, by simp, rfl, rfl, HS6.out, ht5, hown5, HTOT.out, joinL_lt hacc ⟨hx1, hx2⟩, by have := HL5.out; have := HOL.out; omega, hb5', hz5⟩
    · have hna : na = 0 := by omega
      have hnb : nb = 0 := by omega
      subst hna hnb
      have hnil : La = [] := List.eq_nil_of_length_eq_zero hsa.len
      have hnil' : Lb = [] := List.eq_nil_of_length_eq_zero hsb.len
      subst hnil hnil'
      have ht : acc = tot := by rw [htot, unionGo]
      have hR5 := (hbel.block _ hz3).trans hR4
      have hq0 : wr.cell? ⟨w.heap.size + 1 + 1, 0, none⟩ = some (.slice none 0 0) := by rw [cell_of_row wr _ 0 _ _ _ hR5]; rfl
      have hf0 := frz_row (i := 0) hR5
      have hown6 := hown.kept (set_grown wr (w.heap.size + 1 + 1) 0 (.slice Al nl cl)) (own_ne hown (by omega))
      have hb6 : Below w.heap.size w (wr.setCell ⟨w.heap.size + 1 + 1, 0, none⟩ (.slice Al nl cl)) := (hb4w.trans (hbel.mono (by omega))).setCell (by show w.heap.size ≤ w.heap.size + 1 + 1; omega) _
      have hc6 : (wr.setCell ⟨w.heap.size + 1 + 1, 0, none⟩ (.slice Al nl cl)).cell? ⟨w.heap.size + 1 + 1, 0, none⟩ = some (.slice Al nl cl) := World.cell?_setCell_same _ _ _ hq0
      clear hsa hsb htot hown hR5 hbel
      go_wp2
      refine bodyPost_ret (v := .agg #[.slice Al nl cl]) (by simp [results, Try.results44, go_sem, hc6]) rfl ?_
      rw [← ht]
      exact ⟨Al, nl, cl, rfl, St.of_own hown6 hacc, fun b o hb => .inr (by have := (hown6.lt b (by rw [hb]; rfl)).1; omega), hb6⟩
end Go.Proofs.Ythhmgbeigeagdaa
