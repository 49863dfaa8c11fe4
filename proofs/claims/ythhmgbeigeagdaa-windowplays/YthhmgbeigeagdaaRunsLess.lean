/-
  CONTRACTS of outside, Less, Below, From.
  No statement is proved here.
-/
import Derived.Test.YthhmgbeigeagdaaRunsReach
namespace Go.Proofs.Ythhmgbeigeagdaa
open Go.RowKit

/-- A row lies in another block than this. -/
def Far (X : Nat) (A : Option Addr) : Prop := ∀ p, A = some p → p.block ≠ X
theorem Far.app {w : World} {X : Nat} {A A' : Option Addr} (h : Far X A) (hX : X < w.heap.size) (hd : A' = A ∨ ∃ b, A' = some ⟨b, 0, none⟩ ∧ w.heap.size ≤ b) : Far X A' := by
  rcases hd with rfl | ⟨g, rfl, hg⟩
  · exact h
  · intro p e
    injection e with e
    subst e
    show g ≠ X
    omega
theorem Far.of_own {w : World} {base X : Nat} {A : Option Addr} {n c : Nat} {L : List Rn} (h : Own w base A n c L) (hX : w.heap.size ≤ X) : Far X A := by
  intro p e
  subst e
  rcases h.2 with ⟨hv, _⟩ | ⟨g', cap, cur, hv, hbg, hg, hnc, hcm, hcs, ht⟩
  · cases hv
  · have := (h.lt p.block (by simp [Value.ownBlock])).2
    omega
theorem Far.own {X : Nat} {A : Option Addr} {n c : Nat} (h : Far X A) : (Value.slice A n c).ownBlock = none ∨ (Value.slice A n c).ownBlock ≠ some X := by
  refine .inr fun hv => ?_
  rcases A with _ | p
  · simp [Value.ownBlock] at hv
  · exact h p rfl (by simpa [Value.ownBlock] using hv)
theorem pieces_nil (r : Rn) : piecesL r [] = [r] := rfl
theorem pieces_far {r h : Rn} {hs : List Rn} (h1 : r.2 < h.1) : piecesL r (h :: hs) = [r] := by rw [piecesL, if_pos h1]
theorem pieces_cut {r h : Rn} {hs : List Rn} (h1 : ¬ r.2 < h.1) (h2 : r.1 < h.1) (h3 : r.2 ≤ h.2) : piecesL r (h :: hs) = [(r.1, h.1 - 1)] := by rw [piecesL, if_neg h1, if_pos h2, if_pos h3]; rfl
theorem pieces_none {r h : Rn} {hs : List Rn} (h1 : ¬ r.2 < h.1) (h2 : ¬ r.1 < h.1) (h3 : r.2 ≤ h.2) : piecesL r (h :: hs) = [] := by rw [piecesL, if_neg h1, if_neg h2, if_pos h3]; rfl
theorem pieces_two {r h : Rn} {hs : List Rn} (h1 : ¬ r.2 < h.1) (h2 : r.1 < h.1) (h3 : ¬ r.2 ≤ h.2) : piecesL r (h :: hs) = [(r.1, h.1 - 1)] ++ piecesL (h.2 + 1, r.2) hs := by rw [piecesL, if_neg h1, if_pos h2, if_neg h3]
theorem pieces_on {r h : Rn} {hs : List Rn} (h1 : ¬ r.2 < h.1) (h2 : ¬ r.1 < h.1) (h3 : ¬ r.2 ≤ h.2) : piecesL r (h :: hs) = piecesL (h.2 + 1, r.2) hs := by rw [piecesL, if_neg h1, if_neg h2, if_neg h3]; rfl

theorem run_src (w : World) (g : Nat) (hg : w.heap.size = g) (q : Rn) (x y : Int) (hx : x = (q.1 : Int)) (hy : y = (q.2 : Int)) :
    Src Try.prog 2 26 (.slice (some ⟨g, 0, none⟩) 1 1) 1 (rv q) (w.alloc (.cells #[.int .u64 x, .int .u64 y] 48)) := by
  subst hg hx hy
  exact (lit_sn w 48 (rv q) 1 2 rfl (by unfold maxLen; omega)).src Try.underlying26 (rv_one q)
theorem grown_keep {w w3 : World} {X nl cl : Nat} {Al : Option Addr} (h5 : w.grownBy w3 (if nl = cl then none else (Value.slice Al nl cl).ownBlock)) (hX : X < w.heap.size) (hf : Far X Al) : w3.heap[X]? = w.heap[X]? := by
  refine h5.block X hX fun e => ?_
  split at e
  · cases e
  · rcases hf.own (n := nl) (c := cl) with hf | hf
    · rw [hf] at e; cases e
    · exact hf e.symm
structure OutSt (w : World) (X B base : Nat) (Ah : Option Addr) (nh ch : Nat) (H : List Rn) (Al : Option Addr) (nl cl : Nat) (acc : List Rn) (r : Rn) (wr : World) : Prop where
  own : Own wr base Al nl cl acc
  far : Far X Al
  box : wr.heap[X]? = some (.cells #[.int .u64 (r.1 : Int), .int .u64 (r.2 : Int)] 48 (0, 0))
  bel : Below base w wr
  rs : Rs wr B Ah nh ch H
  hB : B ≤ base
  hX : base ≤ X
section
variable {w : World} {X B base : Nat} {Ah : Option Addr} {nh ch : Nat} {H : List Rn} {Al : Option Addr} {nl cl : Nat} {acc : List Rn} {r : Rn} {wr : World}
theorem OutSt.c0 (h : OutSt w X B base Ah nh ch H Al nl cl acc r wr) : wr.cell? ⟨X, 0, none⟩ = some (.int .u64 (r.1 : Int)) := by rw [cell_of_row wr _ 0 _ _ _ h.box]; rfl
theorem OutSt.c1 (h : OutSt w X B base Ah nh ch H Al nl cl acc r wr) : wr.cell? ⟨X, 1, none⟩ = some (.int .u64 (r.2 : Int)) := by rw [cell_of_row wr _ 1 _ _ _ h.box]; rfl
theorem OutSt.lt (h : OutSt w X B base Ah nh ch H Al nl cl acc r wr) : X < wr.heap.size := World.block_lt_of_cell? wr _ h.c0
theorem OutSt.alloc (h : OutSt w X B base Ah nh ch H Al nl cl acc r wr) (o : Obj) : OutSt w X B base Ah nh ch H Al nl cl acc r (wr.alloc o) := by
  have hz : base ≤ wr.heap.size := Nat.le_trans h.hX (Nat.le_of_lt h.lt)
  have hb : Below base wr (wr.alloc o) := (below_box wr o).mono hz
  exact ⟨h.own.alloc o, h.far, ((below_box wr o).block _ h.lt).trans h.box, h.bel.trans hb, h.rs.below hb h.hB, h.hB, h.hX⟩
theorem OutSt.app {A3 : Option Addr} {c3 : Nat} {w3 : World} {q : Rn} (h : OutSt w X B base Ah nh ch H Al nl cl acc r wr)
    (h2 : w3.ownsRow base 48 2 (.slice A3 (nl + 1) c3) (nl + 1) (rvs acc ++ rv q)) (h4 : Below base wr w3) (h5 : wr.grownBy w3 (if nl = cl then none else (Value.slice Al nl cl).ownBlock)) (h6 : A3 = Al ∨ ∃ b, A3 = some ⟨b, 0, none⟩ ∧ wr.heap.size ≤ b) :
    OutSt w X B base Ah nh ch H A3 (nl + 1) c3 (acc ++ [q]) r w3 := by
  refine ⟨?_, h.far.app h.lt h6, ?_, h.bel.trans h4, h.rs.below h4 h.hB, h.hB, h.hX⟩
  · rw [← rvs_one1, ← rvs_app] at h2
    exact h2
  · exact (grown_keep h5 h.lt h.far).trans h.box
theorem OutSt.set (h : OutSt w X B base Ah nh ch H Al nl cl acc r wr) (v : Nat) : OutSt w X B base Ah nh ch H Al nl cl acc (v, r.2) (wr.setCell ⟨X, 0, none⟩ (.int .u64 (v : Int))) := by
  have hb : Below base wr (wr.setCell ⟨X, 0, none⟩ (.int .u64 (v : Int))) := (Below.refl base wr).setCell h.hX _
  refine ⟨h.own.kept (set_grown wr X 0 _) h.far.own, h.far, ?_, h.bel.trans hb, h.rs.below hb h.hB, h.hB, h.hX⟩
  simp [World.setCell, Array.getElem?_modify, h.box]
end
def OutRel (w : World) (X B base nh : Nat) (Ah : Option Addr) (ch : Nat) (H tot : List Rn) (gk : Nat) (vl vi : Value) (wr : World) : Prop :=
  ∃ (Al : Option Addr) (nl cl k : Nat) (acc : List Rn) (r : Rn), gk + k = nh ∧ vl = .slice Al nl cl ∧ vi = .int .i64 (k : Int) ∧ OutSt w X B base Ah nh ch H Al nl cl acc r wr ∧ tot = acc ++ piecesL r (H.drop k) ∧ r.1 < two64 ∧ r.2 < two64 ∧ nl ≤ 1000000 + k

set_option maxRecDepth 100000 in
set_option maxHeartbeats 1000000 in
theorem outside_any (w : World) (B base : Nat) (Al : Option Addr) (nl cl : Nat) (acc : List Rn) (r : Rn) (Ah : Option Addr) (nh ch : Nat) (H : List Rn) (hown : Own w base Al nl cl acc) (hrs : Rs w B Ah nh ch H) (hB : B ≤ base) (hb : base ≤ w.heap.size)
    (hr : r.1 < two64 ∧ r.2 < two64) (hl : nl ≤ 1000000) (hh : nh ≤ 1000) :
    Calls Try.prog 51 #[.slice Al nl cl, rnv r, .slice Ah nh ch] w (SaysOwn w base (acc ++ piecesL r H)) := by
  unfold rnv
  obtain ⟨i0, hi0, hz0, hz1, hz2⟩ := info_parts run_info
  obtain ⟨tot, HT⟩ : ∃ tot, Hid (tot = acc ++ piecesL r (H.drop 0)) := ⟨_, rfl⟩
  rw [show acc ++ piecesL r H = tot from HT.out.symm]
  have H0 : Hid (OutSt w w.heap.size B base Ah nh ch H Al nl cl acc r (w.alloc (.cells #[.int .u64 (r.1 : Int), .int .u64 (r.2 : Int)] 48))) :=
    ⟨hown.alloc _, Far.of_own hown (Nat.le_refl _), heap_alloc_new w _, (below_box w _).mono hb, hrs.below ((below_box w _).mono hb) hB, hB, hb⟩
  clear hown hrs
  go_enter Try.func51, Try.ntmps51
  go_wp2_with fail
  go_loopg [0, 11] nh (fun gk vl vi wr => OutRel w w.heap.size B base nh Ah ch H tot gk vl vi wr)
  case atStart => exact ⟨Al, nl, cl, 0, acc, r, by omega, rfl, rfl, H0.out, HT.out, hr.1, hr.2, by omega⟩
  case round =>
    obtain ⟨Al, nl, cl, k, acc, r, hg, rfl, rfl, hst, htot, hr1, hr2, hnl⟩ := hrel
    have HG := Lib.hid hg
    have HT2 := Lib.hid htot
    have HS := Lib.hid hst
    have hq0 := hst.c0
    have hq1 := hst.c1
    have hXw := hst.lt
    have hf0 := frz_row (i := 0) hst.box
    unfold two64 at hr1 hr2
    clear hg htot H0 HT hst hr
    by_cases hk : k < nh
    · have hkI : (k : Int) < (nh : Int) := by omega
      have hk0 : (0 : Int) ≤ (k : Int) := by omega
      obtain ⟨b, o, h, rfl, hbB, hx, hc0, hc1, h1, h2⟩ := HS.out.rs.at_ hk
      have HDR : Hid (H.drop k = h :: H.drop (k + 1)) := by
        show _ = _
        rw [List.drop_eq_getElem_cons (by have := HS.out.rs.len; omega)]
        rw [List.getElem?_eq_getElem (by have := HS.out.rs.len; omega)] at hx
        injection hx with hx
        rw [hx]
      unfold two64 at h1 h2
      clear hx
      have hSh := Lib.hid (HS.out.alloc (.cells #[.int .u64 (h.1 : Int), .int .u64 (h.2 : Int)] 48))
      by_cases hfr : r.2 < h.1
      · have hI : (r.2 : Int) < (h.1 : Int) := by omega
        have HE : Hid (tot = acc ++ [r]) := by show _ = _; rw [HT2.out, HDR.out, pieces_far hfr]
        go_wp2_with (at_builtin; refine wpList_append_dstN _ rfl (.tmp 45) (.tmp 47) 26 26 rfl base 48 i0 _ 2 16 Try.underlying26 hi0 hz0 hz1 hz2 rfl Al nl cl (rvs acc) rfl (DstN.alloc (.inr hSh.out.own) _) _ 1 (rv r) rfl (run_src _ _ (by simp) r _ _ rfl rfl) (by omega) (by omega) (by simp; omega) ?_; intro A3 c3 w3 h1 h2 h3 h4 h5 h6)
        go_ret
        have hS3 := (hSh.out.alloc _).app (h2 (by omega)) h4 h5 h6
        rw [HE.out]
        exact ⟨A3, nl + 1, c3, rfl, hS3.own, hS3.bel⟩
      · have hI : ¬ (r.2 : Int) < (h.1 : Int) := by omega
        have HHOLE : Hid (∀ w3, (World.alloc (wr.alloc (.cells #[.int .u64 (h.1 : Int), .int .u64 (h.2 : Int)] 48)) (.cells #[.int .u64 (r.1 : Int), .int .u64 ((h.1 : Int) - 1)] 48)).grownBy w3 (if nl = cl then none else (Value.slice Al nl cl).ownBlock) → w3.cell? ⟨wr.heap.size, 1, none⟩ = some (.int .u64 (h.2 : Int))) := by
          intro w3 h5
          have h7 := (grown_keep (X := wr.heap.size) h5 (by simp; omega) (Far.of_own HS.out.own (Nat.le_refl _))).trans ((Below.heap_alloc _ _ _ (by simp)).trans (heap_alloc_new wr _))
          rw [cell_of_row w3 _ 1 _ _ _ h7]
          rfl
        by_cases hhi : r.2 ≤ h.2
        · have hI3 : (r.2 : Int) ≤ (h.2 : Int) := by omega
          by_cases hlo : r.1 < h.1
          · have hI2 : (r.1 : Int) < (h.1 : Int) := by omega
            have HE : Hid (tot = acc ++ [(r.1, h.1 - 1)]) := by show _ = _; rw [HT2.out, HDR.out, pieces_cut hfr hlo hhi]
            go_wp2_with (at_builtin; refine wpList_append_dstN _ rfl (.tmp 25) (.tmp 32) 26 26 rfl base 48 i0 _ 2 16 Try.underlying26 hi0 hz0 hz1 hz2 rfl Al nl cl (rvs acc) rfl (DstN.alloc (.inr hSh.out.own) _) _ 1 (rv (r.1, h.1 - 1)) rfl (run_src _ _ (by simp) (r.1, h.1 - 1) _ _ rfl (by simp; omega)) (by omega) (by omega) (by simp; omega) ?_; intro A3 c3 w3 h1 h2 h3 h4 h5 h6; have HS3 := Lib.hid ((hSh.out.alloc _).app (h2 (by omega)) h4 h5 h6); have hp1 := HS3.out.c1; have hp0 := HS3.out.c0; have hpf := frz_row (i := 0) HS3.out.box; have hh1 := HHOLE.out _ h5; have hzz := HS3.out.lt; clear h1 h2 h3 h4 h5 h6)
            go_ret
            rw [HE.out]
            exact ⟨A3, nl + 1, c3, rfl, HS3.out.own, HS3.out.bel⟩
          · have hI2 : ¬ (r.1 : Int) < (h.1 : Int) := by omega
            have HE : Hid (tot = acc) := by show _ = _; rw [HT2.out, HDR.out, pieces_none hfr hlo hhi, List.append_nil]
            go_wp2
            go_ret
            rw [HE.out]
            exact ⟨Al, nl, cl, rfl, hSh.out.own, hSh.out.bel⟩
        · have hI3 : ¬ (r.2 : Int) ≤ (h.2 : Int) := by omega
          have hI4 : (h.2 : Int) + 1 < 18446744073709551616 := by omega
          by_cases hlo : r.1 < h.1
          · have hI2 : (r.1 : Int) < (h.1 : Int) := by omega
            have HE : Hid (tot = acc ++ [(r.1, h.1 - 1)] ++ piecesL (h.2 + 1, r.2) (H.drop (k + 1))) := by show _ = _; rw [HT2.out, HDR.out, pieces_two hfr hlo hhi, List.append_assoc]
            go_wp2_with (at_builtin; refine wpList_append_dstN _ rfl (.tmp 25) (.tmp 32) 26 26 rfl base 48 i0 _ 2 16 Try.underlying26 hi0 hz0 hz1 hz2 rfl Al nl cl (rvs acc) rfl (DstN.alloc (.inr hSh.out.own) _) _ 1 (rv (r.1, h.1 - 1)) rfl (run_src _ _ (by simp) (r.1, h.1 - 1) _ _ rfl (by simp; omega)) (by omega) (by omega) (by simp; omega) ?_; intro A3 c3 w3 h1 h2 h3 h4 h5 h6; have HS3 := Lib.hid ((hSh.out.alloc _).app (h2 (by omega)) h4 h5 h6); have hp1 := HS3.out.c1; have hp0 := HS3.out.c0; have hpf := frz_row (i := 0) HS3.out.box; have hh1 := HHOLE.out _ h5; have hzz := HS3.out.lt; clear h1 h2 h3 h4 h5 h6)
            go_roundg (gk - 1)
            case measure => have := HG.out; omega
            case rel => exact ⟨A3, nl + 1, c3, k + 1, acc ++ [(r.1, h.1 - 1)], (h.2 + 1, r.2), by have := HG.out; omega, rfl, by go_num, by simpa using HS3.out.set (h.2 + 1), HE.out, by show h.2 + 1 < _; unfold two64; omega, hr2, by omega⟩
          · have hI2 : ¬ (r.1 : Int) < (h.1 : Int) := by omega
            have HE : Hid (tot = acc ++ piecesL (h.2 + 1, r.2) (H.drop (k + 1))) := by show _ = _; rw [HT2.out, HDR.out, pieces_on hfr hlo hhi]
            go_wp2
            go_roundg (gk - 1)
            case measure => have := HG.out; omega
            case rel => exact ⟨Al, nl, cl, k + 1, acc, (h.2 + 1, r.2), by have := HG.out; omega, rfl, by go_num, by simpa using (HS.out.set (h.2 + 1)).alloc _, HE.out, by show h.2 + 1 < _; unfold two64; omega, hr2, by omega⟩
    · have hkI : ¬ (k : Int) < (nh : Int) := by omega
      have hkn : k ≤ nh := by have := HG.out; omega
      have HE : Hid (tot = acc ++ [r]) := by show _ = _; rw [HT2.out, List.drop_eq_nil_of_le (by have := HS.out.rs.len; omega), pieces_nil]
      go_wp2_with (at_builtin; refine wpList_append_dstN _ rfl (.tmp 45) (.tmp 47) 26 26 rfl base 48 i0 _ 2 16 Try.underlying26 hi0 hz0 hz1 hz2 rfl Al nl cl (rvs acc) rfl (DstN.alloc (.inr HS.out.own) _) _ 1 (rv r) rfl (run_src _ _ rfl r _ _ rfl rfl) (by omega) (by omega) (by simp; omega) ?_; intro A3 c3 w3 h1 h2 h3 h4 h5 h6)
      go_ret
      have hS3 := (HS.out.alloc _).app (h2 (by omega)) h4 h5 h6
      rw [HE.out]
      exact ⟨A3, nl + 1, c3, rfl, hS3.own, hS3.bel⟩

/-! ### how many runs Less answers -/
theorem reachL_len (L : List Rn) (m : Nat) : (reachL L m).length ≤ L.length := by rw [reachL_drop, List.length_drop]; omega
theorem pieces_len2 (hs : List Rn) : ∀ (r : Rn) (m : Nat), r.2 < m → (piecesL r hs).length + (reachL hs m).length ≤ hs.length + 1 := by
  induction hs with
  | nil => intro r m _; simp [piecesL, reachL]
  | cons h hs ih =>
    intro r m hm
    have h1 := reachL_len (h :: hs) m
    have h2 := ih (h.2 + 1, r.2) m hm
    simp only [List.length_cons] at h1 ⊢
    rw [piecesL]
    by_cases ha : r.2 < h.1
    · rw [if_pos ha]; simp; omega
    · rw [if_neg ha, List.length_append]
      by_cases hb : r.2 ≤ h.2
      · rw [if_pos hb]; split <;> simp <;> omega
      · rw [if_neg hb, reachL_lo (by omega)]; split <;> simp <;> omega
theorem lessGo_len : ∀ (s hs acc : List Rn), Canon s → (lessGo acc s hs).length ≤ acc.length + s.length + (match s with | [] => 0 | r :: _ => (reachL hs r.1).length)
  | [], hs, acc, _ => by simp [lessGo]
  | r :: s, hs, acc, hc => by
    rw [lessGo]
    have ih := lessGo_len s (reachL hs r.1) (acc ++ piecesL r (reachL hs r.1)) hc.tail
    refine Nat.le_trans ih ?_
    simp only [List.length_append, List.length_cons]
    rcases s with _ | ⟨r', s⟩
    · have := pieces_len (reachL hs r.1) r
      simp only [List.length_nil]
      omega
    · have h1 := (List.pairwise_cons.1 hc.far).1 r' List.mem_cons_self
      have h2 := pieces_len2 (reachL hs r.1) r r'.1 (by omega)
      simp only [List.length_cons]
      omega
theorem less_len {s t : List Rn} (hs : Okl s) : (lessL s t).length ≤ s.length + t.length := by
  have h := lessGo_len s t [] hs.can
  unfold lessL
  rcases s with _ | ⟨r, s⟩
  · simp only [List.length_nil] at h ⊢; omega
  · have := reachL_len t r.1
    simp only [List.length_nil] at h
    omega

def LessRel (w : World) (B base n : Nat) (S tot : List Rn) (gk : Nat) (vl vh vi : Value) (wr : World) : Prop :=
  ∃ (Al Ah : Option Addr) (nl cl nh ch k : Nat) (acc H : List Rn), gk + k = n ∧ vl = .slice Al nl cl ∧ vh = .slice Ah nh ch ∧ vi = .int .i64 (k : Int) ∧ Own wr base Al nl cl acc ∧ Rs wr B Ah nh ch H ∧ Canon H ∧ nh ≤ 900 ∧
    tot = lessGo acc (S.drop k) H ∧ nl ≤ 1000 * k ∧ Below base w wr ∧ base ≤ wr.heap.size

set_option maxRecDepth 100000 in
set_option maxHeartbeats 1000000 in
theorem rless_any (w : World) (A A' : Option Addr) (n c n' c' : Nat) (S T : List Rn) (hs : Rs w w.heap.size A n c S) (ht : Rs w w.heap.size A' n' c' T) (hS : Okl S) (hT : Okl T) (hn : n ≤ 900) (hn' : n' ≤ 900) :
    Calls Try.prog 43 #[.agg #[.slice A n c], .agg #[.slice A' n' c']] w (SaysS w 0 (lessL S T)) := by
  obtain ⟨tot, HT⟩ : ∃ tot, Hid (tot = lessGo [] (S.drop 0) T) := ⟨_, rfl⟩
  rw [show lessL S T = tot from HT.out.symm]
  have HO : Hid (∀ q ∈ tot, q.1 < two64 ∧ q.2 < two64) := by
    have := (less_ok hS hT).lt
    rw [show lessL S T = tot from HT.out.symm] at this
    exact this
  have HCS := Lib.hid hs
  have HCT := Lib.hid ht
  have HSO := Lib.hid hS
  have HTO := Lib.hid hT
  clear hs ht hS hT
  go_enter Try.func43, Try.ntmps43
  go_wp2_with fail
  have hb3 : Below w.heap.size w (((w.alloc (Obj.cells #[.slice A n c] 28)).alloc (Obj.cells #[.slice A' n' c'] 28)).alloc (Obj.cells #[.slice none 0 0] 28)) := ((below_box w _).alloc (by simp) _).alloc (by simp; omega) _
  have hR : (((w.alloc (Obj.cells #[.slice A n c] 28)).alloc (Obj.cells #[.slice A' n' c'] 28)).alloc (Obj.cells #[.slice none 0 0] 28)).heap[w.heap.size + 1 + 1]? = some (.cells #[.slice none 0 0] 28 (0, 0)) := by simpa using heap_alloc_new ((w.alloc (Obj.cells #[.slice A n c] 28)).alloc (Obj.cells #[.slice A' n' c'] 28)) (Obj.cells #[.slice none 0 0] 28)
  have hz3 : (((w.alloc (Obj.cells #[.slice A n c] 28)).alloc (Obj.cells #[.slice A' n' c'] 28)).alloc (Obj.cells #[.slice none 0 0] 28)).heap.size = w.heap.size + 1 + 1 + 1 := by simp
  generalize ((w.alloc (Obj.cells #[.slice A n c] 28)).alloc (Obj.cells #[.slice A' n' c'] 28)).alloc (Obj.cells #[.slice none 0 0] 28) = w3 at *
  have HCS3 := Lib.hid (HCS.out.below hb3 (Nat.le_refl _))
  have HCT3 := Lib.hid (HCT.out.below hb3 (Nat.le_refl _))
  obtain ⟨base, HBASE⟩ : ∃ base, Hid (base = w.heap.size + 1 + 1 + 1) := ⟨_, rfl⟩
  have HB3 := Lib.hid hb3
  have HR3 := Lib.hid hR
  have HZ3 := Lib.hid hz3
  clear HCS HCT hb3 hR hz3
  go_loopg [5, 6, 14] n (fun gk vl vh vi wr => LessRel w3 w.heap.size base n S tot gk vl vh vi wr)
  case atStart =>
    have := HZ3.out
    have := HBASE.out
    exact ⟨none, A', 0, 0, n', c', 0, [], T, by omega, rfl, rfl, rfl, ⟨rfl, .inl ⟨rfl, rfl⟩⟩, HCT3.out, HTO.out.can, hn', HT.out, by omega, Below.refl _ _, by omega⟩
  case round =>
    obtain ⟨Al, Ah, nl, cl, nh, ch, k, acc, H, hg, rfl, rfl, rfl, hown, hrs, hcan, hnh, htot, hnl, hbel, hzr⟩ := hrel
    have HG := Lib.hid hg
    have HT2 := Lib.hid htot
    have HOW := Lib.hid hown
    have HRS := Lib.hid hrs
    have HBB : Hid (w.heap.size ≤ base) := by have := HBASE.out; show _ ≤ _; omega
    have hsr := HCS3.out.below hbel HBB.out
    clear hg htot hown hrs HT HCT3
    by_cases hk : k < n
    · have hkI : (k : Int) < (n : Int) := by omega
      have hk0 : (0 : Int) ≤ (k : Int) := by omega
      obtain ⟨b, o, r, rfl, hbB, hx, hc0, hc1, h1, h2⟩ := hsr.at_ hk
      have HDR : Hid (S.drop k = r :: S.drop (k + 1)) := by
        show _ = _
        rw [List.drop_eq_getElem_cons (by have := hsr.len; omega)]
        rw [List.getElem?_eq_getElem (by have := hsr.len; omega)] at hx
        injection hx with hx
        rw [hx]
      clear hx hsr
      have hob := Lib.hid (HOW.out.alloc (.cells #[.int .u64 (r.1 : Int), .int .u64 (r.2 : Int)] 48))
      have hrb := Lib.hid (HRS.out.below ((below_box wr (.cells #[.int .u64 (r.1 : Int), .int .u64 (r.2 : Int)] 48)).mono hzr) HBB.out)
      go_wp2_with fail
      have hq0 : (wr.alloc (Obj.cells #[.int .u64 (r.1 : Int), .int .u64 (r.2 : Int)] 48)).heap[wr.heap.size]? = some (.cells #[.int .u64 (r.1 : Int), .int .u64 (r.2 : Int)] 48 (0, 0)) := heap_alloc_new wr _
      have HBX : Hid (Below base w3 (wr.alloc (Obj.cells #[.int .u64 (r.1 : Int), .int .u64 (r.2 : Int)] 48))) := hbel.trans ((below_box wr _).mono hzr)
      have hz1 : (wr.alloc (Obj.cells #[.int .u64 (r.1 : Int), .int .u64 (r.2 : Int)] 48)).heap.size = wr.heap.size + 1 := by simp
      generalize wr.alloc (Obj.cells #[.int .u64 (r.1 : Int), .int .u64 (r.2 : Int)] 48) = wb at *
      refine (reach_any wb w.heap.size Ah nh ch r.1 H hrb.out (by have := HBB.out; omega) hcan (by omega)).mono ?_
      rintro e w5 ⟨A5, n5, c5, rfl, hrs5, hb5⟩
      have hlt : wr.heap.size < wb.heap.size := by omega
      have hrow := (hb5.block _ hlt).trans hq0
      have hd0 : w5.cell? ⟨wr.heap.size, 0, none⟩ = some (.int .u64 (r.1 : Int)) := by rw [cell_of_row w5 _ 0 _ _ _ hrow]; rfl
      have hd1 : w5.cell? ⟨wr.heap.size, 1, none⟩ = some (.int .u64 (r.2 : Int)) := by rw [cell_of_row w5 _ 1 _ _ _ hrow]; rfl
      have HOW5 : Hid (Own w5 base Al nl cl acc) := hob.out.kept (only_below' hb5) (by cases (Value.slice Al nl cl).ownBlock <;> simp)
      have HRS5 := Lib.hid hrs5
      have HB5 : Hid (Below base w3 w5 ∧ base ≤ w5.heap.size) := ⟨HBX.out.trans (hb5.mono (by omega)), Nat.le_trans (by omega) hb5.size⟩
      have hn5 : n5 ≤ nh := by rw [← hrs5.len, ← hrb.out.len]; exact reachL_len _ _
      clear hrs5 hb5 hrow hq0 hz1 hlt hob hrb HOW HRS
      go_wp2_with fail
      refine (outside_any w5 w.heap.size base Al nl cl acc r A5 n5 c5 (reachL H r.1) HOW5.out HRS5.out HBB.out HB5.out.2 ⟨h1, h2⟩ (by omega) (by omega)).mono ?_
      rintro e w6 ⟨A6, n6, c6, rfl, hown6, hb6⟩
      have hl6 : n6 = nl + (piecesL r (reachL H r.1)).length := by
        have e1 := hown6.1
        have e2 := HOW5.out.1
        rw [rvs_len] at e1 e2
        rw [List.length_append] at e1
        omega
      have hp6 := pieces_len (reachL H r.1) r
      rw [HRS5.out.len] at hp6
      have HH : Hid (n6 ≤ nl + 1000) := by show _ ≤ _; omega
      have HRS6 := Lib.hid (HRS5.out.below hb6 HBB.out)
      have HB6 : Hid (Below base w3 w6 ∧ base ≤ w6.heap.size) := ⟨HB5.out.1.trans hb6, Nat.le_trans HB5.out.2 hb6.size⟩
      have HOW6 := Lib.hid hown6
      have HE : Hid (tot = lessGo (acc ++ piecesL r (reachL H r.1)) (S.drop (k + 1)) (reachL H r.1)) := by show _ = _; rw [HT2.out, HDR.out, lessGo]
      have HCR : Hid (Canon (reachL H r.1)) := by rw [reachL_drop]; exact ⟨List.Pairwise.sublist (List.drop_sublist _ _) hcan.far, fun q hq => hcan.ok q (List.mem_of_mem_drop hq)⟩
      clear hl6 hp6 hown6 hb6 hd0 hd1
      go_wp2
      go_roundg (gk - 1)
      case measure => have := HG.out; omega
      case rel => exact ⟨A6, A5, n6, c6, n5, c5, k + 1, _, _, by have := HG.out; omega, rfl, rfl, by go_num, HOW6.out, HRS6.out, HCR.out, by omega, HE.out, by have := HH.out; omega, HB6.out.1, HB6.out.2⟩
    · have hkI : ¬ (k : Int) < (n : Int) := by omega
      have HE : Hid (tot = acc) := by show _ = _; rw [HT2.out, List.drop_eq_nil_of_le (by have := hsr.len; omega), lessGo]
      have hR5 := (hbel.block (w.heap.size + 1 + 1) (by have := HBASE.out; omega)).trans HR3.out
      have hq0 : wr.cell? ⟨w.heap.size + 1 + 1, 0, none⟩ = some (.slice none 0 0) := by rw [cell_of_row wr _ 0 _ _ _ hR5]; rfl
      have hf0 := frz_row (i := 0) hR5
      have hown6 := HOW.out.kept (set_grown wr (w.heap.size + 1 + 1) 0 (.slice Al nl cl)) (own_ne HOW.out (by have := HBASE.out; omega))
      have hb6 : Below w.heap.size w (wr.setCell ⟨w.heap.size + 1 + 1, 0, none⟩ (.slice Al nl cl)) := (HB3.out.trans (hbel.mono HBB.out)).setCell (by show w.heap.size ≤ w.heap.size + 1 + 1; omega) _
      have hc6 : (wr.setCell ⟨w.heap.size + 1 + 1, 0, none⟩ (.slice Al nl cl)).cell? ⟨w.heap.size + 1 + 1, 0, none⟩ = some (.slice Al nl cl) := World.cell?_setCell_same _ _ _ hq0
      clear hsr hR5 hbel
      go_wp2
      refine bodyPost_ret (v := .agg #[.slice Al nl cl]) (by simp [results, Try.results43, go_sem, hc6]) rfl ?_
      have ho := HO.out
      rw [HE.out] at ho ⊢
      exact ⟨Al, nl, cl, rfl, St.of_own hown6 ho, fun b o hb => .inr (by have := (hown6.lt b (by rw [hb]; rfl)).1; have := HBB.out; omega), hb6⟩
end Go.Proofs.Ythhmgbeigeagdaa
