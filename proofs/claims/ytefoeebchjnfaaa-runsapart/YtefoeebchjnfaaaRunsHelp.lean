/-
  CONTRACTS of the laws' own few, own, set; of Count.
  No statement is proved here.
-/
import Derived.Test.YtefoeebchjnfaaaRunsEq
namespace Go.Proofs.Ytefoeebchjnfaaa
open Go.RowKit

set_option maxHeartbeats 400000 in
theorem few3_any (w : World) (B : Nat) (A : Option Addr) (n c : Nat) (l : List Rn) (hs : Rs w B A n c l) :
    Calls Try.prog 15 #[.slice A n c] w fun e w' => e = .returned (.slice A (min n 20) c) ∧ w = w' := by
  have hle := hs.sn.le
  have hmax := hs.sn.max
  unfold maxLen at hmax
  clear hs
  by_cases h : n ≤ 20
  · rw [show min n 20 = n from by omega]
    have hI : (n : Int) ≤ 20 := by omega
    go_enter Try.func15, Try.ntmps15
    go_wp2
    go_ret
    exact ⟨by simp, rfl⟩
  · rw [show min n 20 = 20 from by omega]
    have hI : (20 : Int) < (n : Int) := by omega
    have hc : 20 ≤ c := by omega
    go_enter Try.func15, Try.ntmps15
    go_wp2
    go_ret
    exact ⟨by simp, rfl⟩

theorem rrun_info : (Try.prog.info? 49).map (fun i => (i.zero, i.size, i.bytes)) = some (some (.agg #[.int .u64 0, .int .u64 0]), 2, 16) := by kernel_rfl
def OwnRel (w : World) (L : List Rn) (gk : Nat) (vl vi : Value) (wr : World) : Prop :=
  ∃ (k : Nat) (A : Option Addr) (n c : Nat), gk + k = L.length ∧ vl = .slice A n c ∧ vi = .int .i64 (k : Int) ∧ wr.ownsRow w.heap.size 49 2 (.slice A n c) n (rvs (L.take k)) ∧ n = k ∧ Below w.heap.size w wr
set_option maxRecDepth 100000 in
set_option maxHeartbeats 400000 in
theorem own3_any (w : World) (A : Option Addr) (n c : Nat) (l : List Rn) (hs : Rs w w.heap.size A n c l) (hn : n ≤ 100000) :
    Calls Try.prog 18 #[.slice A n c] w (SaysR w l) := by
  obtain ⟨i0, hi0, hz0, hz1, hz2⟩ := info_parts rrun_info
  have H := Lib.hid hs
  have HLEN : Hid (l.length = n) := hs.len
  clear hs
  go_enter Try.func18, Try.ntmps18
  go_wp2
  go_loopg [3, 8] n (fun gk vl vi wr => OwnRel w l gk vl vi wr)
  case atStart => exact ⟨0, none, 0, 0, by have := HLEN.out; omega, rfl, rfl, ⟨rfl, .inl ⟨rfl, rfl⟩⟩, rfl, Below.refl _ _⟩
  case round =>
    obtain ⟨k, A', n', c', hg, rfl, rfl, hown, rfl, hbel⟩ := hrel
    have HG := Lib.hid hg
    have HOWN := Lib.hid hown
    clear hg hown
    have hsr := H.out.below hbel (Nat.le_refl _)
    by_cases hk : n' < n
    · have hkI : (n' : Int) < (n : Int) := by omega
      have hk0 : (0 : Int) ≤ (n' : Int) := by omega
      obtain ⟨b, o, r, rfl, hbB, hx, hc0, hc1, h1, h2⟩ := hsr.at_ hk
      have HTK : Hid (rvs (l.take (n' + 1)) = rvs (l.take n') ++ rv r) := by show _ = _; rw [List.take_add_one, hx, rvs_app]; simp [rvs]
      have hzr := hbel.size
      clear hx hsr
      have HD : Hid (DstN ((wr.alloc (.cells #[.int .u64 (r.1 : Int), .int .u64 (r.2 : Int)] 62)).alloc (.cells #[.int .u64 (r.1 : Int), .int .u64 (r.2 : Int)] 49)) w.heap.size 49 A' n' c' 2 (rvs (l.take n'))) := DstN.alloc (DstN.alloc (.inr HOWN.out) _) _
      have HSRC : Hid (Src Try.prog 2 29 (.slice (some ⟨wr.heap.size + 1, 0, none⟩) 1 1) 1 (rv r) ((wr.alloc (.cells #[.int .u64 (r.1 : Int), .int .u64 (r.2 : Int)] 62)).alloc (.cells #[.int .u64 (r.1 : Int), .int .u64 (r.2 : Int)] 49))) := by
        have h := lit_sn (wr.alloc (.cells #[.int .u64 (r.1 : Int), .int .u64 (r.2 : Int)] 62)) 49 (rv r) 1 2 rfl (by unfold maxLen; omega)
        rw [show (wr.alloc (.cells #[.int .u64 (r.1 : Int), .int .u64 (r.2 : Int)] 62)).heap.size = wr.heap.size + 1 from by simp] at h
        exact h.src Try.underlying29 (rv_one r)
      go_wp2_with (at_builtin; refine wpList_append_dstN _ rfl (.tmp 12) (.tmp 14) 29 29 rfl w.heap.size 49 i0 _ 2 16 Try.underlying29 hi0 hz0 hz1 hz2 rfl A' n' c' (rvs (l.take n')) rfl HD.out _ 1 (rv r) rfl HSRC.out (by omega) (by omega) (by simp; omega) ?_; intro A3 c3 w3 h1 h2 h3 h4 h5 h6)
      have HO3 := Lib.hid (h2 (by omega))
      have HB3 : Hid (Below w.heap.size w w3) := hbel.trans ((((below_box wr (.cells #[.int .u64 (r.1 : Int), .int .u64 (r.2 : Int)] 62)).mono hzr).alloc (by simp; omega) (.cells #[.int .u64 (r.1 : Int), .int .u64 (r.2 : Int)] 49)).trans h4)
      clear h1 h2 h3 h4 h5 h6
      go_wp2
      go_roundg (gk - 1)
      case measure => have := HG.out; have := HLEN.out; omega
      case rel => exact ⟨n' + 1, A3, n' + 1, c3, by have := HG.out; have := HLEN.out; omega, rfl, by go_num, by rw [HTK.out]; exact HO3.out, rfl, HB3.out⟩
    · have hkI : ¬ (n' : Int) < (n : Int) := by omega
      have HE : Hid (l.take n' = l) := List.take_of_length_le (by have := HLEN.out; omega)
      have HLT := Lib.hid H.out.lt
      clear hsr
      go_wp2
      go_ret
      have ho := HOWN.out
      rw [HE.out] at ho
      exact ⟨A', n', c', rfl, Rs.of_own ho HLT.out, hbel⟩

/-! ### Count -/
def cntGo (acc : Nat) : List Rn → Nat
  | [] => acc
  | r :: s => cntGo ((acc + (r.2 - r.1 + 1)) % two64) s
def cntL (L : List Rn) : Nat := if cntGo 0 L = 0 ∧ L ≠ [] then two64 - 1 else cntGo 0 L
theorem wrap_cnt (a f t : Nat) (h : f ≤ t) : IntKind.u64.wrap ((a : Int) + IntKind.u64.wrap ((t : Int) - (f : Int) + 1)) = (((a + (t - f + 1)) % two64 : Nat) : Int) := by
  unfold two64 at *
  rw [IntKind.wrap_u64, IntKind.wrap_u64]
  omega
def CntRel (w : World) (L : List Rn) (gk : Nat) (vc vi : Value) (wr : World) : Prop :=
  ∃ (k a : Nat), gk + k = L.length ∧ vc = .int .u64 (a : Int) ∧ vi = .int .i64 (k : Int) ∧ cntGo 0 L = cntGo a (L.drop k) ∧ a < two64 ∧ Below w.heap.size w wr
set_option maxRecDepth 100000 in
set_option maxHeartbeats 400000 in
theorem count_any (w : World) (A : Option Addr) (n c : Nat) (l : List Rn) (hs : Rs w w.heap.size A n c l) (hL : Canon l) :
    Calls Try.prog 27 #[.agg #[.slice A n c]] w (Says w (.int .u64 (cntL l : Int))) := by
  have H := Lib.hid hs
  have HLEN : Hid (l.length = n) := hs.len
  have HC := Lib.hid hL
  have hmax := hs.sn.max
  have hle := hs.sn.le
  unfold maxLen at hmax
  clear hs hL
  obtain ⟨R, HR⟩ : ∃ R, Hid (R = cntL l) := ⟨_, rfl⟩
  rw [← HR.out]
  go_enter Try.func27, Try.ntmps27
  go_wp2_with fail
  have hb1 := below_box w (.cells #[.slice A n c] 27)
  have hc1 : (w.alloc (.cells #[.slice A n c] 27)).cell? ⟨w.heap.size, 0, none⟩ = some (.slice A n c) := cell_last w _ _ _ 0 rfl
  have hz1 : w.heap.size < (w.alloc (.cells #[.slice A n c] 27)).heap.size := by simp
  have H1 := Lib.hid (H.out.onA (.cells #[.slice A n c] 27))
  generalize w.alloc (.cells #[.slice A n c] 27) = w1 at *
  go_loopg [3, 9] n (fun gk vc vi wr => CntRel w1 l gk vc vi wr)
  case atStart => exact ⟨0, 0, by have := HLEN.out; omega, rfl, rfl, rfl, by unfold two64; omega, Below.refl _ _⟩
  case round =>
    obtain ⟨k, a, hg, rfl, rfl, hcn, ha, hbel⟩ := hrel
    have HG := Lib.hid hg
    have HCN := Lib.hid hcn
    have HA := Lib.hid ha
    clear hg hcn ha
    have hsr := H1.out.below hbel (Nat.le_refl _)
    have hcx := (hbel.cell (p := ⟨w.heap.size, 0, none⟩) hz1).trans hc1
    by_cases hk : k < n
    · have hkI : (k : Int) < (n : Int) := by omega
      have hk0 : (0 : Int) ≤ (k : Int) := by omega
      obtain ⟨b, o, r, rfl, hbB, hx, hq0, hq1, h1, h2⟩ := hsr.at_ hk
      have HDR : Hid (l.drop k = r :: l.drop (k + 1)) := by
        show _ = _
        rw [List.drop_eq_getElem_cons (by have := HLEN.out; omega)]
        rw [List.getElem?_eq_getElem (by have := HLEN.out; omega)] at hx
        injection hx with hx
        rw [hx]
      have hrr := HC.out.ok r (List.mem_of_getElem? hx)
      have hrI : (r.1 : Int) ≤ (r.2 : Int) := by omega
      unfold two64 at h1 h2
      clear hx hsr
      go_wp2
      go_roundg (gk - 1)
      case measure => have := HG.out; have := HLEN.out; omega
      case rel => exact ⟨k + 1, (a + (r.2 - r.1 + 1)) % two64, by have := HG.out; have := HLEN.out; omega, by rw [wrap_cnt a r.1 r.2 hrr], by go_num, by rw [HCN.out, HDR.out, cntGo], Nat.mod_lt _ (by unfold two64; omega), hbel.trans ((below_box wr _).mono hbel.size)⟩
    · have hkI : ¬ (k : Int) < (n : Int) := by omega
      have hE : cntGo 0 l = a := by rw [HCN.out, List.drop_eq_nil_of_le (by have := HLEN.out; omega), cntGo]
      have HBW : Hid (Below w.heap.size w wr) := hb1.trans (hbel.mono (by omega))
      have HE := Lib.hid hE
      clear hsr hE
      by_cases ha0 : a = 0
      · subst ha0
        rcases Nat.eq_zero_or_pos n with hn0 | hn0
        · subst hn0
          have HV : Hid (R = 0) := by
            have hl : l = [] := List.eq_nil_of_length_eq_zero HLEN.out
            show _ = _
            rw [HR.out, hl]
            rfl
          go_wp2
          go_ret
          exact ⟨by rw [HV.out]; rfl, HBW.out⟩
        · have HV : Hid (R = 18446744073709551615) := by
            show _ = _
            rw [HR.out]
            unfold cntL
            rw [if_pos ⟨HE.out, fun e => by have := HLEN.out; rw [e] at this; simp at this; omega⟩]
            rfl
          have hnI : (0 : Int) < (n : Int) := by omega
          go_wp2
          go_ret
          exact ⟨by rw [HV.out]; rfl, HBW.out⟩
      · have HV : Hid (R = a) := by
          show _ = _
          rw [HR.out]
          unfold cntL
          rw [if_neg (fun h => ha0 (HE.out.symm.trans h.1)), HE.out]
        have haI : ((a : Int) == 0) = false := by simp; omega
        clear ha0
        go_wp2
        go_ret
        exact ⟨by rw [HV.out]; rfl, HBW.out⟩

/-! ### set -/
def SetRel (w : World) (X : Nat) (L : List Rn) (gk : Nat) (vi : Value) (wr : World) : Prop :=
  ∃ (k : Nat) (A : Option Addr) (n c : Nat), gk + k = L.length ∧ vi = .int .i64 (k : Int) ∧ wr.heap[X]? = some (.cells #[.slice A n c] 27 (0, 0)) ∧ St wr wr.heap.size A n c (setL (L.take k)) ∧ (∀ b o, A = some ⟨b, o, none⟩ → X < b) ∧ Below w.heap.size w wr
theorem set_take_ok {L : List Rn} (h : ∀ q ∈ L, q.1 < two64 ∧ q.2 < two64) (k : Nat) : Okl (setL (L.take k)) ∧ (setL (L.take k)).length ≤ L.length := by
  obtain ⟨h1, _, h3⟩ := set_spec (L.take k) (fun q hq => h q (List.mem_of_mem_take hq))
  rw [List.length_take] at h3
  exact ⟨h1, by omega⟩
theorem setCell_row (w : World) (X : Nat) (t : TypeId) (u v : Value) (h : w.heap[X]? = some (.cells #[u] t (0, 0))) : (w.setCell ⟨X, 0, none⟩ v).heap[X]? = some (.cells #[v] t (0, 0)) := by
  simp [World.setCell, Array.getElem?_modify, h]
set_option maxRecDepth 100000 in
set_option maxHeartbeats 400000 in
theorem set3_any (w : World) (A : Option Addr) (n c : Nat) (l : List Rn) (hs : Rs w w.heap.size A n c l) (hn : n ≤ 400) :
    Calls Try.prog 16 #[.slice A n c] w (SaysS w 0 (setL l)) := by
  have H := Lib.hid hs
  have HLEN : Hid (l.length = n) := hs.len
  have HLT := Lib.hid hs.lt
  clear hs
  go_enter Try.func16, Try.ntmps16
  go_wp2_with fail
  have hb1 : Below w.heap.size w ((w.alloc (.cells #[.slice none 0 0] 27)).alloc (.cells #[.slice none 0 0] 27)) := (below_box w _).alloc (by simp) _
  have hR : ((w.alloc (.cells #[.slice none 0 0] 27)).alloc (.cells #[.slice none 0 0] 27)).heap[w.heap.size]? = some (.cells #[.slice none 0 0] 27 (0, 0)) := (Below.heap_alloc _ _ _ (by simp)).trans (heap_alloc_new w _)
  have hX : ((w.alloc (.cells #[.slice none 0 0] 27)).alloc (.cells #[.slice none 0 0] 27)).heap[w.heap.size + 1]? = some (.cells #[.slice none 0 0] 27 (0, 0)) := by simpa using heap_alloc_new (w.alloc (.cells #[.slice none 0 0] 27)) (.cells #[.slice none 0 0] 27)
  have hz1 : ((w.alloc (.cells #[.slice none 0 0] 27)).alloc (.cells #[.slice none 0 0] 27)).heap.size = w.heap.size + 1 + 1 := by simp
  generalize (w.alloc (.cells #[.slice none 0 0] 27)).alloc (.cells #[.slice none 0 0] 27) = w1 at *
  have HR := Lib.hid hR
  have HX := Lib.hid hX
  have HZ := Lib.hid hz1
  clear hR hX hz1
  go_loopg [8] n (fun gk vi wr => SetRel w (w.heap.size + 1) l gk vi wr ∧ wr.heap[w.heap.size]? = some (.cells #[.slice none 0 0] 27 (0, 0)))
  case atStart => exact ⟨⟨0, none, 0, 0, by have := HLEN.out; omega, rfl, HX.out, St.nil_ _ _, fun b o e => (by cases e), hb1⟩, HR.out⟩
  case round =>
    obtain ⟨⟨k, A2, n2, c2, hg, rfl, hx, hst, hfar, hbel⟩, hr⟩ := hrel
    have HG := Lib.hid hg
    have HXr := Lib.hid hx
    have HST := Lib.hid hst
    have HRr := Lib.hid hr
    have HN2 : Hid (n2 ≤ 400) := by have := (set_take_ok HLT.out k).2; rw [hst.rs.len] at this; have := HLEN.out; show _ ≤ _; omega
    have hcx : wr.cell? ⟨w.heap.size + 1, 0, none⟩ = some (.slice A2 n2 c2) := by rw [cell_of_row wr _ 0 _ _ _ hx]; rfl
    have hcr : wr.cell? ⟨w.heap.size, 0, none⟩ = some (.slice none 0 0) := by rw [cell_of_row wr _ 0 _ _ _ hr]; rfl
    have hfx := frz_row (i := 0) hx
    have hfr := frz_row (i := 0) hr
    have HXL : Hid (w.heap.size + 1 < wr.heap.size) := World.block_lt_of_cell? wr _ hcx
    clear hg hx hst hr
    have hsr := H.out.below hbel (Nat.le_refl _)
    by_cases hk : k < n
    · have hkI : (k : Int) < (n : Int) := by omega
      have hk0 : (0 : Int) ≤ (k : Int) := by omega
      obtain ⟨b, o, r, rfl, hbB, hx, hq0, hq1, h1, h2⟩ := hsr.at_ hk
      have HTK : Hid (setL (l.take (k + 1)) = spanL (setL (l.take k)) r.1 r.2) := by show _ = _; rw [List.take_add_one, hx]; exact setL_snoc _ _
      clear hx hsr
      have hxl := HXL.out
      have hxl0 : w.heap.size < wr.heap.size := by omega
      go_wp2_with fail
      have hbx := below_box wr (.cells #[.int .u64 (r.1 : Int), .int .u64 (r.2 : Int)] 62)
      have HSX := Lib.hid (HST.out.on hbx (Nat.le_refl _))
      have HXx := Lib.hid ((hbx.block _ HXL.out).trans HXr.out)
      have HRx := Lib.hid ((hbx.block w.heap.size (by have := HXL.out; omega)).trans HRr.out)
      have HZx : Hid (w.heap.size + 1 < (wr.alloc (.cells #[.int .u64 (r.1 : Int), .int .u64 (r.2 : Int)] 62)).heap.size) := Nat.lt_of_lt_of_le HXL.out hbx.size
      have HBx : Hid (Below w.heap.size w (wr.alloc (.cells #[.int .u64 (r.1 : Int), .int .u64 (r.2 : Int)] 62))) := hbel.trans (hbx.mono hbel.size)
      generalize wr.alloc (.cells #[.int .u64 (r.1 : Int), .int .u64 (r.2 : Int)] 62) = wb at *
      by_cases hft : r.2 < r.1
      · refine (span_same wb A2 n2 c2 r.1 r.2 hft).mono ?_
        rintro e w3 ⟨rfl, hb3⟩
        have hx3 := (hb3.block _ HZx.out).trans HXx.out
        have hcx3 : w3.cell? ⟨w.heap.size + 1, 0, none⟩ = some (.slice A2 n2 c2) := by rw [cell_of_row w3 _ 0 _ _ _ hx3]; rfl
        have hfx3 := frz_row (i := 0) hx3
        have HX3 := Lib.hid (setCell_row w3 (w.heap.size + 1) 27 _ (.slice A2 n2 c2) hx3)
        have HR3 : Hid ((w3.setCell ⟨w.heap.size + 1, 0, none⟩ (.slice A2 n2 c2)).heap[w.heap.size]? = some (.cells #[.slice none 0 0] 27 (0, 0))) := ((((Below.refl (w.heap.size + 1) w3).setCell (p := ⟨w.heap.size + 1, 0, none⟩) (Nat.le_refl _) _).block _ (by omega)).trans ((hb3.block w.heap.size (by have := HZx.out; omega)).trans HRx.out))
        have HB3 : Hid (Below w.heap.size w (w3.setCell ⟨w.heap.size + 1, 0, none⟩ (.slice A2 n2 c2))) := (HBx.out.trans (hb3.mono HBx.out.size)).setCell (by show w.heap.size ≤ w.heap.size + 1; omega) _
        have HS3 : Hid (St (w3.setCell ⟨w.heap.size + 1, 0, none⟩ (.slice A2 n2 c2)) (w3.setCell ⟨w.heap.size + 1, 0, none⟩ (.slice A2 n2 c2)).heap.size A2 n2 c2 (setL (l.take k))) := by
          have h3 := HSX.out.on hb3 (Nat.le_refl _)
          have hz : w3.heap.size ≤ (w3.setCell ⟨w.heap.size + 1, 0, none⟩ (.slice A2 n2 c2)).heap.size := by simp [World.setCell]
          exact ⟨(h3.rs.off (p := ⟨w.heap.size + 1, 0, none⟩) (fun b o e => by have := hfar b o e; show b ≠ w.heap.size + 1; omega) _).more hz, fun b o e => Nat.lt_of_lt_of_le (h3.lies b o e) hz⟩
        have HE : Hid (setL (l.take (k + 1)) = setL (l.take k)) := by show _ = _; rw [HTK.out]; unfold spanL; rw [if_pos hft]
        clear hx3 hb3 hcx hcr hfx hfr
        go_wp2
        go_roundg (gk - 1)
        case measure => have := HG.out; have := HLEN.out; omega
        case rel => exact ⟨⟨k + 1, A2, n2, c2, by have := HG.out; have := HLEN.out; omega, by go_num, HX3.out, by rw [HE.out]; exact HS3.out, hfar, HB3.out⟩, HR3.out⟩
      · refine (span_grow wb A2 n2 c2 r.1 r.2 (setL (l.take k)) HSX.out.rs h1 h2 (by have := HN2.out; omega) hft).mono ?_
        rintro e w3 ⟨A3, n3, c3, rfl, hs3, hp3, hb3⟩
        have hfar3 : ∀ b o, A3 = some ⟨b, o, none⟩ → w.heap.size + 1 < b := fun b o e => by have := hp3 b o e; have := HZx.out; omega
        have hx3 := (hb3.block _ HZx.out).trans HXx.out
        have hcx3 : w3.cell? ⟨w.heap.size + 1, 0, none⟩ = some (.slice A2 n2 c2) := by rw [cell_of_row w3 _ 0 _ _ _ hx3]; rfl
        have hfx3 := frz_row (i := 0) hx3
        have HX3 := Lib.hid (setCell_row w3 (w.heap.size + 1) 27 _ (.slice A3 n3 c3) hx3)
        have HR3 : Hid ((w3.setCell ⟨w.heap.size + 1, 0, none⟩ (.slice A3 n3 c3)).heap[w.heap.size]? = some (.cells #[.slice none 0 0] 27 (0, 0))) := ((((Below.refl (w.heap.size + 1) w3).setCell (p := ⟨w.heap.size + 1, 0, none⟩) (Nat.le_refl _) _).block _ (by omega)).trans ((hb3.block w.heap.size (by have := HZx.out; omega)).trans HRx.out))
        have HB3 : Hid (Below w.heap.size w (w3.setCell ⟨w.heap.size + 1, 0, none⟩ (.slice A3 n3 c3))) := (HBx.out.trans (hb3.mono HBx.out.size)).setCell (by show w.heap.size ≤ w.heap.size + 1; omega) _
        have HS3 : Hid (St (w3.setCell ⟨w.heap.size + 1, 0, none⟩ (.slice A3 n3 c3)) (w3.setCell ⟨w.heap.size + 1, 0, none⟩ (.slice A3 n3 c3)).heap.size A3 n3 c3 (setL (l.take (k + 1)))) := by
          rw [HTK.out]
          have hz : w3.heap.size ≤ (w3.setCell ⟨w.heap.size + 1, 0, none⟩ (.slice A3 n3 c3)).heap.size := by simp [World.setCell]
          exact ⟨(hs3.rs.off (p := ⟨w.heap.size + 1, 0, none⟩) (fun b o e => by have := hfar3 b o e; show b ≠ w.heap.size + 1; omega) _).more hz, fun b o e => Nat.lt_of_lt_of_le (hs3.lies b o e) hz⟩
        clear hx3 hb3 hcx hcr hfx hfr hs3 hp3
        go_wp2
        go_roundg (gk - 1)
        case measure => have := HG.out; have := HLEN.out; omega
        case rel => exact ⟨⟨k + 1, A3, n3, c3, by have := HG.out; have := HLEN.out; omega, by go_num, HX3.out, HS3.out, hfar3, HB3.out⟩, HR3.out⟩
    · have hkI : ¬ (k : Int) < (n : Int) := by omega
      have HE : Hid (l.take k = l) := List.take_of_length_le (by have := HLEN.out; omega)
      have hc6 : (wr.setCell ⟨w.heap.size, 0, none⟩ (.slice A2 n2 c2)).cell? ⟨w.heap.size, 0, none⟩ = some (.slice A2 n2 c2) := World.cell?_setCell_same _ _ _ hcr
      clear hsr
      go_wp2
      refine bodyPost_ret (v := .agg #[.slice A2 n2 c2]) (by simp [results, Try.results16, go_sem, hc6]) rfl ?_
      have hst := HST.out
      rw [HE.out] at hst
      exact res_set (M := w.heap.size + 1) hbel (Nat.le_refl _) (by omega) hst (fun b o e => .inr (by have := hfar b o e; omega)) (Nat.zero_le _) _
end Go.Proofs.Ytefoeebchjnfaaa
