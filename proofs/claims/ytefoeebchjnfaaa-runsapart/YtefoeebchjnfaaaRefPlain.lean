/-
  CONTRACT of the reference's Plain.
  No statement is proved here.
-/
import Derived.Test.YtefoeebchjnfaaaPlainMath
namespace Go.Proofs.Ytefoeebchjnfaaa
open Go.RowKit

def OwnP (w : World) (base : Nat) (A : Option Addr) (n c : Nat) (L : List Rn) : Prop := w.ownsRow base 49 2 (.slice A n c) n (rvs L)
def PlainRel (w : World) (l : List Rn) (gk : Nat) (vo va : Value) (wr : World) : Prop :=
  ∃ (A : Option Addr) (n c a : Nat) (P : List Rn), vo = .slice A n c ∧ va = .int .u64 (a : Int) ∧ OwnP wr w.heap.size A n c P ∧ PlainSt l a P ∧ left l a ≤ gk ∧ n + left l a ≤ l.length ∧ Below w.heap.size w wr
/-- While a run grows: its cell is block Y; below Y nothing has turned since wp. -/
def GrowRel (wp : World) (Y : Nat) (l : List Rn) (a f t1 gk : Nat) (vg : Value) (wr : World) : Prop :=
  ∃ (t : Nat) (g : Bool), vg = .bool g ∧ wr.heap[Y]? = some (.cells #[.int .u64 (f : Int), .int .u64 (t : Int)] 49 (0, 0)) ∧ GrowSt l a f t ∧ t1 ≤ t ∧ (g = false → closed3 l t) ∧ left l (t + 1) + (if g = true then 1 else 0) ≤ gk ∧ Below Y wp wr
def PassRel (wp : World) (Y : Nat) (l : List Rn) (a f t0 gk : Nat) (vg vi : Value) (wr : World) : Prop :=
  ∃ (k t : Nat) (g : Bool), gk + k = l.length ∧ vg = .bool g ∧ vi = .int .i64 (k : Int) ∧ wr.heap[Y]? = some (.cells #[.int .u64 (f : Int), .int .u64 (t : Int)] 49 (0, 0)) ∧ GrowSt l a f t ∧ t0 ≤ t ∧
    (g = false → t = t0 ∧ ∀ j x, j < k → l[j]? = some x → ¬ ext x t) ∧ (g = true → t0 < t ∧ ∃ x ∈ l, x.2 = t) ∧ Below Y wp wr

theorem Far.of_ownP {w : World} {base X : Nat} {A : Option Addr} {n c : Nat} {L : List Rn} (h : OwnP w base A n c L) (hX : w.heap.size ≤ X) : Far X A := by
  intro p e
  subst e
  have := (h.lt p.block (by simp [Value.ownBlock])).2
  omega
theorem setCell1_row (w : World) (X : Nat) (t : TypeId) (a u v : Value) (h : w.heap[X]? = some (.cells #[a, u] t (0, 0))) : (w.setCell ⟨X, 1, none⟩ v).heap[X]? = some (.cells #[a, v] t (0, 0)) := by
  simp [World.setCell, Array.getElem?_modify, h]

set_option maxRecDepth 100000 in
set_option maxHeartbeats 4000000 in
theorem plain_any (w : World) (A : Option Addr) (n c : Nat) (l : List Rn) (hs : Rs w w.heap.size A n c l) (hn : n ≤ 100000) :
    Calls Try.prog 17 #[.slice A n c] w (SaysR w (setL l)) := by
  obtain ⟨i0, hi0, hz0, hz1, hz2⟩ := info_parts rrun_info
  have H := Lib.hid hs
  have HLEN : Hid (l.length = n) := hs.len
  have HLT := Lib.hid hs.lt
  have HOK := Lib.hid (set_spec l hs.lt).1
  clear hs
  obtain ⟨R, HR⟩ : ∃ R, Hid (R = setL l) := ⟨_, rfl⟩
  rw [← HR.out]
  go_enter Try.func17, Try.ntmps17
  go_wp2
  go_loopg [3, 4] n (fun gk vo va wr => PlainRel w l gk vo va wr)
  case atStart => exact ⟨none, 0, 0, 0, [], rfl, rfl, ⟨rfl, .inl ⟨rfl, rfl⟩⟩, PlainSt.start l, by rw [← HLEN.out]; exact List.countP_le_length, by rw [Nat.zero_add]; exact List.countP_le_length, Below.refl _ _⟩
  case round =>
    obtain ⟨A2, n2, c2, a, P, rfl, rfl, hown, hst, hgk, hnl, hbel⟩ := hrel
    have HOWN := Lib.hid hown
    have HST := Lib.hid hst
    have HGK := Lib.hid hgk
    have HNL := Lib.hid hnl
    clear hown hst hgk hnl
    have hsr := H.out.below hbel (Nat.le_refl _)
    have HSR := Lib.hid (hsr.more hbel.size)
    clear hsr
    go_wp2_with fail
    refine (lower_any wr A n c a l HSR.out).mono ?_
    rintro e wp ⟨z, rfl, hbest, hbp⟩
    have HOP : Hid (OwnP wp w.heap.size A2 n2 c2 P) := HOWN.out.kept (only_below' hbp) (by cases (Value.slice A2 n2 c2).ownBlock <;> simp)
    have hbw : Below w.heap.size w wp := hbel.trans (hbp.mono hbel.size)
    have HSP := Lib.hid (HSR.out.on hbp (Nat.le_refl _))
    clear hbp hbel HOWN HSR
    rcases hbest with ⟨rfl, hnone⟩ | ⟨p, q, rfl, hp, hq, ho, hmin⟩
    · have HE : Hid (P = R) := by
        show _ = _
        rw [HR.out]
        refine HST.out.done HLT.out fun r hr => ?_
        obtain ⟨j, hj, hjr⟩ := List.getElem_of_mem hr
        exact hnone j r hj (by rw [List.getElem?_eq_getElem hj, hjr])
      clear hnone
      go_wp2
      go_ret
      have h := HOP.out
      rw [HE.out] at h
      exact ⟨A2, n2, c2, rfl, Rs.of_own h (by rw [HR.out]; exact HOK.out.lt), hbw⟩
    · have hpn : p < n := by have := HLEN.out; omega
      have hp0 : (0 : Int) ≤ (p : Int) := by omega
      have hpI : (p : Int) < (n : Int) := by omega
      have hpd : ¬ (p : Int) < 0 := by omega
      obtain ⟨b, o, q', rfl, hbB, hx, hq0, hq1, h1, h2⟩ := HSP.out.at_ hpn
      rw [hq] at hx
      injection hx with hx
      subst hx
      have HGS := Lib.hid (grow_start (List.mem_of_getElem? hq) ho (fun r hr hok => by
        obtain ⟨j, hj, hjr⟩ := List.getElem_of_mem hr
        exact hmin j r hj (by rw [List.getElem?_eq_getElem hj, hjr]) hok) HLT.out)
      have HLF : Hid (left l (q.2 + 1) < left l a) := left_lt (List.mem_of_getElem? hq) (by have := ho.2; omega) ho.2 (by omega)
      clear hmin hq
      have hmx : (if q.1 < a then (a : Int) else (q.1 : Int)) = ((max q.1 a : Nat) : Int) := by split <;> omega
      have HMX := Lib.hid hmx
      clear hmx
      go_wp2_with fail
      go_region
      rw [HMX.out]
      obtain ⟨t1, ht1⟩ : ∃ t1, t1 = q.2 := ⟨_, rfl⟩
      rw [← ht1] at HGS HLF ⊢
      clear ht1 HMX
      generalize max q.1 a = f at *
      have hb6 : Below wp.heap.size wp (wp.alloc (.cells #[.int .u64 (f : Int), .int .u64 (t1 : Int)] 49)).drew := (below_box wp _).drew
      have hY6 : (wp.alloc (.cells #[.int .u64 (f : Int), .int .u64 (t1 : Int)] 49)).drew.heap[wp.heap.size]? = some (.cells #[.int .u64 (f : Int), .int .u64 (t1 : Int)] 49 (0, 0)) := heap_alloc_new wp _
      generalize (wp.alloc (.cells #[.int .u64 (f : Int), .int .u64 (t1 : Int)] 49)).drew = w6 at *
      obtain ⟨Y, HY⟩ : ∃ Y, Hid (Y = wp.heap.size) := ⟨_, rfl⟩
      rw [← HY.out] at hb6 hY6 ⊢
      have HB6 := Lib.hid hb6
      have HY6 := Lib.hid hY6
      clear hb6 hY6 hq0 hq1 ho h1 h2
      go_wp2_with fail
      go_loopg [7] (left l (t1 + 1) + 1) (fun gk vg wr => GrowRel wp Y l a f t1 gk vg wr)
      case atStart => exact ⟨t1, true, rfl, HY6.out, HGS.out, Nat.le_refl _, fun h => (by cases h), by simp, HB6.out⟩
      case round =>
        obtain ⟨t, g, rfl, hY, hgs, ht1, hcl, hgk, hbel⟩ := hrel
        have HT1 := Lib.hid ht1
        have HYr := Lib.hid hY
        have HGR := Lib.hid hgs
        have HCL := Lib.hid hcl
        have HGK2 := Lib.hid hgk
        have HBL := Lib.hid hbel
        clear hY hgs hcl hgk hbel ht1
        cases g
        · have hYr := HYr.out
          have hbl := HBL.out
          have hcY0 : wr.cell? ⟨Y, 0, none⟩ = some (.int .u64 (f : Int)) := by rw [cell_of_row wr _ 0 _ _ _ hYr]; rfl
          have hcY1 : wr.cell? ⟨Y, 1, none⟩ = some (.int .u64 (t : Int)) := by rw [cell_of_row wr _ 1 _ _ _ hYr]; rfl
          have hYlt : Y < wr.heap.size := World.block_lt_of_cell? wr _ hcY0
          have HOR : Hid (OwnP wr w.heap.size A2 n2 c2 P) := HOP.out.kept (only_below' (by rw [← HY.out]; exact hbl)) (by cases (Value.slice A2 n2 c2).ownBlock <;> simp)
          have HBW : Hid (Below w.heap.size w wr) := hbw.trans (hbl.mono (by rw [HY.out]; exact hbw.size))
          have hwY : w.heap.size ≤ Y := by rw [HY.out]; exact hbw.size
          have hwz : w.heap.size ≤ wr.heap.size := HBW.out.size
          have HC := Lib.hid (HCL.out rfl)
          have HTL : Hid (t < 18446744073709551616) := HGR.out.lt
          have HN2 : Hid (n2 + 1 ≤ 100000) := by have := HNL.out; have := HLF.out; have := HLEN.out; show _ ≤ _; omega
          have hD : DstN (wr.alloc (.cells #[.int .u64 (f : Int), .int .u64 (t : Int)] 49)) w.heap.size 49 A2 n2 c2 2 (rvs P) := DstN.alloc (.inr HOR.out) _
          have HD := Lib.hid hD
          have HFAR : Hid (Far Y A2) := Far.of_ownP HOP.out (by rw [HY.out]; exact Nat.le_refl _)
          clear hYr hbl hD hbw
          have HP2 : Hid (rvs P ++ rv (f, t) = rvs (P ++ [(f, t)])) := by show _ = _; rw [rvs_app, rvs_one1]
          by_cases hm : t = 18446744073709551615
          · have hmI : ((t : Int) == 18446744073709551615) = true := by simp; omega
            have HE : Hid (P ++ [(f, t)] = R) := by show _ = _; rw [HR.out]; exact HST.out.last HLT.out HGR.out (by rw [hm]; rfl)
            clear hm
            go_wp2_with (at_builtin; refine wpList_append_dstN _ rfl (.tmp 67) (.tmp 69) 29 29 rfl w.heap.size 49 i0 _ 2 16 Try.underlying29 hi0 hz0 hz1 hz2 rfl A2 n2 c2 (rvs P) rfl HD.out _ 1 (rv (f, t)) rfl ((lit_sn wr 49 (rv (f, t)) 1 2 rfl (by unfold maxLen; omega)).src Try.underlying29 (rv_one (f, t))) (by have := HN2.out; omega) (by have := HN2.out; omega) (by simp; omega) ?_; intro A3 c3 w3 h1 h2 h3 h4 h5 h6; have HY3 := Lib.hid ((grown_keep (X := Y) h5 (by simp; omega) HFAR.out).trans ((Below.heap_alloc _ _ _ hYlt).trans HYr.out)); have hd1 : w3.cell? ⟨Y, 1, none⟩ = some (.int .u64 (t : Int)) := (by rw [cell_of_row w3 _ 1 _ _ _ HY3.out]; rfl); have HO3 := Lib.hid (h2 (by omega)); have HB3 := Lib.hid h4; clear h1 h2 h3 h4 h5 h6)
            go_ret
            have ho := HO3.out
            rw [HP2.out, HE.out] at ho
            exact ⟨A3, n2 + 1, c3, rfl, Rs.of_own ho (by rw [HR.out]; exact HOK.out.lt), HBW.out.trans (((below_box wr _).mono hwz).trans HB3.out)⟩
          · have hmI : ((t : Int) == 18446744073709551615) = false := by simp; omega
            have ht1I : (t : Int) + 1 < 18446744073709551616 := by have := HTL.out; omega
            have HNX := Lib.hid (HST.out.next HGR.out HC.out (by have := HTL.out; unfold two64; omega))
            have HLL : Hid (left l (t + 1) < left l a) := by have := left_mono l (show t1 + 1 ≤ t + 1 from by have := HT1.out; omega); have := HLF.out; show _ < _; omega
            clear hm
            go_wp2_with (at_builtin; refine wpList_append_dstN _ rfl (.tmp 67) (.tmp 69) 29 29 rfl w.heap.size 49 i0 _ 2 16 Try.underlying29 hi0 hz0 hz1 hz2 rfl A2 n2 c2 (rvs P) rfl HD.out _ 1 (rv (f, t)) rfl ((lit_sn wr 49 (rv (f, t)) 1 2 rfl (by unfold maxLen; omega)).src Try.underlying29 (rv_one (f, t))) (by have := HN2.out; omega) (by have := HN2.out; omega) (by simp; omega) ?_; intro A3 c3 w3 h1 h2 h3 h4 h5 h6; have HY3 := Lib.hid ((grown_keep (X := Y) h5 (by simp; omega) HFAR.out).trans ((Below.heap_alloc _ _ _ hYlt).trans HYr.out)); have hd1 : w3.cell? ⟨Y, 1, none⟩ = some (.int .u64 (t : Int)) := (by rw [cell_of_row w3 _ 1 _ _ _ HY3.out]; rfl); have HO3 := Lib.hid (h2 (by omega)); have HB3 := Lib.hid h4; clear h1 h2 h3 h4 h5 h6)
            go_roundg (left l (t + 1))
            case measure => have := HLL.out; have := HGK.out; omega
            case rel =>
              have ho := HO3.out
              rw [HP2.out] at ho
              exact ⟨A3, n2 + 1, c3, t + 1, _, rfl, by go_num, ho, HNX.out, Nat.le_refl _, by have := HLL.out; have := HNL.out; omega, HBW.out.trans (((below_box wr _).mono hwz).trans HB3.out)⟩
        · go_wp2_with fail
          go_loopg [7, 32] n (fun gk vg vi wr => PassRel wp Y l a f t gk vg vi wr)
          case atStart => exact ⟨0, t, false, by have := HLEN.out; omega, rfl, rfl, HYr.out, HGR.out, Nat.le_refl _, fun _ => ⟨rfl, fun j x hj => by omega⟩, fun h => (by cases h), HBL.out⟩
          case round =>
            obtain ⟨k, t2, g2, hg, rfl, rfl, hY, hgs, htt, hf, htr, hbel⟩ := hrel
            have HG := Lib.hid hg
            have HY2 := Lib.hid hY
            have HG2 := Lib.hid hgs
            have HF2 := Lib.hid hf
            have HT2 := Lib.hid htr
            have HTT := Lib.hid htt
            have hcY0 : wr.cell? ⟨Y, 0, none⟩ = some (.int .u64 (f : Int)) := by rw [cell_of_row wr _ 0 _ _ _ hY]; rfl
            have hcY1 : wr.cell? ⟨Y, 1, none⟩ = some (.int .u64 (t2 : Int)) := by rw [cell_of_row wr _ 1 _ _ _ hY]; rfl
            have hfY1 := frz_row (i := 1) hY
            have hYlt : Y < wr.heap.size := World.block_lt_of_cell? wr _ hcY0
            have hYw : wp.heap.size ≤ Y := by rw [HY.out]; exact Nat.le_refl _
            clear hg hY hgs hf htr htt
            have hsr := HSP.out.below (hbel.mono hYw) (Nat.le_refl _)
            by_cases hk : k < n
            · have hkI : (k : Int) < (n : Int) := by omega
              have hk0 : (0 : Int) ≤ (k : Int) := by omega
              obtain ⟨b', o', x, e', hbB', hx, hq0, hq1, h1, h2⟩ := hsr.at_ hk
              injection e' with e'
              injection e' with e1 e2
              subst e1 e2
              have HX := Lib.hid hx
              unfold two64 at h1 h2
              clear hx hsr
              have hbx := below_box wr (.cells #[.int .u64 (x.1 : Int), .int .u64 (x.2 : Int)] 49)
              have HYx := Lib.hid ((hbx.block _ hYlt).trans HY2.out)
              have HBx : Hid (Below Y wp (wr.alloc (.cells #[.int .u64 (x.1 : Int), .int .u64 (x.2 : Int)] 49))) := hbel.trans (hbx.mono (Nat.le_of_lt hYlt))
              have HNO : Hid (¬ ext x t2 → PassRel wp Y l a f t (gk - 1) (.bool g2) (.int .i64 ((k : Int) + 1)) (wr.alloc (.cells #[.int .u64 (x.1 : Int), .int .u64 (x.2 : Int)] 49))) := fun hne =>
                ⟨k + 1, t2, g2, by have := HG.out; have := HLEN.out; omega, rfl, by go_num, HYx.out, HG2.out, HTT.out, fun hg => ⟨(HF2.out hg).1, fun j y hj hy => by
                  rcases Nat.lt_or_ge j k with hjk | hjk
                  · exact (HF2.out hg).2 j y hjk hy
                  · obtain rfl : j = k := by omega
                    rw [HX.out] at hy
                    injection hy with hy
                    subst hy
                    exact hne⟩, HT2.out, HBx.out⟩
              have HYES : Hid (ext x t2 → PassRel wp Y l a f t (gk - 1) (.bool true) (.int .i64 ((k : Int) + 1)) ((wr.setCell ⟨Y, 1, none⟩ (.int .u64 (x.2 : Int))).alloc (.cells #[.int .u64 (x.1 : Int), .int .u64 (x.2 : Int)] 49))) := fun he =>
                ⟨k + 1, x.2, true, by have := HG.out; have := HLEN.out; omega, rfl, by go_num, (Below.heap_alloc _ _ _ (by simpa [World.setCell] using hYlt)).trans (setCell1_row _ _ _ _ _ _ HY2.out), HG2.out.grow (List.mem_of_getElem? HX.out) HLT.out he, by have := HTT.out; have := he.2.1; omega, fun hg => (by cases hg),
                  fun _ => ⟨by have := HTT.out; have := he.2.1; omega, x, List.mem_of_getElem? HX.out, rfl⟩, (hbel.setCell (p := ⟨Y, 1, none⟩) (Nat.le_refl _) _).alloc (by simpa [World.setCell] using Nat.le_of_lt hYlt) _⟩
              clear hbx
              by_cases h3 : x.1 ≤ x.2
              · have h3I : (x.1 : Int) ≤ (x.2 : Int) := by omega
                by_cases h4 : t2 < x.2
                · have h4I : (t2 : Int) < (x.2 : Int) := by omega
                  by_cases h5 : x.1 ≤ t2
                  · have h5I : (x.1 : Int) ≤ (t2 : Int) := by omega
                    go_wp2
                    go_roundg (gk - 1)
                    case measure => have := HG.out; have := HLEN.out; omega
                    case rel => exact HYES.out ⟨h3, h4, .inl h5⟩
                  · have h5I : ¬ (x.1 : Int) ≤ (t2 : Int) := by omega
                    have h1x : (1 : Int) ≤ (x.1 : Int) := by omega
                    by_cases h6 : x.1 = t2 + 1
                    · have h6I : ((x.1 : Int) - 1 == (t2 : Int)) = true := by simp; omega
                      have H6 := Lib.hid h6
                      clear h6
                      go_wp2
                      go_roundg (gk - 1)
                      case measure => have := HG.out; have := HLEN.out; omega
                      case rel => exact HYES.out ⟨h3, h4, .inr H6.out⟩
                    · have h6I : ((x.1 : Int) - 1 == (t2 : Int)) = false := by simp; omega
                      go_wp2
                      go_roundg (gk - 1)
                      case measure => have := HG.out; have := HLEN.out; omega
                      case rel => exact HNO.out (fun h => by have := h.2.2; omega)
                · have h4I : ¬ (t2 : Int) < (x.2 : Int) := by omega
                  go_wp2
                  go_roundg (gk - 1)
                  case measure => have := HG.out; have := HLEN.out; omega
                  case rel => exact HNO.out (fun h => h4 h.2.1)
              · have h3I : ¬ (x.1 : Int) ≤ (x.2 : Int) := by omega
                go_wp2
                go_roundg (gk - 1)
                case measure => have := HG.out; have := HLEN.out; omega
                case rel => exact HNO.out (fun h => h3 h.1)
            · have hkI : ¬ (k : Int) < (n : Int) := by omega
              have HGKN : Hid (left l (t2 + 1) + (if g2 = true then 1 else 0) < left l (t + 1) + 1) := by
                show _ < _
                cases g2
                · have := (HF2.out rfl).1
                  subst this
                  simp
                · obtain ⟨h7, y, hy, hy2⟩ := HT2.out rfl
                  have := left_lt (a := t + 1) (b := t2 + 1) hy (by omega) (by omega) (by omega)
                  simp
                  omega
              clear hsr
              go_wp2
              go_roundg (left l (t2 + 1) + (if g2 = true then 1 else 0))
              case measure => have := HGKN.out; have := HGK2.out; simp at this ⊢; omega
              case rel => exact ⟨t2, g2, rfl, HY2.out, HG2.out, by have := HT1.out; have := HTT.out; omega, fun hg x hx => by
                obtain ⟨j, hj, hjx⟩ := List.getElem_of_mem hx
                exact (HF2.out hg).2 j x (by have := HG.out; have := HLEN.out; omega) (by rw [List.getElem?_eq_getElem hj, hjx]), Nat.le_refl _, hbel⟩
end Go.Proofs.Ytefoeebchjnfaaa
