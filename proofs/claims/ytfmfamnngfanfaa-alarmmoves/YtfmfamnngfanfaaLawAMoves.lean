/-
  WALK of AlarmMoves.
-/
import Derived.Test.YtfmfamnngfanfaaAlarmTwo
namespace Go.Proofs.Ytfmfamnngfanfaa
open Go.RowKit Go.Sort

def MovRel (w : World) (B1 B2 a b id n gk : Nat) (vi : Value) (wr : World) : Prop :=
  ∃ (k : Nat) (Sa Sb : Nat → Prop) (la : List En), gk + k = n ∧ vi = .int .i64 (k : Int) ∧ la.length ≤ k + 1 ∧ la.length ≤ 61 ∧ Two w wr B1 B2 a b Sa Sb la (without id la)
def LeftRel (w : World) (id : Nat) (T : List Nat) (n gk : Nat) (v15 vi : Value) (wr : World) : Prop :=
  ∃ (k : Nat) (A : Option Addr) (m c : Nat), gk + k = n ∧ vi = .int .i64 (k : Int) ∧ v15 = .slice A m c ∧ wr.ownsRow w.heap.size 47 1 (.slice A m c) m (unvs ((T.take k).filter (fun x => decide (x ≠ id)))) ∧ RowKit.Below w.heap.size w wr
set_option maxRecDepth 100000 in
set_option maxHeartbeats 8000000 in
theorem alarmMoves_law (w : World) (A : Option Addr) (n c : Nat) (L : List Ac) (hL : As w w.heap.size A n c L) (id0 : Int) (hid0 : 0 ≤ id0 ∧ id0 ≤ 18446744073709551615) (at_ : Int) (hat : -9223372036854775808 ≤ at_ ∧ at_ ≤ 9223372036854775807) (thn : Int) (hthn : -9223372036854775808 ≤ thn ∧ thn ≤ 9223372036854775807) :
    Calls Try.prog 12 #[.slice A n c, .int .u64 id0, .int .i64 at_, .int .i64 thn] w (Says w (.bool true)) := by
  obtain ⟨i0, hi0, hz0, hz1, hz2⟩ := info_parts u64_info
  obtain ⟨id, rfl⟩ := Int.eq_ofNat_of_zero_le hid0.1
  have hid : id < 18446744073709551616 := by omega
  have HLA := Lib.hid hL
  have hnm : n ≤ 9223372036854775807 := Nat.le_trans hL.sn.le hL.sn.max
  clear hL hid0
  go_enter Try.func12, Try.ntmps12
  go_wp2_with fail
  refine (awake12_any w).mono ?_
  rintro e w1 ⟨rfl, hb1⟩
  have HB1 := Lib.hid hb1
  clear hb1
  go_wp2_with fail
  refine (anew_any w1).mono ?_
  rintro e w2 ⟨a, S1, rfl, h1, hb2⟩
  have H1 := Lib.hid h1
  have HB2 := Lib.hid hb2
  clear h1 hb2
  go_wp2_with fail
  refine (anew_any w2).mono ?_
  rintro e w3 ⟨b, S2, rfl, h2, hb3⟩
  have HTW : Hid (Two w w3 w1.heap.size w2.heap.size a b S1 S2 [] []) :=
    ⟨(HB1.out.trans (HB2.out.mono HB1.out.size)).trans (hb3.mono (Nat.le_trans HB1.out.size HB2.out.size)), H1.out.below hb3, h2, fun k hk hs => by have e1 := (H1.out.sl k hk).2; have e2 := (h2.sl k hs).1; omega, HB1.out.size, Nat.le_trans HB1.out.size HB2.out.size, ord_nil, ord_nil, fun e he => (by cases he), fun e he => (by cases he)⟩
  clear h2 hb3
  go_wp2_with fail
  refine (aset_any w3 S1 w1.heap.size a id at_ [] HTW.out.ha hid (by simp)).mono ?_
  rintro e w4 ⟨rfl, S1', h4, ho4, hs4⟩
  have HT4 := Lib.hid (HTW.out.set hat.2 h4 ho4 hs4)
  clear h4 ho4 hs4
  go_wp2_with fail
  generalize w1.heap.size = B1 at *
  generalize w2.heap.size = B2 at *
  go_loopg [28] n (fun gk vi wr => MovRel w B1 B2 a b id n gk vi wr)
  case atStart =>
    refine ⟨0, S1', S2, setE id at_ [], rfl, rfl, setE_le _ _ _, by have := setE_le id at_ []; simp at this; omega, ?_⟩
    have e : without id (setE id at_ []) = [] := by rw [without_set_same ord_nil]; rfl
    rw [e]
    exact HT4.out
  case round =>
    clear H1 HB1 HB2 HTW HT4
    obtain ⟨k, Sa, Sb, la, hgk, rfl, hlk, hl61, htw⟩ := hrel
    have HT := Lib.hid htw
    clear htw
    by_cases hlt : k < n
    · obtain ⟨bb, o, x, rfl, hbb, hx, c0, c1, c2, hok⟩ := (HLA.out.below HT.out.bel (Nat.le_refl _)).at_ hlt
      have HOK := Lib.hid hok
      have hne : ((x.id : Int) != (id : Int)) = ((x.id : Int) != (id : Int)) := rfl
      clear hx hok hne
      by_cases hk60 : k < 60
      · have hk60I : (k : Int) < 60 := by omega
        by_cases hxi : x.id = id
        · have hne : ((x.id : Int) != (id : Int)) = false := by simp [hxi]
          go_wp2_with fail
          go_roundg (gk - 1)
          case measure => omega
          case rel => exact ⟨k + 1, Sa, Sb, la, by omega, by go_num, by omega, hl61, HT.out.below (below_box _ _)⟩
        · have hne : ((x.id : Int) != (id : Int)) = true := by simp; omega
          have HXI : Hid (x.id ≠ id) := hxi
          have hT1 := HT.out.below (below_box wr (.cells #[.int .u8 (x.d : Int), .int .u64 (x.id : Int), .int .i64 x.t] 85))
          have HT1 := Lib.hid hT1
          have h1 := aset_any _ Sa B1 a x.id x.t la hT1.ha HOK.out.id (by omega)
          have HS1 := Lib.hid h1
          have hbs : ¬ Sa wr.heap.size := fun hs => by have := (HT.out.ha.sl _ hs).2; omega
          have HBS : Hid (¬ Sa wr.heap.size) := hbs
          clear hT1 h1 hbs
          go_wp2_with fail
          refine HS1.out.mono ?_
          rintro e w5 ⟨rfl, Sa', h5, ho5, hs5⟩
          have HT5 := Lib.hid (HT1.out.set HOK.out.t.2 h5 ho5 hs5)
          have hx5 : w5.heap[wr.heap.size]? = some (.cells #[.int .u8 (x.d : Int), .int .u64 (x.id : Int), .int .i64 x.t] 85 (0, 0)) := (ho5.block _ (by simp) HBS.out).trans (heap_alloc_new _ _)
          have hx1 : w5.cell? ⟨wr.heap.size, 1, none⟩ = some (.int .u64 (x.id : Int)) := (cell_of_row _ _ _ _ _ _ hx5).trans rfl
          have hx2 : w5.cell? ⟨wr.heap.size, 2, none⟩ = some (.int .i64 x.t) := (cell_of_row _ _ _ _ _ _ hx5).trans rfl
          have h2 := aset_any w5 Sb B2 b x.id x.t (without id la) HT5.out.hb HOK.out.id (by have := without_len id la; omega)
          have HS2 := Lib.hid h2
          clear h5 ho5 hs5 hx5 h2
          go_wp2_with fail
          refine HS2.out.mono ?_
          rintro e w6 ⟨rfl, Sb', h6, ho6, hs6⟩
          have HT6 := Lib.hid (HT5.out.swap.set HOK.out.t.2 h6 ho6 hs6).swap
          clear h6 ho6 hs6 hx1 hx2
          go_wp2_with fail
          go_roundg (gk - 1)
          case measure => omega
          case rel =>
            refine ⟨k + 1, Sa', Sb', setE x.id x.t la, by omega, by go_num, by have := setE_le x.id x.t la; omega, by have := setE_le x.id x.t la; omega, ?_⟩
            rw [without_set HT.out.oa HXI.out]
            exact HT6.out
      · have hk60I : ¬ (k : Int) < 60 := by omega
        go_wp2_with fail
        go_roundg (gk - 1)
        case measure => omega
        case rel => exact ⟨k + 1, Sa, Sb, la, by omega, by go_num, by omega, hl61, HT.out.below (below_box _ _)⟩
    · clear HLA
      go_wp2_with fail
      have h1 := aset_any wr Sa B1 a id thn la HT.out.ha hid (by omega)
      refine h1.mono ?_
      clear h1
      rintro e w5 ⟨rfl, Sa', h5, ho5, hs5⟩
      have HT5 := Lib.hid (HT.out.set hthn.2 h5 ho5 hs5)
      have HW : Hid (without id (setE id thn la) = without id la) := without_set_same HT.out.oa
      have HTO : Hid (timeOf id (setE id thn la) = some thn) := timeOf_set HT.out.oa
      have HLN : Hid ((setE id thn la).length = (without id la).length + 1) := setE_len id thn la
      have hlw := without_len id la
      clear h5 ho5 hs5
      obtain ⟨lb, hlb⟩ : ∃ lb, lb = without id la := ⟨_, rfl⟩
      obtain ⟨la2, hla2⟩ : ∃ l, l = setE id thn la := ⟨_, rfl⟩
      rw [← hlb, ← hla2] at HW HT5 HLN
      rw [← hla2] at HTO
      rw [← hlb] at hlw
      clear HT
      go_wp2_with fail
      refine (awhen_any w5 Sa' B1 a id la2 HT5.out.ha hid).mono ?_
      rintro e w6 ⟨rfl, rfl⟩
      rw [HTO.out]
      unfold whenV
      have hlen1 : ((la2.length : Int) != (lb.length : Int) + 1) = false := by have := HLN.out; simp; omega
      go_wp2_with fail
      refine (alen2_any w5 Sa' B1 a la2 HT5.out.ha).mono ?_
      rintro e w6 ⟨rfl, rfl⟩
      obtain ⟨N, HN⟩ : ∃ N : Int, Hid (N = (la2.length : Int)) := ⟨_, rfl⟩
      obtain ⟨M, HM⟩ : ∃ M : Int, Hid (M = (lb.length : Int)) := ⟨_, rfl⟩
      have hM : 0 ≤ M ∧ M ≤ 1000 := by have := HM.out; omega
      have hNM : (N != M + 1) = false := by rw [HN.out, HM.out]; exact hlen1
      rw [← HN.out]
      clear hlen1
      go_wp2_with fail
      refine (alen2_any w5 Sb B2 b lb HT5.out.hb).mono ?_
      rintro e w6 ⟨rfl, rfl⟩
      rw [← HM.out]
      go_wp2_with fail
      have h2 := adue_any w5 Sa' B1 a 9223372036854775807 la2 HT5.out.ha HT5.out.oa (by have := HLN.out; omega)
      refine h2.mono ?_
      clear h2 hNM hM
      rintro e w7 ⟨Ad, nd, cd, rfl, hown, ha7, ho7⟩
      rw [HT5.out.ta.due.1] at hown
      have HOWN := Lib.hid (Sn.of_own hown)
      have hb7 := ho7.toBelow (B := w.heap.size) (fun k hk => Nat.le_trans HT5.out.b1 (HT5.out.ha.sl k hk).1) HT5.out.bel.size
      have HB7 := Lib.hid (HT5.out.bel.trans hb7)
      have HA7 := Lib.hid (HT5.out.hb.only ho7 (fun k _ hk => HT5.out.dis k hk))
      have hndm : nd ≤ 9223372036854775807 := by have h1 := HOWN.out.le; have h2 := HOWN.out.max; unfold maxLen at h2; omega
      have HND : Hid ((ids la2).length = nd) := by have := HOWN.out.len; rw [unvs_len] at this; show _ = _; omega
      have hnd62 : nd ≤ 62 := by have h1 := HND.out; have h3 := HLN.out; unfold ids at h1; rw [List.length_map] at h1; omega
      have HLB : Hid (lb.length ≤ 90000) := by show lb.length ≤ 90000; omega
      clear hown ha7 ho7 hb7
      go_wp2_with fail
      go_loopg [15, 82] nd (fun gk v15 vi wr => LeftRel w7 id (ids la2) nd gk v15 vi wr)
      case atStart => exact ⟨0, none, 0, 0, rfl, rfl, rfl, World.ownsRow_nil _ _ _ _, RowKit.Below.refl _ _⟩
      case round =>
        obtain ⟨k, Al_, m, cl, hgk2, rfl, rfl, hown, hbel⟩ := hrel
        have HOWL := Lib.hid hown
        have HBL := Lib.hid hbel
        have hm62 : m ≤ 62 := by
          have h1 := hown.1
          rw [unvs_len] at h1
          have h2 := List.length_filter_le (fun x => decide (x ≠ id)) ((ids la2).take k)
          have h3 : ((ids la2).take k).length ≤ (ids la2).length := by rw [List.length_take]; omega
          have h4 := HND.out
          omega
        clear hown hbel
        by_cases hlt2 : k < nd
        · obtain ⟨b2, o2, x, rfl, hb2, hx, hc⟩ := sn_nat (HOWN.out.below HBL.out (Nat.le_refl _)) hlt2
          have HX := Lib.hid hx
          have HZ2 := HBL.out.size
          clear hx
          by_cases hxi : x = id
          · have hne : ((x : Int) != (id : Int)) = false := by simp [hxi]
            have HXI : Hid (x = id) := hxi
            clear hxi
            go_wp2_with fail
            go_roundg (gk - 1)
            case measure => omega
            case rel =>
              refine ⟨k + 1, Al_, m, cl, by omega, by go_num, rfl, ?_, HBL.out⟩
              rw [List.take_add_one, HX.out, List.filter_append]
              simpa [HXI.out] using HOWL.out
          · have hne : ((x : Int) != (id : Int)) = true := by simp; omega
            have HXI : Hid (x ≠ id) := hxi
            have HNL : Hid (Sn (wr.alloc (.cells #[.int .u64 (x : Int)] 47)) (wr.heap.size + 1) (some ⟨wr.heap.size, 0, none⟩) 1 1 1 (unvs [x])) := lit_sn wr 47 (unvs [x]) 1 1 rfl (by unfold maxLen; omega)
            clear hxi
            go_wp2_with (at_builtin; refine wpList_append_dstN _ rfl (.tmp 89) (.tmp 91) 59 59 rfl w7.heap.size 47 i0 _ 1 8 Try.underlying59 hi0 hz0 hz1 hz2 rfl Al_ m cl (unvs (((ids la2).take k).filter (fun x => decide (x ≠ id)))) rfl (.inr (HOWL.out.alloc _)) _ 1 (unvs [x]) rfl (HNL.out.src Try.underlying59 (unvs_one [x])) (by omega) (by omega) (by simp; omega) ?_; intro A9 c9 w9 g1 g2 g3 g4 g5 g6; have HO9 := Lib.hid (g2 (by omega)); have HB9 := Lib.hid ((HBL.out.alloc HBL.out.size _).trans g4); clear g1 g2 g3 g4 g5 g6)
            go_roundg (gk - 1)
            case measure => omega
            case rel =>
              refine ⟨k + 1, A9, m + 1, c9, by omega, by go_num, rfl, ?_, HB9.out⟩
              rw [List.take_add_one, HX.out, List.filter_append]
              have h1 := HO9.out
              rw [← unvs_app] at h1
              simpa [HXI.out] using h1
        · have HTK : Hid ((ids la2).take k = ids la2) := List.take_of_length_le (by have := HND.out; omega)
          have HB8 := Lib.hid (HB7.out.trans (HBL.out.mono HB7.out.size))
          have HA8 := Lib.hid (HA7.out.below HBL.out)
          have h8 := adue_any wr Sb B2 b 9223372036854775807 lb HA8.out HT5.out.ob HLB.out
          have HD8 := Lib.hid h8
          clear h8
          go_wp2_with fail
          refine HD8.out.mono ?_
          rintro e w9 ⟨Ae, ne, ce, rfl, hown9, ha9, ho9⟩
          rw [HT5.out.tb.due.1] at hown9
          have HOWE := Lib.hid (Sn.of_own hown9)
          have hb9 := ho9.toBelow (B := w.heap.size) (fun k hk => Nat.le_trans HT5.out.b2 (HA8.out.sl k hk).1) HB8.out.size
          have HB9 := Lib.hid (HB8.out.trans hb9)
          have hl9 := own_same (w' := w9) HOWL.out (fun bk hbk => ho9.block bk (HOWL.out.lt bk hbk).2 (fun hs => by have e1 := (HOWL.out.lt bk hbk).1; have e2 := (HA7.out.sl bk hs).2; omega))
          have HL9 := Lib.hid (Sn.of_own hl9)
          clear hown9 ha9 ho9 hb9 hl9
          go_wp2_with fail
          have hq := eqn_any w9 _ _ _ _ _ _ _ _ HL9.out HOWE.out
          have HQ := Lib.hid hq
          clear hq
          refine HQ.out.mono ?_
          rintro e w10 ⟨rfl, hb10⟩
          have HE : Hid (decide (((ids la2).take k).filter (fun x => decide (x ≠ id)) = ids lb) = true) := by
            show _ = _
            rw [decide_eq_true_iff, HTK.out, ← HW.out]
            unfold ids without
            rw [List.filter_map]
            rfl
          rw [HE.out]
          have HB10 := Lib.hid (HB9.out.trans (hb10.mono HB9.out.size))
          clear hb10
          go_wp2_with fail
          go_ret
          exact ⟨rfl, HB10.out⟩
end Go.Proofs.Ytfmfamnngfanfaa
