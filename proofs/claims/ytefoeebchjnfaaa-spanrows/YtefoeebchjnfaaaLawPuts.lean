/-
  THE WALK of the law SpanPuts: whatever the bytes, the span and the number, it returns true, and turns nothing that was there.
-/
import Derived.Test.YtefoeebchjnfaaaLawGets
namespace Go.Proofs.Ytefoeebchjnfaaa
open Go.RowKit

theorem clsB_nat {C : Int} {n : Nat} (h : rightB C n = true) : (clsB C).toNat = C.toNat ∧ (C.toNat : Int) = C ∧ C.toNat < 8 ∧ n ≤ 4096 := by
  unfold rightB at h
  simp at h
  refine ⟨?_, by omega, by omega, by omega⟩
  unfold clsB
  rw [UInt8.toNat_ofNat']
  omega
theorem stSpan_put {C : Int} {b t : List UInt8} (h : rightB C b.length = true) : stSpan (spanB C b ++ t) 0 = (C.toNat, b, t, 0) := by
  obtain ⟨h1, h2, h3, h4⟩ := clsB_nat h
  have hb : stByte (spanB C b ++ t) 0 = ((clsB C).toNat, byts b ++ t, 0) := by simp [stByte, spanB]
  rw [h1] at hb
  refine stSpan_ok hb ?_
  rw [show cls8 C.toNat 0 = 0 from by unfold cls8; rw [if_neg (by omega)]]
  exact stBytes_byts b t 4096 (by unfold two64; omega) (by omega)
theorem stItem_put {N : Nat} {C : Int} {b t : List UInt8} (hN : N < two64) (h : rightB C b.length = true) : stItem (itemB N C b ++ t) 0 = (N, C.toNat, b, t, 0) := by
  unfold itemB
  rw [List.append_assoc]
  exact stItem_ok (stNum_num N _ hN) (stSpan_put h)

theorem own_on {w w' : World} {base : Nat} {e : TypeId} {v : Value} {n : Nat} {xs : List Value} (h : w.ownsRow base e 1 v n xs) (hb : Below w.heap.size w w') : w'.ownsRow base e 1 v n xs := by
  refine ⟨h.1, ?_⟩
  rcases h.2 with hn | ⟨g, cap, cur, hv, hbg, hh, rest⟩
  · exact .inl hn
  · exact .inr ⟨g, cap, cur, hv, hbg, (hb.block g (Array.getElem?_eq_some_iff.1 hh).1).trans hh, rest⟩

set_option maxRecDepth 100000 in
set_option maxHeartbeats 2000000 in
theorem spanPuts_walk (w : World) (A0 : Option Addr) (n0 c0 : Nat) (l0 : List UInt8) (h0 : Sl w w.heap.size A0 n0 c0 l0) (C : Int) (A1 : Option Addr) (n1 c1 : Nat) (l1 : List UInt8) (h1 : Sl w w.heap.size A1 n1 c1 l1) (N : Nat) (hN : N < two64)
    (A3 : Option Addr) (n3 c3 : Nat) (l3 : List UInt8) (h3 : Sl w w.heap.size A3 n3 c3 l3) :
    Calls Try.prog 10 #[.slice A0 n0 c0, spv C A1 n1 c1, .int .u64 (N : Int), .slice A3 n3 c3] w (Yes w) := by
  unfold spv
  have H0 := Lib.hid h0
  have H1 := Lib.hid h1
  have H3 := Lib.hid h3
  have HN := Lib.hid hN
  clear h0 h1 h3 hN
  go_enter Try.func10, Try.ntmps10
  go_wp2_with fail
  have hbb := below_box w (Obj.cells #[.int .i64 C, .slice A1 n1 c1] 67)
  have hblk := heap_alloc_new w (Obj.cells #[.int .i64 C, .slice A1 n1 c1] 67)
  have hzb : w.heap.size < (w.alloc (Obj.cells #[.int .i64 C, .slice A1 n1 c1] 67)).heap.size := by simp
  generalize w.alloc (Obj.cells #[.int .i64 C, .slice A1 n1 c1] 67) = wb at *
  obtain ⟨g, hg⟩ : ∃ g, w.heap.size = g := ⟨_, rfl⟩
  have HG := Lib.hid hg
  simp only [hg] at hblk hzb ⊢
  refine (awake4_any wb).mono ?_
  rintro e w1 ⟨rfl, hb1⟩
  have hblk1 := (hb1.block g hzb).trans hblk
  have hz1 := Nat.lt_of_lt_of_le hzb hb1.size
  have hbw1 : Below w.heap.size w w1 := hbb.trans (hb1.mono (by omega))
  clear hbb hb1 hblk hzb
  go_wp2_with fail
  refine (cut_any w1 A0 n0 c0 l0 20 ((H0.out.below hbw1 (Nat.le_refl _)).more (by omega)) (by omega)).mono ?_
  rintro e w2 ⟨AF, nF, cF, rfl, hownF, hb2⟩
  have hF2 := own_lower hownF hz1
  have hblk2 := (hb2.block g hz1).trans hblk1
  have hz2 := Nat.lt_of_lt_of_le hz1 hb2.size
  have hbw2 : Below w.heap.size w w2 := hbw1.trans (hb2.mono (by omega))
  have hlF : (l0.take 20).length ≤ 20 := by rw [List.length_take]; omega
  generalize l0.take 20 = F at *
  clear hb2 hownF hblk1 hbw1 hz1
  go_wp2_with fail
  refine (cut_any w2 A3 n3 c3 l3 20 ((H3.out.below hbw2 (Nat.le_refl _)).more (by omega)) (by omega)).mono ?_
  rintro e w3 ⟨AB, nB, cB, rfl, hownB, hb3⟩
  have hB3 := own_lower hownB hz2
  have hF3 := own_on hF2 hb3
  have hblk3 := (hb3.block g hz2).trans hblk2
  have hz3 := Nat.lt_of_lt_of_le hz2 hb3.size
  have hbw3 : Below w.heap.size w w3 := hbw2.trans (hb3.mono (by omega))
  have hlB : (l3.take 20).length ≤ 20 := by rw [List.length_take]; omega
  generalize l3.take 20 = Bh at *
  clear hb3 hownB hblk2 hbw2 hz2 hF2
  have hc3 : w3.cell? ⟨g, 1, none⟩ = some (.slice A1 n1 c1) := by rw [cell_of_row w3 g 1 _ _ _ hblk3]; rfl
  go_wp2_with fail
  refine (cut_any w3 A1 n1 c1 l1 200 ((H1.out.below hbw3 (Nat.le_refl _)).more (by omega)) (by omega)).mono ?_
  rintro e w4 ⟨AS, nS, cS, rfl, hownS, hb4⟩
  have hS4 := own_lower hownS hz3
  have hF4 := own_on hF3 hb4
  have hB4 := own_on hB3 hb4
  have hblk4 := (hb4.block g hz3).trans hblk3
  have hz4 := Nat.lt_of_lt_of_le hz3 hb4.size
  have hbw4 : Below w.heap.size w w4 := hbw3.trans (hb4.mono (by omega))
  have hlS : (l1.take 200).length ≤ 200 := by rw [List.length_take]; omega
  generalize l1.take 200 = S at *
  have hq1 : w4.cell? ⟨g, 1, none⟩ = some (.slice A1 n1 c1) := by rw [cell_of_row w4 g 1 _ _ _ hblk4]; rfl
  have hq0 : w4.cell? ⟨g, 0, none⟩ = some (.int .i64 C) := by rw [cell_of_row w4 g 0 _ _ _ hblk4]; rfl
  have hf1 := frz_block (i := 1) hblk4
  have hS5 := Sl.of_own (own_other (.slice AS nS cS) hS4 (p := ⟨g, 1, none⟩) (Nat.lt_succ_self g))
  have hF5 := Sl.of_own (own_other (.slice AS nS cS) hF4 (p := ⟨g, 1, none⟩) (Nat.lt_succ_self g))
  have hB5 := Sl.of_own (own_other (.slice AS nS cS) hB4 (p := ⟨g, 1, none⟩) (Nat.lt_succ_self g))
  have hbw5 : Below w.heap.size w (w4.setCell ⟨g, 1, none⟩ (.slice AS nS cS)) := hbw4.setCell (by show w.heap.size ≤ g; omega) _
  have hq5 : (w4.setCell ⟨g, 1, none⟩ (.slice AS nS cS)).cell? ⟨g, 0, none⟩ = some (.int .i64 C) ∧ (w4.setCell ⟨g, 1, none⟩ (.slice AS nS cS)).cell? ⟨g, 1, none⟩ = some (.slice AS nS cS) :=
    ⟨by rw [World.cell?_setCell_other _ _ _ _ (by simp)]; exact hq0, World.cell?_setCell_same _ _ _ hq1⟩
  have hz5 : g < (w4.setCell ⟨g, 1, none⟩ (.slice AS nS cS)).heap.size := by simpa [World.setCell] using hz4
  clear hownS hb4 hblk3 hbw3 hz3 hF3 hB3 hc3 hblk4 hS4 hF4 hB4 hbw4 hg
  go_wp2_with fail
  have hsz : w4.heap.size = (w4.setCell ⟨g, 1, none⟩ (.slice AS nS cS)).heap.size := by simp [World.setCell]
  rw [hsz]
  clear hsz hq0 hq1 hf1 hz4
  generalize w4.setCell ⟨g, 1, none⟩ (.slice AS nS cS) = w5 at *
  refine (join_one _ w5.heap.size AF nF cF F (by simp) (by simp) (by exact hF5.onA _) (by omega)).mono ?_
  rintro e w6 ⟨AR, nR, cR, rfl, hown6, hb6⟩
  have hz6 := Nat.lt_of_lt_of_le (show w5.heap.size < (w5.alloc (Obj.cells #[.slice AF nF cF] 65)).heap.size by simp) hb6.size
  have hb56 : Below w5.heap.size w5 w6 := (below_box w5 _).trans (hb6.mono (by simp))
  have hnR : nR = F.length := (Sl.of_own hown6).len.symm
  have hR : w6.ownsRow (w5.heap.size + 1) 5 1 (.slice AR nR cR) nR (cbs F) := own_lower hown6 (by simp)
  obtain ⟨i0, hi0, hz0, hz1, hz2⟩ := info_parts u8_info
  have HBD : Hid (nR + 1 ≤ 140737488355328) := by show _ ≤ _; omega
  have h90 : Value.int .u8 90 = cb 90 := rfl
  have H90 := Lib.hid h90
  have HR := Lib.hid hnR
  clear hown6 hb6 h90 hnR
  go_wp2_with (at_builtin; refine wpList_append_dst _ rfl (.tmp 26) (.tmp 27) 65 65 rfl (w5.heap.size + 1) 5 i0 Try.underlying65 hi0 hz0 hz1 hz2 AR nR cR F rfl (.inr (hR.alloc _)) _ 1 [90] rfl ((one_sl w6 _ H90.out).src Try.underlying65) HBD.out (by simp; omega) ?_; intro A7 c7 w7 k1 k2 k3 k4 k5)
  have hb57 : Below w5.heap.size w5 w7 := (hb56.alloc hb56.size _).trans (k4.mono (by omega))
  have hz7 := Nat.lt_of_lt_of_le hz5 hb57.size
  have hq7 : w7.cell? ⟨g, 0, none⟩ = some (.int .i64 C) ∧ w7.cell? ⟨g, 1, none⟩ = some (.slice AS nS cS) := ⟨(hb57.cell (p := ⟨g, 0, none⟩) hz5).trans hq5.1, (hb57.cell (p := ⟨g, 1, none⟩) hz5).trans hq5.2⟩
  have hS7 := hS5.on hb57 (Nat.le_refl _)
  have hF7 := hF5.on hb57 (Nat.le_refl _)
  have hB7 := hB5.on hb57 (Nat.le_refl _)
  have hR7 := Sl.of_own (k2 (by omega))
  have hbw7 := hbw5.trans (hb57.mono hbw5.size)
  have hnF : nF = nR := by have := hF5.len; have := HR.out; omega
  have hcR := hR7.le
  have hmR := hR7.max
  unfold maxLen at hmR
  have hT7 : Sl w7 w7.heap.size A7 nF c7 F := by
    have h := hR7.take (k := nF) (m := c7) (by omega) (by omega) (Nat.le_refl _)
    rwa [List.take_left' (by have := HR.out; omega)] at h
  have hnb : nF ≤ 20 := by have := hF5.len; omega
  have hI1 : (nF : Int) ≤ (c7 : Int) := by omega
  clear hS5 hF5 hB5 hb56 hR hq5 hbw5 hz5 hz6 k1 k2 k3 k4 k5 hb57 HR
  have HNF := Lib.hid hnF
  clear hnF
  go_region_held3 (fun w' => w'.cell? ⟨g, 0, none⟩ = some (.int .i64 C) ∧ w'.cell? ⟨g, 1, none⟩ = some (.slice AS nS cS)) (first | exact hq7 | exact hk1 | exact hk2) (first
    | (go_at_call 46
       refine (spanPut_any _ C A7 AS nF c7 nS cS F S (by exact hT7.onD 1) (by exact hS7.onD 1) (by omega)).mono ?_
       rintro e w8 ⟨AP, nP, cP, rfl, hown8, hbel8⟩
       have hk1 : w8.cell? ⟨g, 0, none⟩ = some (.int .i64 C) ∧ w8.cell? ⟨g, 1, none⟩ = some (.slice AS nS cS) := ⟨(hbel8.cell (p := ⟨g, 0, none⟩) hz7).trans hq7.1, (hbel8.cell (p := ⟨g, 1, none⟩) hz7).trans hq7.2⟩
       have h8 := Sl.of_own hown8
       have hS8 := (hS7.onD 1).on hbel8 (Nat.le_refl _)
       have hz8 := Nat.lt_of_lt_of_le hz7 hbel8.size)
    | (go_at_call 47
       refine (itemPut_any _ N C none AS 0 0 nS cS [] S HN.out (Sl.nil_ _ _ _ _ (Nat.zero_le _)) hS8 (by simp; omega)).mono ?_
       rintro e w9 ⟨AQ, nQ, cQ, rfl, hown9, hbel9⟩
       have hk2 : w9.cell? ⟨g, 0, none⟩ = some (.int .i64 C) ∧ w9.cell? ⟨g, 1, none⟩ = some (.slice AS nS cS) := ⟨(hbel9.cell (p := ⟨g, 0, none⟩) hz8).trans hk1.1, (hbel9.cell (p := ⟨g, 1, none⟩) hz8).trans hk1.2⟩))
  have hb79 : Below w7.heap.size w7 w9 := (below_drewN (Below.refl _ _) 1).trans (hbel8.trans (hbel9.mono hbel8.size))
  have hP9 := h8.on hbel9 (Nat.le_refl _)
  have hQ9 := Sl.of_own hown9
  rw [List.nil_append] at hQ9
  have hS9 := hS8.on hbel9 (Nat.le_refl _)
  have hF9 := hF7.on hb79 (Nat.le_refl _)
  have hB9 := hB7.on hb79 (Nat.le_refl _)
  have hR9 := hR7.on hb79 (Nat.le_refl _)
  have hbw9 := hbw7.trans (hb79.mono hbw7.size)
  have hz9 := Nat.lt_of_lt_of_le hz7 hb79.size
  have hq0 := hk2.1
  have hq1 := hk2.2
  obtain ⟨b7, o7, x7, rfl, _, hx7, hc7⟩ := hR9.at_ (k := nF) (by have := HNF.out; omega)
  have hx90 : x7 = 90 := by
    have hl := hF9.len
    rw [List.getElem?_append_right (by omega)] at hx7
    have e : nF - F.length = 0 := by omega
    rw [e] at hx7
    simpa using hx7.symm
  subst hx90
  have hE : Ever (fun w' => (w'.cell? ⟨g, 0, none⟩ = some (.int .i64 C) ∧ w'.cell? ⟨g, 1, none⟩ = some (.slice AS nS cS) ∧ w'.cell? ⟨b7, o7 + nF, none⟩ = some (.int .u8 90)) ∧ Below w.heap.size w w' ∧ Sl w' w'.heap.size AS nS cS S ∧ Sl w' w'.heap.size AF nF cF F ∧ Sl w' w'.heap.size AB nB cB Bh ∧ Sl w' w'.heap.size AP nP cP (F ++ spanB C S) ∧ Sl w' w'.heap.size AQ nQ cQ (itemB N C S)) w9 := by
    intro w' hw
    exact ⟨⟨ever_cell hq0 _ hw, ever_cell hq1 _ hw, ever_cell hc7 _ hw⟩, ever_below hbw9 hbw9.size _ hw, ever_sl hS9 _ hw, ever_sl hF9 _ hw, ever_sl hB9 _ hw, ever_sl hP9 _ hw, ever_sl hQ9 _ hw⟩
  obtain ⟨k0, k1, k2⟩ := hE.now.1
  have hlT := spanB_len C S (by omega)
  have hlI : (itemB N C S).length ≤ 300 := by
    unfold itemB
    rw [List.length_append]
    have := num_len10 N HN.out
    omega
  have hiF0 : (0 : Int) ≤ (nF : Int) := by omega
  have hiF1 : (nF : Int) < (nR : Int) + 1 := by have := HNF.out; omega
  clear hS7 hF7 hB7 hR7 hbw7 hz7 hq7 hT7 hk1 hk2 h8 hS8 hz8 hown8 hown9 hbel8 hbel9 hb79 hq0 hq1 hx7 hc7 hR9 hQ9 hP9 hS9 hF9 hB9 hbw9 hz9 hI1 hcR hmR
  skip
  go_wp2_with fail
  refine (ownSpan_any w9 C AS nS cS).mono ?_
  rintro e w10 ⟨rfl, hb10⟩
  replace hE := hE.next hb10
  clear k0 k1 k2
  obtain ⟨k0, k1, k2⟩ := hE.now.1
  clear hb10
  unfold spv
  go_wp2_with fail
  refine (refPut_any w10 C AS nS cS S hE.now.2.2.1 (by omega)).mono ?_
  rintro e w11 ⟨A11, n11, c11, rfl, hown11, hb11⟩
  replace hE := hE.next hb11
  clear k0 k1 k2
  obtain ⟨k0, k1, k2⟩ := hE.now.1
  have h11 := Sl.of_own hown11
  clear hb11 hown11
  go_wp2_with fail
  refine (join_two _ w11.heap.size AF A11 nF cF n11 c11 F (spanB C S) (by simp) (by simp) (by simp) (by exact hE.now.2.2.2.1.onA _) (by exact h11.onA _) (by omega)).mono ?_
  rintro e w12 ⟨A12, n12, c12, rfl, hown12, hb12⟩
  have hb12' : Below w11.heap.size w11 w12 := (below_box w11 _).trans (hb12.mono (by simp))
  replace hE := hE.next hb12'
  clear k0 k1 k2
  obtain ⟨k0, k1, k2⟩ := hE.now.1
  have h12 := Sl.of_own hown12
  clear hb12 hown12 h11 hb12'
  go_wp2_with fail
  refine (same_yes w12 w12.heap.size AP A12 nP cP n12 c12 _ hE.now.2.2.2.2.2.1 h12).mono ?_
  rintro e w13 ⟨rfl, q, rfl⟩
  replace hE := hE.next (below_drewN (Below.refl _ _) q)
  clear k0 k1 k2
  obtain ⟨k0, k1, k2⟩ := hE.now.1
  clear h12
  generalize w12.drewN q = w13 at *
  go_wp2_with fail
  refine (ownSpan_any w13 C AS nS cS).mono ?_
  rintro e w14 ⟨rfl, hb14⟩
  replace hE := hE.next hb14
  clear k0 k1 k2
  obtain ⟨k0, k1, k2⟩ := hE.now.1
  clear hb14
  unfold spv
  go_wp2_with fail
  refine (refPutItem_any w14 N C AS nS cS S HN.out hE.now.2.2.1 (by omega)).mono ?_
  rintro e w15 ⟨A15, n15, c15, rfl, hown15, hb15⟩
  replace hE := hE.next hb15
  clear k0 k1 k2
  obtain ⟨k0, k1, k2⟩ := hE.now.1
  have h15 := Sl.of_own hown15
  clear hb15 hown15
  go_wp2_with fail
  refine (same_yes w15 w15.heap.size AQ A15 nQ cQ n15 c15 _ hE.now.2.2.2.2.2.2 h15).mono ?_
  rintro e w16 ⟨rfl, q', rfl⟩
  replace hE := hE.next (below_drewN (Below.refl _ _) q')
  clear k0 k1 k2
  obtain ⟨k0, k1, k2⟩ := hE.now.1
  clear h15
  generalize w15.drewN q' = w16 at *
  go_wp2_with fail
  have hr := right_any w16 C AS nS cS
  by_cases hrb : rightB C nS = true
  · rw [hrb] at hr
    refine hr.mono ?_
    rintro e w17 ⟨rfl, hb17⟩
    replace hE := hE.next hb17
    clear k0 k1 k2
    obtain ⟨k0, k1, k2⟩ := hE.now.1
    clear hb17 hr
    go_wp2_with fail
    refine (join_two _ w17.heap.size AQ AB nQ cQ nB cB (itemB N C S) Bh (by simp) (by simp) (by simp) (by exact hE.now.2.2.2.2.2.2.onA _) (by exact hE.now.2.2.2.2.1.onA _) (by omega)).mono ?_
    rintro e w18 ⟨A18, n18, c18, rfl, hown18, hb18⟩
    have hb18' : Below w17.heap.size w17 w18 := (below_box w17 _).trans (hb18.mono (by simp))
    replace hE := hE.next hb18'
    clear k0 k1 k2
    obtain ⟨k0, k1, k2⟩ := hE.now.1
    have h18 := Sl.of_own hown18
    clear hb18 hown18 hb18'
    go_wp2_with fail
    refine (of_any w18 A18 n18 c18 _ h18 (by rw [List.length_append]; omega)).mono ?_
    rintro e w19 ⟨gi, A19, n19, c19, hgi, rfl, hin19, hb19⟩
    have hz18 : gi < w19.heap.size := hin19.lt
    have hlenS : S.length = nS := hE.now.2.2.1.len
    have hst := stItem_put (t := Bh) HN.out (by rw [hlenS]; exact hrb : rightB C S.length = true)
    obtain ⟨-, hCn, -, -⟩ := clsB_nat hrb
    go_wp2_with fail
    have cI := getItem_any hin19
    rw [hst] at cI
    refine cI.mono ?_
    rintro e w20 ⟨A21, n21, c21, A20, n20, c20, rfl, hown20, hin20, hgr20⟩
    have hb20 : Below w18.heap.size w18 w20 := below_grown hb19 hgr20 hgi hb19.size
    replace hE := hE.next hb20
    clear k0 k1 k2
    obtain ⟨k0, k1, k2⟩ := hE.now.1
    have h20 := Sl.of_own hown20
    replace hin20 : InAt w20 gi A21 n21 c21 0 Bh := hin20
    replace h20 : Sl w20 w20.heap.size A20 n20 c20 S := h20
    have hn21 : n21 = nB := by have h1 := hin20.sl.len; have h2 := hE.now.2.2.2.2.1.len; omega
    clear h18 hin19 cI hgr20 hb20 hb19 hst hown20 hlenS
    subst hn21
    simp only [hCn]
    unfold itv
    have hgz : g < w20.heap.size := World.block_lt_of_cell? w20 _ k0
    go_wp2_with fail
    have j0 : (w20.alloc (Obj.cells #[.int .u64 (N : Int), .int .i64 C, .slice A20 n20 c20] 72)).cell? ⟨w20.heap.size, 0, none⟩ = some (.int .u64 (N : Int)) := cell_last w20 _ _ _ 0 rfl
    have j1 : (w20.alloc (Obj.cells #[.int .u64 (N : Int), .int .i64 C, .slice A20 n20 c20] 72)).cell? ⟨w20.heap.size, 1, none⟩ = some (.int .i64 C) := cell_last w20 _ _ _ 1 rfl
    have j2 : (w20.alloc (Obj.cells #[.int .u64 (N : Int), .int .i64 C, .slice A20 n20 c20] 72)).cell? ⟨w20.heap.size, 2, none⟩ = some (.slice A20 n20 c20) := cell_last w20 _ _ _ 2 rfl
    have hbx := below_box w20 (Obj.cells #[.int .u64 (N : Int), .int .i64 C, .slice A20 n20 c20] 72)
    have hin21 := ever_in hin20 _ hbx
    have h21 := ever_sl h20 _ hbx
    replace hE := hE.next hbx
    clear k0 k1 k2
    obtain ⟨k0, k1, k2⟩ := hE.now.1
    generalize hwx : w20.alloc (Obj.cells #[.int .u64 (N : Int), .int .i64 C, .slice A20 n20 c20] 72) = w21 at *
    have hF : Ever (fun w' => (w'.cell? ⟨w20.heap.size, 0, none⟩ = some (.int .u64 (N : Int)) ∧ w'.cell? ⟨w20.heap.size, 1, none⟩ = some (.int .i64 C) ∧ w'.cell? ⟨w20.heap.size, 2, none⟩ = some (.slice A20 n20 c20)) ∧ InAt w' gi A21 n21 c21 0 Bh ∧ Sl w' w'.heap.size A20 n20 c20 S) w21 := by
      intro w' hw
      exact ⟨⟨ever_cell j0 _ hw, ever_cell j1 _ hw, ever_cell j2 _ hw⟩, ever_in hin21 _ hw, ever_sl h21 _ hw⟩
    clear j0 j1 j2 hbx hin21 h21 hin20 h20 hwx
    generalize w20.heap.size = si at *
    refine (ownSpan_any w21 C AS nS cS).mono ?_
    rintro e w22 ⟨rfl, hb22⟩
    replace hE := hE.next hb22
    clear k0 k1 k2
    obtain ⟨k0, k1, k2⟩ := hE.now.1
    replace hF := hF.next hb22
    clear hb22
    unfold spv
    go_wp2_with fail
    have hr := refRight_any w22 C AS nS cS
    rw [hrb] at hr
    refine hr.mono ?_
    rintro e w23 ⟨rfl, hb23⟩
    replace hE := hE.next hb23
    clear k0 k1 k2
    obtain ⟨k0, k1, k2⟩ := hE.now.1
    replace hF := hF.next hb23
    clear hb23 hr
    go_wp2_with fail
    refine (err_any hF.now.2.1).mono ?_
    rintro e w24 ⟨rfl, rfl⟩
    obtain ⟨j0, j1, j2⟩ := hF.now.1
    go_wp2_with fail
    have hsm := spanSame_any w23 C C A20 AS n20 c20 nS cS S S hF.now.2.2 hE.now.2.2.1
    rw [show sameS C S C S = true from by simp [sameS, sameB]] at hsm
    refine hsm.mono ?_
    rintro e w25 ⟨rfl, hb25⟩
    replace hE := hE.next hb25
    clear k0 k1 k2
    obtain ⟨k0, k1, k2⟩ := hE.now.1
    replace hF := hF.next hb25
    clear hb25 hsm j0 j1 j2
    go_wp2_with fail
    refine (left_any hF.now.2.1).mono ?_
    rintro e w26 ⟨rfl, rfl⟩
    go_wp2
    go_ret
    exact ⟨rfl, hE.now.2.1⟩
  · have hrf : rightB C nS = false := by simpa using hrb
    rw [hrf] at hr
    refine hr.mono ?_
    rintro e w17 ⟨rfl, hb17⟩
    replace hE := hE.next hb17
    clear k0 k1 k2
    obtain ⟨k0, k1, k2⟩ := hE.now.1
    clear hb17 hr
    go_wp2_with fail
    refine (ownSpan_any w17 C AS nS cS).mono ?_
    rintro e w18 ⟨rfl, hb18⟩
    replace hE := hE.next hb18
    clear k0 k1 k2
    obtain ⟨k0, k1, k2⟩ := hE.now.1
    clear hb18
    unfold spv
    go_wp2_with fail
    have hr := refRight_any w18 C AS nS cS
    rw [hrf] at hr
    refine hr.mono ?_
    rintro e w19 ⟨rfl, hb19⟩
    replace hE := hE.next hb19
    clear k0 k1 k2
    obtain ⟨k0, k1, k2⟩ := hE.now.1
    go_wp2
    go_ret
    exact ⟨rfl, hE.now.2.1⟩

theorem spanPuts_law (w : World) (A0 : Option Addr) (n0 c0 : Nat) (l0 : List UInt8) (h0 : Sl w w.heap.size A0 n0 c0 l0) (C : Int) (A1 : Option Addr) (n1 c1 : Nat) (l1 : List UInt8) (h1 : Sl w w.heap.size A1 n1 c1 l1) (N : Int) (hN : 0 ≤ N ∧ N ≤ 18446744073709551615)
    (A3 : Option Addr) (n3 c3 : Nat) (l3 : List UInt8) (h3 : Sl w w.heap.size A3 n3 c3 l3) :
    Calls Try.prog 10 #[.slice A0 n0 c0, spv C A1 n1 c1, .int .u64 N, .slice A3 n3 c3] w (Yes w) := by
  obtain ⟨k, rfl⟩ : ∃ k : Nat, N = (k : Int) := ⟨N.toNat, by omega⟩
  exact spanPuts_walk w A0 n0 c0 l0 h0 C A1 n1 c1 l1 h1 k (by unfold two64; omega) A3 n3 c3 l3 h3
end Go.Proofs.Ytefoeebchjnfaaa
