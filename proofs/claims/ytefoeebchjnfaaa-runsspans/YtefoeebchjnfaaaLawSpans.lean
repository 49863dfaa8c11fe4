/-
  THE WALK of the law RunsSpans: whatever the runs and the number, it returns true, and turns nothing that was there.
-/
import Derived.Test.YtefoeebchjnfaaaRunsBun
namespace Go.Proofs.Ytefoeebchjnfaaa
open Go.RowKit

theorem has_mem {L : List Rn} (h : ∀ q ∈ L, q.1 < two64 ∧ q.2 < two64) (v : Nat) : hasL (setL L) v = memB L v := by
  obtain ⟨h1, h2, _⟩ := set_spec L h
  rw [Bool.eq_iff_iff, hasL_iff h1, h2, memB_iff]
set_option maxRecDepth 100000 in
set_option maxHeartbeats 2000000 in
theorem runsSpans_walk (w : World) (A : Option Addr) (n c v : Nat) (l : List Rn) (hs : Rs w w.heap.size A n c l) (hv : v < two64) :
    Calls Try.prog 3 #[.slice A n c, .int .u64 (v : Int)] w (Says w (.bool true)) := by
  have HV := Lib.hid hv
  have HB := Lib.hid ((Bun.start w).addR (m := n) hs (Nat.le_refl _))
  clear hs hv
  go_enter Try.func3, Try.ntmps3
  go_wp2_with fail
  refine (awake_b HB.out).mono ?_
  rintro e w1 ⟨rfl, hb⟩
  have HB1 := Lib.hid hb
  clear hb HB
  go_wp2_with fail
  refine (few_b HB1.out List.mem_cons_self).mono ?_
  rintro e w1' ⟨rfl, rfl⟩
  have HB2 := Lib.hid (HB1.out.few List.mem_cons_self)
  have HLT := Lib.hid (HB2.out.lt List.mem_cons_self)
  generalize l.take (min n 20) = L at *
  generalize min n 20 = m at *
  clear HB1
  have HOK := Lib.hid (set_spec L HLT.out).1
  have HHM := Lib.hid (has_mem HLT.out v)
  go_wp2_with fail
  refine (set_b HB2.out List.mem_cons_self (by omega)).mono ?_
  rintro e w2 ⟨A2, n2, c2, rfl, hb⟩
  have HB3 := Lib.hid (hb.box (.slice A2 n2 c2) 27)
  obtain ⟨X, hX⟩ : ∃ X, w2.heap.size = X := ⟨_, rfl⟩
  have HX := Lib.hid hX
  rw [hX] at HB3
  clear hb HB2 hX
  go_wp2_with fail
  rw [HX.out]
  generalize w2.alloc (.cells #[.slice A2 n2 c2] 27) = w3 at *
  clear HX
  refine (own_b HB3.out List.mem_cons_self (by omega)).mono ?_
  rintro e w4 ⟨A4, n4, c4, rfl, hb⟩
  have HB4 := Lib.hid hb
  clear hb HB3
  go_wp2_with fail
  refine (plain_b HB4.out List.mem_cons_self (by omega)).mono ?_
  rintro e w5 ⟨A5, n5, c5, rfl, hb⟩
  have HB5 := Lib.hid hb
  have hc5 := hb.cell _ List.mem_cons_self
  simp only at hc5
  clear hb HB4
  go_wp2_with fail
  refine (runs_b HB5.out List.mem_cons_self (by omega)).mono ?_
  rintro e w6 ⟨A6, n6, c6, rfl, hb⟩
  have HB6 := Lib.hid hb
  clear hb HB5 hc5
  go_wp2_with fail
  refine (make_yes HB6.out List.mem_cons_self (by omega) HOK.out.can).mono ?_
  rintro e w7 ⟨A7, n7, c7, rfl, hb⟩
  have HB7 := Lib.hid (hb.box (.slice A7 n7 c7) 27)
  obtain ⟨Z, hZ⟩ : ∃ Z, w7.heap.size = Z := ⟨_, rfl⟩
  have HZ := Lib.hid hZ
  rw [hZ] at HB7
  have hc7 := HB7.out.cell _ (.tail _ List.mem_cons_self)
  have hc7' := hb.cell _ List.mem_cons_self
  simp only at hc7 hc7'
  have hx7 : X < w7.heap.size := World.block_lt_of_cell? w7 _ hc7'
  clear hb HB6 hZ
  go_wp2_with fail
  rw [HZ.out]
  generalize w7.alloc (.cells #[.slice A7 n7 c7] 27) = w8 at *
  clear HZ hx7 hc7'
  refine (gap_b HB7.out (.tail _ List.mem_cons_self) (by omega) v).mono ?_
  rintro e w9 ⟨rfl, hb⟩
  have HB9 := Lib.hid hb
  clear hb HB7 hc7
  obtain ⟨g, is, HG, hway⟩ : ∃ g is, Hid (gapL (setL L) v = (g, is)) ∧ ((is = false ∧ g = 0) ∨ is = true) := by
    rcases gap_spec HOK.out HV.out with ⟨h, _⟩ | ⟨g, h, _⟩
    · exact ⟨_, _, h, .inl ⟨rfl, rfl⟩⟩
    · exact ⟨_, _, h, .inr rfl⟩
  rw [HG.out]
  simp only
  go_wp2_with fail
  refine (own_b HB9.out (.tail _ (.tail _ (.tail _ List.mem_cons_self))) (by omega)).mono ?_
  rintro e w10 ⟨A10, n10, c10, rfl, hb⟩
  have HB10 := Lib.hid hb
  have hgb := refGap_b hb List.mem_cons_self (by omega) v
  rw [HG.out] at hgb
  have HGB := Lib.hid hgb
  clear hb HB9 hgb
  go_wp2_with fail
  refine HGB.out.mono ?_
  rintro e w11 ⟨rfl, hb⟩
  have HB11 := Lib.hid hb
  have hc11 := hb.cell _ (.tail _ List.mem_cons_self)
  simp only at hc11
  clear hb HB10 HGB
  go_wp2_with fail
  refine (runs_b HB11.out (.tail _ List.mem_cons_self) (by omega)).mono ?_
  rintro e w12 ⟨A12, n12, c12, rfl, hb⟩
  have HB12 := Lib.hid hb
  clear hb HB11 hc11
  go_wp2_with fail
  refine (own_b HB12.out List.mem_cons_self (by omega)).mono ?_
  rintro e w13 ⟨A13, n13, c13, rfl, hb⟩
  have HB13 := Lib.hid hb
  clear hb HB12
  go_wp2_with fail
  refine (refSame_yes HB13.out List.mem_cons_self (.tail _ (.tail _ (.tail _ (.tail _ List.mem_cons_self)))) rfl).mono ?_
  rintro e w14 ⟨rfl, hb⟩
  have HB14 := Lib.hid hb
  have hc14 := hb.cell _ List.mem_cons_self
  have hd14 := hb.cell _ (.tail _ List.mem_cons_self)
  simp only at hc14 hd14
  clear hb HB13
  go_wp2_with fail
  refine (same_yes HB14.out List.mem_cons_self (.tail _ List.mem_cons_self) rfl).mono ?_
  rintro e w15 ⟨rfl, hb⟩
  have HB15 := Lib.hid hb
  have hd15 := hb.cell _ (.tail _ List.mem_cons_self)
  simp only at hd15
  have hhs := has_b hb (.tail _ List.mem_cons_self) (by omega) v
  rw [HHM.out] at hhs
  obtain ⟨bb, HBB⟩ : ∃ bb, Hid (bb = memB L v) := ⟨_, rfl⟩
  rw [← HBB.out] at hhs
  have HHS := Lib.hid hhs
  clear hb HB14 hc14 hd14 hhs
  go_wp2_with fail
  refine HHS.out.mono ?_
  rintro e w16 ⟨rfl, hb⟩
  have HB16 := Lib.hid hb
  clear hb HB15 HHS hd15
  go_wp2_with fail
  refine (own_b HB16.out (.tail _ (.tail _ (.tail _ (.tail _ (.tail _ (.tail _ List.mem_cons_self)))))) (by omega)).mono ?_
  rintro e w17 ⟨A17, n17, c17, rfl, hb⟩
  have HB17 := Lib.hid hb
  have hrh := refHas_b hb List.mem_cons_self v
  rw [← HBB.out] at hrh
  have HRH := Lib.hid hrh
  clear hb HB16 hrh
  go_wp2_with fail
  refine HRH.out.mono ?_
  rintro e w18 ⟨rfl, hb⟩
  have HB18 := Lib.hid hb
  have hd18 := hb.cell _ (.tail _ List.mem_cons_self)
  simp only at hd18
  clear hb HB17 HRH
  have hbb : (bb == bb) = true := by simp
  have hii : (is == is) = true := by simp
  have hgg : ((g : Int) == (g : Int)) = true := by simp
  rcases hway with ⟨rfl, rfl⟩ | rfl
  all_goals (
    go_wp2_with fail
    refine (count_b HB18.out (.tail _ List.mem_cons_self)).mono ?_
    rintro e w19 ⟨rfl, hb⟩
    have HB19 := Lib.hid hb
    clear hb
    go_wp2_with fail
    refine (own_b HB19.out (.tail _ (.tail _ (.tail _ (.tail _ (.tail _ (.tail _ (.tail _ List.mem_cons_self))))))) (by omega)).mono ?_
    rintro e w20 ⟨A20, n20, c20, rfl, hb⟩
    have HB20 := Lib.hid hb
    clear hb
    go_wp2_with fail
    refine (refCount_b HB20.out List.mem_cons_self (by omega)).mono ?_
    rintro e w21 ⟨rfl, hb⟩
    have HB21 := Lib.hid hb
    clear hb
    generalize cntL (setL L) = cc at *
    have hcc : ((cc : Int) == (cc : Int)) = true := by simp
    go_wp2
    go_ret
    exact ⟨rfl, HB21.out.bel⟩)
theorem runsSpans_law (w : World) (A : Option Addr) (n c : Nat) (l : List Rn) (hs : Rs w w.heap.size A n c l) (v : Int) (hv : 0 ≤ v ∧ v ≤ 18446744073709551615) :
    Calls Try.prog 3 #[.slice A n c, .int .u64 v] w (Says w (.bool true)) := by
  obtain ⟨x, rfl⟩ := Int.eq_ofNat_of_zero_le hv.1
  exact runsSpans_walk w A n c x l hs (by unfold two64; omega)
end Go.Proofs.Ytefoeebchjnfaaa
