/-
  THE WALK of the law PackNumbers: whatever the bytes and the number, it returns true, and turns nothing that was there.
-/
import Derived.Test.YtmafdoodgkhgeaaPackEnd
namespace Go.Proofs.Ytmafdoodgkhgeaa
open Go.RowKit

theorem same_yes (w : World) (B : Nat) (A A' : Option Addr) (n c n' c' : Nat) (l : List UInt8) (hs : Sl w B A n c l) (hs' : Sl w B A' n' c' l) :
    Calls Try.prog 13 #[.slice A n c, .slice A' n' c'] w fun e w' => e = .returned (.bool true) ∧ ∃ q, w' = w.drewN q := by
  have h := same_any w B A A' n c n' c' l l hs hs'
  have e : sameB l l = true := by simp [sameB]
  rw [e] at h
  exact h

set_option maxHeartbeats 1000000 in
set_option maxRecDepth 100000 in
theorem packNumbers_law (w : World) (A0 A2 : Option Addr) (n0 c0 n2 c2 x : Nat) (l0 l2 : List UInt8) (h0 : Sl w w.heap.size A0 n0 c0 l0) (hx : x < two64) (h2 : Sl w w.heap.size A2 n2 c2 l2) :
    Calls Try.prog 3 #[.slice A0 n0 c0, .int .u64 (x : Int), .slice A2 n2 c2] w (Yes w) := by
  have HX := Lib.hid hx; clear hx
  obtain ⟨i0, hi0, hz0, hz1, hz2⟩ := info_parts u8_info
  go_enter Try.func3, Try.ntmps3
  go_wp2_with fail
  refine (awake_any w).mono ?_
  rintro e w1 ⟨rfl, hb1⟩
  have h0' := h0.on hb1 (Nat.le_refl _)
  have h2' := h2.on hb1 (Nat.le_refl _)
  clear h0 h2
  go_wp2_with fail
  refine (cut_any w1 A0 n0 c0 l0 40 h0' (by omega)).mono ?_
  rintro e w2 ⟨A3, n3, c3, rfl, hown3, hbel⟩
  have h3 := Sl.of_own hown3
  have h2 := h2'.on hbel (Nat.le_refl _)
  have hb2 := hb1.trans (hbel.mono hb1.size)
  clear hown3 hbel hb1 h0' h2'
  go_wp2_with fail
  refine (cut_any w2 A2 n2 c2 l2 20 h2 (by omega)).mono ?_
  rintro e w3 ⟨A4, n4, c4, rfl, hown4, hbel⟩
  have h3' := h3.on hbel (Nat.le_refl _)
  have h4 := Sl.of_own hown4
  have hb3 := hb2.trans (hbel.mono hb2.size)
  have hl3 : (l0.take 40).length ≤ 40 := by rw [List.length_take]; omega
  have hl4 : (l2.take 20).length ≤ 20 := by rw [List.length_take]; omega
  generalize l0.take 40 = f at *
  generalize l2.take 20 = bh at *
  clear hown4 hbel hb2 h2 h3
  go_wp2_with fail
  refine (join_one _ w3.heap.size A3 n3 c3 f (by simp) (by simp) (by exact h3'.onA _) (by omega)).mono ?_
  rintro e w4 ⟨A5, n5, c5, rfl, hown5, hbel⟩
  have hz3 : w3.heap.size ≤ w4.heap.size := by have := hbel.size; simp at this; omega
  have h3 := (h3'.alloc (Nat.le_refl _) _).below hbel (by simp)
  have h4' := (h4.alloc (Nat.le_refl _) _).below hbel (by simp)
  have hb4 := (hb3.alloc hb3.size _).trans (hbel.mono (Nat.le_trans hb3.size (by simp)))
  have hn5 : n5 ≤ 40 := by have := (Sl.of_own hown5).len; omega
  have hn35 : n3 = n5 := by have := (Sl.of_own hown5).len; have := h3.len; omega
  subst hn35
  have hown := own_lower hown5 (base' := w3.heap.size) (by simp)
  have hd : Dst (w4.alloc (.cells #[.int .u8 90] 5)) w3.heap.size 5 A5 n3 c5 f := .inr (hown.alloc _)
  have hs90 : Sl (w4.alloc (.cells #[.int .u8 90] 5)) (w4.heap.size + 1) (some ⟨w4.heap.size, 0, none⟩) 1 1 [90] := one_sl w4 5 rfl
  have hb4a := hb4.alloc hb4.size (.cells #[.int .u8 90] 5)
  have h3a := h3.alloc hz3 (.cells #[.int .u8 90] 5)
  have h4a := h4'.alloc hz3 (.cells #[.int .u8 90] 5)
  have hzw := hb3.size
  clear hbel hb3 h3' h4 hown5 hb4 h3 h4' hown
  have HBD : Hid (n3 + 1 ≤ 140737488355328) := by show _ ≤ _; omega
  go_wp2_with (at_builtin; go_must (refine wpList_append_dst _ rfl (.tmp 18) (.tmp 19) 22 22 rfl w3.heap.size 5 i0 Try.underlying22 hi0 hz0 hz1 hz2 A5 n3 c5 f rfl hd _ 1 [90] rfl (hs90.src Try.underlying22) HBD.out (by simp; omega) ?_); intro A6 c6 w6 h61 h62 h63 h64 h65; have hle6 := h61.sl.le)
  have h6 := h61.sl
  have h3 := (h3a.below h64 (Nat.le_refl _)).more (Nat.le_trans hz3 (Nat.le_trans (by simp) h64.size))
  have h4 := (h4a.below h64 (Nat.le_refl _)).more (Nat.le_trans hz3 (Nat.le_trans (by simp) h64.size))
  have hb6 := hb4a.trans (h64.mono hzw)
  have hlf : f.length = n3 := h3.len
  have h6f : Sl w6 w6.heap.size A6 n3 c6 f := by
    have h := h6.take (k := n3) (m := c6) (by omega) (by omega) (Nat.le_refl _)
    rwa [List.take_left' hlf] at h
  clear h61 h62 h63 h64 h65 hb4a h3a h4a hd hs90 hzw hz3
  refine (packNum_any w6 A6 n3 c6 f x h6f HX.out (by omega)).mono ?_
  rintro e w7 ⟨A7, n7, c7, rfl, hown7, hbel⟩
  have h7 := Sl.of_own hown7
  have h6' := h6.on hbel (Nat.le_refl _)
  have h3' := h3.on hbel (Nat.le_refl _)
  have h4' := h4.on hbel (Nat.le_refl _)
  have hb7 := hb6.trans (hbel.mono hb6.size)
  clear hown7 hbel h6 h6f h3 h4 hb6
  go_wp2_with fail
  refine (refNum_any x w7 HX.out).mono ?_
  rintro e w8 ⟨A8, n8, c8, rfl, hown8, hbel⟩
  have h8 := Sl.of_own hown8
  have h7' := h7.on hbel (Nat.le_refl _)
  have h6 := h6'.on hbel (Nat.le_refl _)
  have h3 := h3'.on hbel (Nat.le_refl _)
  have h4 := h4'.on hbel (Nat.le_refl _)
  have hb8 := hb7.trans (hbel.mono hb7.size)
  have h10 := num_len10 x HX.out
  clear hown8 hbel h7 h6' h3' h4' hb7
  go_wp2_with fail
  refine (join_two _ w8.heap.size A3 A8 n3 c3 n8 c8 f (num x) (by simp) (by simp) (by simp) (by exact h3.onA _) (by exact h8.onA _) (by omega)).mono ?_
  rintro e w9 ⟨A9, n9, c9, rfl, hown9, hbel⟩
  have h9 := Sl.of_own hown9
  have h7 := (h7'.onA _).on hbel (Nat.le_refl _)
  have h6' := (h6.onA _).on hbel (Nat.le_refl _)
  have h4' := (h4.onA _).on hbel (Nat.le_refl _)
  have hb9 := (hb8.alloc hb8.size _).trans (hbel.mono (Nat.le_trans hb8.size (by simp)))
  clear hown9 hbel h7' h6 h3 h4 hb8 h8
  go_wp2_with fail
  refine (same_yes w9 w9.heap.size A7 A9 n7 c7 n9 c9 (f ++ num x) h7 h9).mono ?_
  rintro e w10 ⟨rfl, q, rfl⟩
  obtain ⟨b6, o6, x6, rfl, _, hx6, hc6⟩ := h6'.at_ (k := n3) (by omega)
  have hx90 : x6 = 90 := by
    rw [List.getElem?_append_right (by omega)] at hx6
    simpa [hlf] using hx6.symm
  subst hx90
  have hc6' : (w9.drewN q).cell? ⟨b6, o6 + n3, none⟩ = some (.int .u8 90) := hc6
  have h4 := h4'.onD q
  have hb10 := below_drewN hb9 q
  clear hx6 hc6 h7 h9 hb9 h4' h6'
  generalize w9.drewN q = w10 at *
  have HLF := Lib.hid hlf; clear hlf
  go_wp2_with fail
  refine (refNum_any x w10 HX.out).mono ?_
  rintro e w11 ⟨A11, n11, c11, rfl, hown11, hbel⟩
  have h11 := Sl.of_own hown11
  have h4' := h4.on hbel (Nat.le_refl _)
  have hb11 := hb10.trans (hbel.mono hb10.size)
  clear hown11 hbel h4 hb10 hc6'
  go_wp2_with fail
  refine (join_two _ w11.heap.size A11 A4 n11 c11 n4 c4 (num x) bh (by simp) (by simp) (by simp) (by exact h11.onA _) (by exact h4'.onA _) (by omega)).mono ?_
  rintro e w12 ⟨A12, n12, c12, rfl, hown12, hbel⟩
  have h12 := Sl.of_own hown12
  have hl4' := h4'.len
  have hb12 := (hb11.alloc hb11.size _).trans (hbel.mono (Nat.le_trans hb11.size (by simp)))
  clear hown12 hbel h11 h4' hb11
  go_wp2_with fail
  refine (of_any w12 A12 n12 c12 (num x ++ bh) h12 (by rw [List.length_append]; omega)).mono ?_
  rintro e w13 ⟨g, A13, n13, c13, hg, rfl, hin, hbel⟩
  have hb13 := hb12.trans (hbel.mono hb12.size)
  have hgw := Nat.le_trans hb12.size hg
  have HI := Lib.hid hin
  have HL4 := Lib.hid hl4'
  clear hbel hb12 h12 hg hin hl4'
  go_wp2_with fail
  refine (inNum_any HI.out).mono ?_
  rintro e w14 ⟨A14, n14, c14, rfl, hin14, hg14⟩
  rw [stNum_num x bh HX.out] at hin14 ⊢
  have hb14 : Below w.heap.size w w14 := hb13.grown hg14 hb13.size (fun k hk => by injection hk with hk; omega)
  have HI2 := Lib.hid hin14
  clear hin14 hg14 hb13 HI
  go_wp2_with fail
  refine (err_any HI2.out).mono ?_
  rintro e w15 ⟨rfl, rfl⟩
  go_wp2_with fail
  refine (left_any HI2.out).mono ?_
  rintro e w15 ⟨rfl, rfl⟩
  have hq : n14 = n4 := by have := HI2.out.sl.len; have := HL4.out; omega
  subst hq
  clear HI2 HL4
  go_wp2
  go_ret
  exact ⟨rfl, hb14⟩
end Go.Proofs.Ytmafdoodgkhgeaa
