/-
  THE WALK of the law MarkCloses: where the table is as the program's text lays it, it returns true, whatever the bytes, and turns nothing that was there.
-/
import Derived.Test.YtmafdoodgkhgeaaDoorMarkClose
namespace Go.Proofs.YtmafdoodgkhgeaaDoor
open Go.RowKit

theorem own_lower {w : World} {base base' : Nat} {v : Value} {n : Nat} {xs : List Value} (h : w.ownsRow base 5 1 v n xs) (hb : base' ≤ base) : w.ownsRow base' 5 1 v n xs := by
  refine ⟨h.1, ?_⟩
  rcases h.2 with hn | ⟨g, cap, cur, hv, hbg, rest⟩
  · exact .inl hn
  · exact .inr ⟨g, cap, cur, hv, Nat.le_trans hb hbg, rest⟩

set_option maxHeartbeats 1000000 in
set_option maxRecDepth 100000 in
theorem markCloses_law (w : World) (ht : TabAt w) (A0 : Option Addr) (n0 c0 : Nat) (l0 : List UInt8) (h0 : Sl w w.heap.size A0 n0 c0 l0) :
    Calls Tryd.prog 4 #[.slice A0 n0 c0] w (Yes w) := by
  have HT := Lib.hid ht; clear ht
  obtain ⟨i0, hi0, hz0, hz1, hz2⟩ := info_parts u8_info
  go_enter Tryd.func4, Tryd.ntmps4
  go_wp2_with fail
  refine (awake_any w HT.out).mono ?_
  rintro e w1 ⟨rfl, hb1⟩
  have h0' := h0.on hb1 (Nat.le_refl _)
  have HT1 := Lib.hid (HT.out.below hb1)
  clear h0 HT
  go_wp2_with fail
  refine (cut_any w1 A0 n0 c0 l0 300 h0' (by omega)).mono ?_
  rintro e w3 ⟨A3, n3, c3, rfl, hown3, hbel⟩
  have h3' := Sl.of_own hown3
  have HT2 := Lib.hid (HT1.out.below hbel)
  have hb3 := hb1.trans (hbel.mono hb1.size)
  have hl3 : (l0.take 300).length ≤ 300 := by rw [List.length_take]; omega
  generalize l0.take 300 = f at *
  clear hown3 hbel hb1 h0' HT1
  go_wp2_with fail
  refine (join_one _ w3.heap.size A3 n3 c3 f (by simp) (by simp) (by exact h3'.onA _) (by omega)).mono ?_
  rintro e w4 ⟨A5, n5, c5, rfl, hown5, hbel⟩
  have hz3 : w3.heap.size ≤ w4.heap.size := by have := hbel.size; simp at this; omega
  have h3 := (h3'.alloc (Nat.le_refl _) _).below hbel (by simp)
  have HT3 := Lib.hid ((HT2.out.alloc _).below hbel)
  have hb4 := (hb3.alloc hb3.size _).trans (hbel.mono (Nat.le_trans hb3.size (by simp)))
  have hn5 : n5 ≤ 300 := by have := (Sl.of_own hown5).len; omega
  have hn35 : n3 = n5 := by have := (Sl.of_own hown5).len; have := h3.len; omega
  subst hn35
  have hown := own_lower hown5 (base' := w3.heap.size) (by simp)
  have hd : Dst (w4.alloc (.cells #[.int .u8 90, .int .u8 90, .int .u8 90, .int .u8 90] 5)) w3.heap.size 5 A5 n3 c5 f := .inr (hown.alloc _)
  have hs90 : Sl (w4.alloc (.cells #[.int .u8 90, .int .u8 90, .int .u8 90, .int .u8 90] 5)) (w4.heap.size + 1) (some ⟨w4.heap.size, 0, none⟩) 4 4 [90, 90, 90, 90] := four_sl w4 5 rfl rfl rfl rfl
  have hb4a := hb4.alloc hb4.size (.cells #[.int .u8 90, .int .u8 90, .int .u8 90, .int .u8 90] 5)
  have h3a := h3.alloc hz3 (.cells #[.int .u8 90, .int .u8 90, .int .u8 90, .int .u8 90] 5)
  have HT4 := Lib.hid (HT3.out.alloc (.cells #[.int .u8 90, .int .u8 90, .int .u8 90, .int .u8 90] 5))
  have hpos := HT2.out.pos
  have hzw := hb3.size
  clear hbel hb3 h3' hown5 hb4 h3 hown HT2 HT3
  have HBD : Hid (n3 + 4 ≤ 140737488355328) := by show _ ≤ _; omega
  go_wp2_with (at_builtin; go_must (refine wpList_append_dst _ rfl (.tmp 13) (.tmp 14) 22 22 rfl w3.heap.size 5 i0 Tryd.underlying22 hi0 hz0 hz1 hz2 A5 n3 c5 f rfl hd _ 4 [90, 90, 90, 90] rfl (hs90.src Tryd.underlying22) HBD.out (by simp; omega) ?_); intro A6 c6 w6 h61 h62 h63 h64 h65; have hle6 := h61.sl.le)
  have h6 := h61.sl
  have h3 := (h3a.below h64 (Nat.le_refl _)).more (Nat.le_trans hz3 (Nat.le_trans (by simp) h64.size))
  have HT6 : Hid (TabAt w6) := ⟨fun i hi => (h64.cell (p := ⟨0, i, none⟩) hpos).trans (HT4.out.cell i hi)⟩
  have hb6 := hb4a.trans (h64.mono hzw)
  have hlf : f.length = n3 := h3.len
  have h6f : Sl w6 w6.heap.size A6 n3 c6 f := by
    have h := h6.take (k := n3) (m := c6) (by omega) (by omega) (Nat.le_refl _)
    rwa [List.take_left' hlf] at h
  clear h61 h62 h63 h64 h65 hb4a h3a hd hs90 hzw hz3 HT4 hpos
  refine (close_any w6 A6 n3 c6 f HT6.out h6f (by omega)).mono ?_
  rintro e w7 ⟨A7, n7, c7, rfl, hown7, hbel⟩
  have h7 := Sl.of_own hown7
  have h6' := h6.on hbel (Nat.le_refl _)
  have h3' := h3.on hbel (Nat.le_refl _)
  have HT7 := Lib.hid (HT6.out.below hbel)
  have hb7 := hb6.trans (hbel.mono hb6.size)
  clear hown7 hbel h6 h6f h3 hb6 HT6
  have hcl := closed_len f
  go_wp2_with fail
  refine (open_any w7 A7 n7 c7 (closed f) HT7.out h7 (by omega)).mono ?_
  rintro e w8 ⟨A8, n8, c8, rfl, h8, hbel⟩
  rw [opn_closed] at h8 ⊢
  have h7' := h7.on hbel (Nat.le_refl _)
  have h6 := h6'.on hbel (Nat.le_refl _)
  have h3 := h3'.on hbel (Nat.le_refl _)
  have hb8 := hb7.trans (hbel.mono hb7.size)
  clear hbel h7 h6' h3' hb7 HT7
  go_wp2_with fail
  refine (refClose_any w8 A3 n3 c3 f h3 (by omega)).mono ?_
  rintro e w9 ⟨A9, n9, c9, rfl, hown9, hbel⟩
  have h9 := Sl.of_own hown9
  have h8' := h8.on hbel (Nat.le_refl _)
  have h7 := h7'.on hbel (Nat.le_refl _)
  have h6' := h6.on hbel (Nat.le_refl _)
  have h3' := h3.on hbel (Nat.le_refl _)
  have hb9 := hb8.trans (hbel.mono hb8.size)
  clear hbel h7' h6 h3 hb8 h8 hown9
  go_wp2_with fail
  refine (same_yes w9 w9.heap.size A7 A9 n7 c7 n9 c9 (closed f) h7 h9).mono ?_
  rintro e w10 ⟨rfl, q, rfl⟩
  have h8 := h8'.onD q
  have h6 := h6'.onD q
  have h3 := h3'.onD q
  have hb10 := below_drewN hb9 q
  clear h7 h9 hb9 h8' h6' h3'
  generalize w9.drewN q = w10 at *
  go_wp2_with fail
  refine (same_yes w10 w10.heap.size A8 A3 n8 c8 n3 c3 f h8 h3).mono ?_
  rintro e w11 ⟨rfl, q2, rfl⟩
  have h6' := h6.onD q2
  have hb11 := below_drewN hb10 q2
  clear h8 h3 hb10 h6
  generalize w10.drewN q2 = w11 at *
  have hd6 := h6'.drop (k := n3) (by omega)
  have hnc : ¬ c6 = n3 := by omega
  rw [if_neg hnc, show n3 + 4 - n3 = 4 from by omega, List.drop_left' hlf] at hd6
  have HLF := Lib.hid hlf; clear hlf hcl
  have h90 : Sl (w11.alloc (.cells #[.int .u8 90, .int .u8 90, .int .u8 90, .int .u8 90] 5)) (w11.heap.size + 1) (some ⟨w11.heap.size, 0, none⟩) 4 4 [90, 90, 90, 90] := four_sl w11 5 rfl rfl rfl rfl
  go_wp2_with fail
  refine (same_yes _ (w11.heap.size + 1) _ _ 4 (c6 - n3) 4 4 [90, 90, 90, 90] (by exact (hd6.alloc (Nat.le_refl _) _).more (by omega)) (by exact h90)).mono ?_
  rintro e w12 ⟨rfl, q3, rfl⟩
  go_wp2
  go_ret
  exact ⟨rfl, below_drewN (hb11.alloc hb11.size _) q3⟩
end Go.Proofs.YtmafdoodgkhgeaaDoor
