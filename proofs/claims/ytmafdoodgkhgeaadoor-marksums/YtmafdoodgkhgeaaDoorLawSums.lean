/-
  THE WALK of the law MarkSums: where the table is as the program's text lays it, it returns true, whatever the bytes, and turns nothing that was there.
-/
import Derived.Test.YtmafdoodgkhgeaaDoorMarkSum
namespace Go.Proofs.YtmafdoodgkhgeaaDoor
open Go.RowKit


set_option maxHeartbeats 1000000 in
set_option maxRecDepth 100000 in
theorem markSums_law (w : World) (ht : TabAt w) (A0 : Option Addr) (n0 c0 : Nat) (l0 : List UInt8) (h0 : Sl w w.heap.size A0 n0 c0 l0) (x : Nat) (hx : x < 65536) :
    Calls Tryd.prog 3 #[.slice A0 n0 c0, .int .u16 (x : Int)] w (Yes w) := by
  have HT := Lib.hid ht; clear ht
  go_enter Tryd.func3, Tryd.ntmps3
  go_wp2_with fail
  refine (awake_any w HT.out).mono ?_
  rintro e w1 ⟨rfl, hb1⟩
  have h0' := h0.on hb1 (Nat.le_refl _)
  have HT1 := Lib.hid (HT.out.below hb1)
  clear h0 HT
  go_wp2_with fail
  refine (cut_any w1 A0 n0 c0 l0 400 h0' (by omega)).mono ?_
  rintro e w2 ⟨A3, n3, c3, rfl, hown3, hbel⟩
  have h3 := Sl.of_own hown3
  have HT2 := Lib.hid (HT1.out.below hbel)
  have hb2 := hb1.trans (hbel.mono hb1.size)
  have hl3 : (l0.take 400).length ≤ 400 := by rw [List.length_take]; omega
  generalize l0.take 400 = p at *
  have hn3 : n3 ≤ 400 := by have := h3.len; omega
  clear hown3 hbel hb1 h0' HT1
  go_wp2_with fail
  refine (join_one _ w2.heap.size A3 n3 c3 p (by simp) (by simp) (by exact h3.onA _) (by omega)).mono ?_
  rintro e w3 ⟨A4, n4, c4, rfl, hown4, hbel⟩
  have h4 := Sl.of_own hown4
  have h3' := (h3.onA _).on hbel (Nat.le_refl _)
  have HT3 := Lib.hid ((HT2.out.alloc _).below hbel)
  have hb3 := (hb2.alloc hb2.size _).trans (hbel.mono (Nat.le_trans hb2.size (by simp)))
  have hn4 : n4 ≤ 400 := by have := h4.len; omega
  clear hown4 hbel hb2 h3 HT2
  obtain ⟨k, hk⟩ : ∃ k : Nat, k = x % (n3 + 1) := ⟨_, rfl⟩
  have hkn : k ≤ n3 := by have := Nat.mod_lt x (show 0 < n3 + 1 by omega); omega
  have ek : (x : Int) % ((n3 : Int) + 1) = (k : Int) := by rw [hk]; simp
  clear hk
  go_wp2_with fail
  refine (refSum_any w3 w3.heap.size A3 n3 c3 p h3').mono ?_
  rintro e w4 ⟨rfl, rfl⟩
  rw [ek]
  clear ek
  have hn34 : n3 = n4 := by have := h4.len; have := h3'.len; omega
  subst hn34
  have hsum := sum_lt p
  have HS1 : Hid (∀ q, Calls Tryd.prog 12 #[.slice A4 n3 c4] (w3.drewN q) fun e w'' => e = .returned (.int .u32 ((sum p : Nat) : Int)) ∧ ∃ m, w'' = w3.drewN m) :=
    fun q => quiet_l (sum_any _ _ _ _ _ _ (HT3.out.drewN q) (h4.drewN q))
  have ht4 := h4.take (k := k) (m := c4) hkn (by have := h4.le; omega) (Nat.le_refl _)
  have hd4 := h4.drop (k := k) hkn
  have hle4 := h4.le
  have HS2 : Hid (∀ q, Calls Tryd.prog 12 #[.slice A4 k c4] (w3.drewN q) fun e w'' => e = .returned (.int .u32 ((sum (p.take k) : Nat) : Int)) ∧ ∃ m, w'' = w3.drewN m) :=
    fun q => quiet_l (sum_any _ _ _ _ _ _ (HT3.out.drewN q) (ht4.drewN q))
  have HS4 : Hid (∀ q, Calls Tryd.prog 13 #[.int .u32 0, .slice A4 n3 c4] (w3.drewN q) fun e w'' => e = .returned (.int .u32 ((sum p : Nat) : Int)) ∧ ∃ m, w'' = w3.drewN m) :=
    fun q => quiet_l (more_any _ _ _ _ _ 0 _ (HT3.out.drewN q) (h4.drewN q) (by decide))
  have HS5 : Hid (∀ q, Calls Tryd.prog 14 #[.slice A4 n3 c4, .slice A3 n3 c3] (w3.drewN q) fun e w'' => e = .returned (.bool true) ∧ ∃ m, w'' = w3.drewN m) :=
    fun q => quiet_d (same_yes _ _ _ _ _ _ _ _ _ (h4.drewN q) (h3'.drewN q))
  have HMS := Lib.hid (show more (sum (p.take k)) (p.drop k) = sum p by rw [more_sum, List.take_append_drop])
  have hs1l := sum_lt (p.take k)
  generalize sum (p.take k) = s1 at *
  have HSL := Lib.hid hs1l
  clear hsum hs1l ht4
  by_cases hck : c4 = k
  · subst hck
    have hnc : n3 = c4 := by omega
    subst hnc
    rw [if_pos rfl, Nat.sub_self] at hd4
    have HS3 : Hid (∀ q, Calls Tryd.prog 13 #[.int .u32 ((sum p : Nat) : Int), .slice A4 0 0] (w3.drewN q) fun e w'' => e = .returned (.int .u32 ((sum p : Nat) : Int)) ∧ ∃ m, w'' = w3.drewN m) :=
      fun q => by
        have h := quiet_l (more_any _ _ _ _ _ (sum p) _ (HT3.out.drewN q) (hd4.drewN q) (sum_lt p))
        rw [more_sum, List.drop_eq_nil_of_le (by have := h4.len; omega), List.append_nil] at h
        exact h
    clear hd4 h4 h3'
    go_wp2_with fail
    go_quiet ((first
      | (go_at_call 12; with_reducible exact HS1.out _)
      | (go_at_call 13; with_reducible exact HS3.out _)
      | (go_at_call 13; with_reducible exact HS4.out _)
      | (go_at_call 14; with_reducible exact HS5.out _)))
    go_wp2
    go_ret
    exact ⟨rfl, below_drewN hb3 _⟩
  · rw [if_neg hck] at hd4
    have HS3 : Hid (∀ q, Calls Tryd.prog 13 #[.int .u32 (s1 : Int), .slice (A4.map (·.add k)) (n3 - k) (c4 - k)] (w3.drewN q) fun e w'' => e = .returned (.int .u32 ((sum p : Nat) : Int)) ∧ ∃ m, w'' = w3.drewN m) :=
      fun q => by
        have h := quiet_l (more_any _ _ _ _ _ s1 _ (HT3.out.drewN q) (hd4.drewN q) HSL.out)
        rw [HMS.out] at h
        exact h
    clear hd4 h4 h3'
    go_wp2_with fail
    go_quiet ((first
      | (go_at_call 12; with_reducible exact HS1.out _)
      | (go_at_call 12; with_reducible exact HS2.out _)
      | (go_at_call 13; with_reducible exact HS3.out _)
      | (go_at_call 13; with_reducible exact HS4.out _)
      | (go_at_call 14; with_reducible exact HS5.out _)))
    go_wp2
    go_ret
    exact ⟨rfl, below_drewN hb3 _⟩
end Go.Proofs.YtmafdoodgkhgeaaDoor
