/-
  THE WALK of PauseWaits.
-/
import Derived.Test.YtmddembfifmeeaaLawPRights
namespace Go.Proofs.Ytmddembfifmeeaa
open Go.RowKit

set_option maxRecDepth 100000 in
set_option maxHeartbeats 1000000 in
theorem pauseWaits_law (w : World) (x : Int) (_hx : -9223372036854775808 ≤ x ∧ x ≤ 9223372036854775807) (y : Int) (_hy : -9223372036854775808 ≤ y ∧ y ≤ 9223372036854775807) (t : Int) (ht : -9223372036854775808 ≤ t ∧ t ≤ 9223372036854775807) :
    Calls Try.prog 3 #[.int .i64 x, .int .i64 y, .int .i64 t] w (Yes w) := by
  clear _hx _hy
  go_enter Try.func3, Try.ntmps3
  go_wp2_with fail
  refine (awake_any _).mono ?_
  rintro e w1 ⟨rfl, hb1⟩
  go_wp2_with fail
  refine (mk_any w1 x y).mono ?_
  rintro e w2 ⟨f, m, rfl, hp, hb2⟩
  have hbw : Below w.heap.size w w2 := hb1.trans (hb2.mono hb1.size)
  have HP := Lib.hid hp
  obtain ⟨W, HW⟩ : ∃ W : Int, Hid (W = ((wt f m t.toNat : Nat) : Int)) := ⟨_, rfl⟩
  obtain ⟨N, HN⟩ : ∃ N : Int, Hid (N = ((wt f m (t.toNat + 1) : Nat) : Int)) := ⟨_, rfl⟩
  have hW1 : (f : Int) ≤ W := by rw [HW.out]; have := wt_ge hp.le t.toNat; omega
  have hW2 : W ≤ (m : Int) := by rw [HW.out]; have := wt_le f m t.toNat; omega
  have hN1 : W ≤ N := by rw [HW.out, HN.out]; have := wt_succ f m t.toNat; omega
  have hN2 : N ≤ 2 * W := by rw [HW.out, HN.out]; have := wt_two f m t.toNat; omega
  have hW0 : W ≤ 2 * W := by have := hp.one; omega
  have hm : (m : Int) ≤ 1099511627776 := by have := hp.most; omega
  have h2W : wrap64 (2 * W) = 2 * W := by unfold wrap64; have := hp.one; omega
  have CW : Hid (∀ w', Calls Try.prog 9 #[prv f m, .int .i64 t] w' (Ans w' (.int .i64 W))) := fun w' => by rw [HW.out]; exact wait_any w' f m t hp ht
  have CR : Hid (∀ w', Calls Try.prog 11 #[.int .i64 f, .int .i64 m, .int .i64 t] w' (Ans w' (.int .i64 W))) := fun w' => by rw [HW.out]; exact refWait_any w' f m t hp ht
  have HM := Lib.hid hm
  clear hp hb1 hb2 hm
  go_wp2_with fail
  refine (CW.out _).mono ?_
  rintro e w3 ⟨rfl, hb3⟩
  have hT3 : Two w w2.heap.size (.int .i64 f) (.int .i64 m) w3 :=
    Two.next (w := w2.alloc (.cells #[.int .i64 f, .int .i64 m] 24)) ⟨⟨by simp, by simp⟩, hbw.alloc hbw.size _⟩ hb3
  obtain ⟨X, HX⟩ : ∃ X, Hid (X = w2.heap.size) := ⟨_, rfl⟩
  rw [← HX.out] at hT3 ⊢
  clear hb3 hbw
  have hc0 := hT3.1.1
  have hc1 := hT3.1.2
  by_cases h30 : t < 1073741824
  · by_cases h0 : 0 ≤ t
    · go_wp2_with fail
      refine (show Calls Try.prog 9 #[prv f m, .int .i64 (t + 1)] w3 (Ans w3 (.int .i64 N)) from by
        have h := wait_any w3 f m (t + 1) HP.out (by omega)
        rw [show (t + 1).toNat = t.toNat + 1 by omega, ← HN.out] at h
        exact h).mono ?_
      rintro e w4 ⟨rfl, hb4⟩
      have hT4 := hT3.next hb4
      clear hT3 hb4 hc0 hc1
      have hc0 := hT4.1.1
      have hc1 := hT4.1.2
      go_wp2_with fail
      refine (right_any w4 f m).mono ?_
      rw [rightI_yes HP.out]
      rintro e w5 ⟨rfl, hb5⟩
      have hT5 := hT4.next hb5
      clear hT4 hb5 hc0 hc1
      have hc0 := hT5.1.1
      have hc1 := hT5.1.2
      go_wp2_with fail
      refine (CR.out w5).mono ?_
      rintro e w6 ⟨rfl, hb6⟩
      have hT6 := hT5.next hb6
      clear hT5 hb6 hc0 hc1
      have hc0 := hT6.1.1
      have hc1 := hT6.1.2
      go_wp2_with fail
      go_ret
      exact ⟨rfl, hT6.2⟩
    · go_wp2_with fail
      refine (show Calls Try.prog 9 #[prv f m, .int .i64 1] w3 (Ans w3 (.int .i64 N)) from by
        have h := wait_any w3 f m 1 HP.out (by omega)
        rw [show (1 : Int).toNat = t.toNat + 1 by omega, ← HN.out] at h
        exact h).mono ?_
      rintro e w4 ⟨rfl, hb4⟩
      have hT4 := hT3.next hb4
      clear hT3 hb4 hc0 hc1
      have hc0 := hT4.1.1
      have hc1 := hT4.1.2
      go_wp2_with fail
      refine (right_any w4 f m).mono ?_
      rw [rightI_yes HP.out]
      rintro e w5 ⟨rfl, hb5⟩
      have hT5 := hT4.next hb5
      clear hT4 hb5 hc0 hc1
      have hc0 := hT5.1.1
      have hc1 := hT5.1.2
      go_wp2_with fail
      refine (CR.out w5).mono ?_
      rintro e w6 ⟨rfl, hb6⟩
      have hT6 := hT5.next hb6
      clear hT5 hb6 hc0 hc1
      have hc0 := hT6.1.1
      have hc1 := hT6.1.2
      go_wp2_with fail
      go_ret
      exact ⟨rfl, hT6.2⟩
  · go_wp2_with fail
    refine (right_any w3 f m).mono ?_
    rw [rightI_yes HP.out]
    rintro e w5 ⟨rfl, hb5⟩
    have hT5 := hT3.next hb5
    clear hT3 hb5 hc0 hc1
    have hc0 := hT5.1.1
    have hc1 := hT5.1.2
    go_wp2_with fail
    refine (CR.out w5).mono ?_
    rintro e w6 ⟨rfl, hb6⟩
    have hT6 := hT5.next hb6
    clear hT5 hb6 hc0 hc1
    have hc0 := hT6.1.1
    have hc1 := hT6.1.2
    go_wp2_with fail
    go_ret
    exact ⟨rfl, hT6.2⟩
end Go.Proofs.Ytmddembfifmeeaa
