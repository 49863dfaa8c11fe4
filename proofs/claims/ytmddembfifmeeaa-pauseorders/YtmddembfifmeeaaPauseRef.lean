/-
  CONTRACTS of the reference's pauses, and of the statements' own small functions.
  No statement is proved here.
-/
import Derived.Test.YtmddembfifmeeaaPauseAll
namespace Go.Proofs.Ytmddembfifmeeaa
open Go.RowKit

def RWRel (w : World) (f m t k : Nat) (x i : Value) (wr : World) : Prop :=
  ∃ j, k + j = t ∧ i = .int .i64 (j : Nat) ∧ x = .int .i64 (f * 2 ^ j : Nat) ∧ f * 2 ^ j ≤ 2 * m ∧ Below w.heap.size w wr

set_option maxRecDepth 100000 in
set_option maxHeartbeats 400000 in
theorem refWait_any (w : World) (f m : Nat) (t : Int) (hp : Pr f m) (ht : -9223372036854775808 ≤ t ∧ t ≤ 9223372036854775807) :
    Calls Try.prog 11 #[.int .i64 f, .int .i64 m, .int .i64 t] w (Ans w (.int .i64 (wt f m t.toNat : Nat))) := by
  have HP := Lib.hid hp
  clear hp
  go_enter Try.func11, Try.ntmps11
  go_wp2_with fail
  go_loopg [7, 8] t.toNat (fun k x i wr => RWRel w f m t.toNat k x i wr)
  case atStart => exact ⟨0, by omega, rfl, by simp, by have := HP.out.le; simp; omega, Below.refl _ _⟩
  case round =>
    obtain ⟨j, hj, rfl, rfl, hle, hb⟩ := hrel
    have hm := HP.out.most
    obtain ⟨y, HY⟩ : ∃ y, Hid (y = f * 2 ^ j) := ⟨_, rfl⟩
    rw [← HY.out] at hle ⊢
    by_cases hlt : (j : Int) < t
    · by_cases hx : (y : Int) < m
      · go_wp2_with fail
        go_roundg (gk - 1)
        case measure => omega
        case rel =>
          refine ⟨j + 1, by omega, by go_num, ?_, ?_, hb⟩
          · rw [Nat.pow_succ, ← Nat.mul_assoc, ← HY.out]; go_num
          · rw [Nat.pow_succ, ← Nat.mul_assoc, ← HY.out]; omega
      · have hw : wt f m t.toNat = m := by
          have h1 := wt_more f m j (t.toNat - j)
          have h2 := wt_le f m t.toNat
          rw [show j + (t.toNat - j) = t.toNat by omega] at h1
          have h3 : wt f m j = m := by unfold wt; rw [← HY.out]; omega
          omega
        have HW := Lib.hid hw
        clear hw
        by_cases hy : (m : Int) < y
        · go_wp2_with fail
          go_ret
          exact ⟨by rw [HW.out]; rfl, hb⟩
        · have : y = m := by omega
          go_wp2_with fail
          go_ret
          refine ⟨?_, hb⟩
          rw [HW.out]
          first | rfl | (rw [← this]; rfl)
    · have hw : wt f m t.toNat = min y m := by
        have : t.toNat = j := by omega
        rw [this, HY.out]; rfl
      have HW := Lib.hid hw
      clear hw
      by_cases hy : (m : Int) < y
      · go_wp2_with fail
        go_ret
        refine ⟨?_, hb⟩
        rw [HW.out, Nat.min_eq_right (by omega)]
        rfl
      · go_wp2_with fail
        go_ret
        refine ⟨?_, hb⟩
        rw [HW.out, Nat.min_eq_left (by omega)]
        rfl

def RARel (w : World) (f m t k : Nat) (x i : Value) (wr : World) : Prop :=
  ∃ j, k + j = t ∧ i = .int .i64 (j : Nat) ∧ x = .int .i64 (al f m j : Nat) ∧ Below w.heap.size w wr

set_option maxRecDepth 100000 in
set_option maxHeartbeats 400000 in
theorem refAll_any (w : World) (f m t : Nat) (hp : Pr f m) (ht : t ≤ 1000) :
    Calls Try.prog 13 #[.int .i64 f, .int .i64 m, .int .i64 t] w (Ans w (.int .i64 (al f m t : Nat))) := by
  have HP := Lib.hid hp
  clear hp
  go_enter Try.func13, Try.ntmps13
  go_wp2_with fail
  go_loopg [7, 8] t (fun k x i wr => RARel w f m t k x i wr)
  case atStart => exact ⟨0, by omega, rfl, rfl, Below.refl _ _⟩
  case round =>
    obtain ⟨j, hj, rfl, rfl, hw0⟩ := hrel
    have hm := HP.out.most
    have hal : al f m (j + 1) ≤ 1101000000000000 := by
      by_cases hjt : j + 1 ≤ 1001
      · have h1 := al_le f m (j + 1)
        have h2 : (j + 1) * m ≤ 1001 * 1099511627776 := Nat.mul_le_mul hjt hm
        omega
      · omega
    simp only [al] at hal
    by_cases hlt : j < t
    · have hwl := wt_le f m j
      go_wp2_with fail
      refine (refWait_any wr f m j HP.out (by omega)).mono ?_
      rintro e w2 ⟨rfl, hw2⟩
      rw [Int.toNat_natCast]
      obtain ⟨v, HV⟩ : ∃ v : Int, Hid (v = ((al f m j + wt f m j : Nat) : Int)) := ⟨_, rfl⟩
      have hv : v < 4611686018427387904 := by rw [HV.out]; omega
      have hwr : wrap64 ((al f m j : Int) + (wt f m j : Int)) = v := by rw [HV.out]; unfold wrap64; omega
      have HA := Lib.hid hal
      have HT := Lib.hid ht
      have HLT := Lib.hid hlt
      clear hal hwl hm ht hlt
      go_wp2_with fail
      go_roundg (gk - 1)
      case measure => have := HLT.out; omega
      case rel =>
        exact ⟨j + 1, by have := HLT.out; omega, by have h1 := HLT.out; have h2 := HT.out; show Value.int .i64 (wrap64 ((j : Int) + 1)) = _; congr 1; unfold wrap64; omega, by show _ = Value.int .i64 ((al f m j + wt f m j : Nat) : Int); rw [← HV.out, hwr], hw0.trans (hw2.mono hw0.size)⟩
    · have : j = t := by omega
      go_wp2_with fail
      go_ret
      refine ⟨?_, hw0⟩
      rw [← this]
      rfl

theorem and_low (x : Int) (M : Nat) (hM : M ≤ 1099511627775) : ∃ k : Nat, bits .and .i64 x (M : Int) = (k : Int) ∧ k ≤ M := by
  have h1 : (BitVec.ofInt 64 x &&& BitVec.ofInt 64 (M : Int)).toNat ≤ M := by
    rw [BitVec.toNat_and]
    refine Nat.le_trans Nat.and_le_right ?_
    simp
    exact Nat.mod_le _ _
  refine ⟨_, ?_, h1⟩
  show IntKind.i64.wrap _ = _
  rw [IntKind.wrap_i64]
  show ((BitVec.ofInt 64 x &&& BitVec.ofInt 64 (M : Int)).toNat + _ : Int) % _ - _ = _
  omega
set_option maxRecDepth 100000 in
set_option maxHeartbeats 400000 in
theorem mk_any (w : World) (x y : Int) :
    Calls Try.prog 8 #[.int .i64 x, .int .i64 y] w fun e w' => ∃ f m : Nat, e = .returned (prv f m) ∧ Pr f m ∧ Below w.heap.size w w' := by
  obtain ⟨a, ha, ha2⟩ := and_low x 1099511627775 (by omega)
  obtain ⟨b, hb, hb2⟩ := and_low y 1099511627775 (by omega)
  have ha' : bits .and .i64 x 1099511627775 = (a : Int) := ha
  have hb' : bits .and .i64 y 1099511627775 = (b : Int) := hb
  clear ha hb
  go_enter Try.func8, Try.ntmps8
  go_wp2_with fail
  · refine bodyPost_ret (v := .agg #[.int .i64 (1 + a : Int), .int .i64 (1 + b : Int)]) (by simp [results, Try.results8, go_sem]) rfl ?_
    refine ⟨1 + a, 1 + b, ?_, ⟨by omega, by omega, by omega⟩, ((Below.refl _ _).alloc (Nat.le_refl _) _).alloc (by simp) _⟩
    unfold prv
    simp
  · refine bodyPost_ret (v := .agg #[.int .i64 (1 + a : Int), .int .i64 (1 + a : Int)]) (by simp [results, Try.results8, go_sem]) rfl ?_
    refine ⟨1 + a, 1 + a, ?_, ⟨by omega, by omega, by omega⟩, ((Below.refl _ _).alloc (Nat.le_refl _) _).alloc (by simp) _⟩
    unfold prv
    simp
theorem pr_ex : Pr 2 10 := ⟨by omega, by omega, by omega⟩
set_option maxRecDepth 100000 in
set_option maxHeartbeats 400000 in
theorem awake_any (w : World) : Calls Try.prog 7 #[] w (Ans w (.bool true)) := by
  go_enter Try.func7, Try.ntmps7
  go_wp2_with fail
  refine (right_any _ 2 10).mono ?_
  rintro e w1 ⟨rfl, hb1⟩
  have hx1 := (Box.new w 2 10 24).ans hb1
  have hb1' : Below w.heap.size w w1 := ((Below.refl _ _).alloc (Nat.le_refl _) _).trans (hb1.mono (by simp))
  have hc0 := hx1.a
  have hc1 := hx1.b
  clear hb1
  rw [show rightI 2 10 = true by decide]
  go_wp2_with fail
  refine (wait_nat w1 2 10 0 pr_ex (by omega)).mono ?_
  rintro e w2 ⟨rfl, hb2⟩
  have hx2 := hx1.ans hb2
  have hb2' := hb1'.trans (hb2.mono hb1'.size)
  have hc0 := hx2.a
  have hc1 := hx2.b
  clear hb2 hb1' hx1
  rw [show wt 2 10 0 = 2 by decide]
  go_wp2_with fail
  refine (wait_nat w2 2 10 2 pr_ex (by omega)).mono ?_
  rintro e w3 ⟨rfl, hb3⟩
  have hx3 := hx2.ans hb3
  have hb3' := hb2'.trans (hb3.mono hb2'.size)
  have hc0 := hx3.a
  have hc1 := hx3.b
  clear hb3 hb2' hx2
  rw [show wt 2 10 2 = 8 by decide]
  go_wp2_with fail
  refine (wait_nat w3 2 10 3 pr_ex (by omega)).mono ?_
  rintro e w4 ⟨rfl, hb4⟩
  have hx4 := hx3.ans hb4
  have hb4' := hb3'.trans (hb4.mono hb3'.size)
  have hc0 := hx4.a
  have hc1 := hx4.b
  clear hb4 hb3' hx3
  rw [show wt 2 10 3 = 10 by decide]
  go_wp2_with fail
  refine (all_any w4 2 10 4 pr_ex (by omega)).mono ?_
  rintro e w5 ⟨rfl, hb5⟩
  have hb5' := hb4'.trans (hb5.mono hb4'.size)
  rw [show min (al 2 10 (4 : Int).toNat) 4611686018427387904 = 24 by decide]
  go_wp2_with fail
  go_ret
  exact ⟨rfl, hb5'⟩
end Go.Proofs.Ytmddembfifmeeaa
