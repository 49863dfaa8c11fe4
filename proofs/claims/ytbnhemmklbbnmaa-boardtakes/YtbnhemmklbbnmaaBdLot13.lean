/-
  TEXTS OF EARLIER ROUNDS, laid together: part 13.
  No statement is proved here.
-/
import Derived.Test.YtbnhemmklbbnmaaBdLot7
import Derived.Deep.QuietTactic
import Derived.BigQuiet
import Derived.Deep.LoopGhost
import Derived.WalkSpells
import Derived.Test.YtbnhemmklbbnmaaRows

/-! ## CmpInts -/
namespace Go.Proofs.Ytbnhemmklbbnmaa
open Go.RowKit

theorem nan64_any (w : World) (x : Int) : Calls Try.prog 121 #[.int .i64 x] w fun e w' => e = .returned (.bool false) ∧ w = w' := by
  go_enter Try.func121, Try.ntmps121
  go_wp2
  go_ret
  exact ⟨rfl, rfl⟩
def cmpI (x y : Int) : Int := if x < y then -1 else if y < x then 1 else 0
set_option maxRecDepth 100000 in
theorem cmp64_any (w : World) (x y : Int) : Calls Try.prog 119 #[.int .i64 x, .int .i64 y] w fun e w' => e = .returned (.int .i64 (cmpI x y)) ∧ w = w' := by
  by_cases h1 : x < y
  · have HE : Hid (cmpI x y = -1) := if_pos h1
    go_enter Try.func119, Try.ntmps119
    go_wp2_with (go_at_call 121; refine (nan64_any _ _).mono ?_; rintro e w1 ⟨rfl, rfl⟩)
    go_ret
    exact ⟨by rw [HE.out]; rfl, rfl⟩
  · by_cases h2 : y < x
    · have HE : Hid (cmpI x y = 1) := by show _ = _; unfold cmpI; rw [if_neg h1, if_pos h2]
      go_enter Try.func119, Try.ntmps119
      go_wp2_with (go_at_call 121; refine (nan64_any _ _).mono ?_; rintro e w1 ⟨rfl, rfl⟩)
      go_ret
      exact ⟨by rw [HE.out]; rfl, rfl⟩
    · have HE : Hid (cmpI x y = 0) := by show _ = _; unfold cmpI; rw [if_neg h1, if_neg h2]
      go_enter Try.func119, Try.ntmps119
      go_wp2_with (go_at_call 121; refine (nan64_any _ _).mono ?_; rintro e w1 ⟨rfl, rfl⟩)
      go_ret
      exact ⟨by rw [HE.out]; rfl, rfl⟩
def orI (a b : Int) : Int := if a = 0 then b else a
def OrRel (w : World) (a b : Int) (gk : Nat) (vi : Value) (wr : World) : Prop :=
  ∃ k, gk + k = 2 ∧ vi = .int .i64 (k : Int) ∧ (1 ≤ k → a = 0) ∧ (2 ≤ k → b = 0) ∧ w = wr
set_option maxRecDepth 100000 in
set_option maxHeartbeats 1000000 in
theorem or_any (w : World) (blk : Nat) (a b : Int) (c0 : w.cell? ⟨blk, 0, none⟩ = some (.int .i64 a)) (c1 : w.cell? ⟨blk, 1, none⟩ = some (.int .i64 b)) :
    Calls Try.prog 118 #[.slice (some ⟨blk, 0, none⟩) 2 2] w fun e w' => e = .returned (.int .i64 (orI a b)) ∧ w = w' := by
  go_enter Try.func118, Try.ntmps118
  go_wp2_with fail
  go_loopg [8] 2 (fun gk vi wr => OrRel w a b gk vi wr)
  case atStart => exact ⟨0, rfl, rfl, by omega, by omega, rfl⟩
  case round =>
    obtain ⟨k, hk, rfl, ha, hb, rfl⟩ := hrel
    rcases k with _ | _ | k
    · by_cases h : a = 0
      · have hB : (a != 0) = false := by simp [h]
        have HA := Lib.hid h
        clear ha hb h
        go_wp2_with fail
        go_roundg (gk - 1)
        case measure => omega
        case rel => exact ⟨1, by omega, by go_num, fun _ => HA.out, by omega, rfl⟩
      · have hB : (a != 0) = true := by simp [h]
        have HE : Hid (orI a b = a) := if_neg h
        clear ha hb h
        go_wp2_with fail
        go_ret
        exact ⟨by rw [HE.out]; rfl, rfl⟩
    · have HA := Lib.hid (ha (by omega))
      by_cases h : b = 0
      · have hB : (b != 0) = false := by simp [h]
        have HB := Lib.hid h
        clear ha hb h
        go_wp2_with fail
        go_roundg (gk - 1)
        case measure => omega
        case rel => exact ⟨2, by omega, by go_num, fun _ => HA.out, fun _ => HB.out, rfl⟩
      · have hB : (b != 0) = true := by simp [h]
        have HE : Hid (orI a b = b) := by show _ = _; unfold orI; rw [if_pos HA.out]
        clear ha hb h
        go_wp2_with fail
        go_ret
        exact ⟨by rw [HE.out]; rfl, rfl⟩
    · have HE : Hid (orI a b = 0) := by show _ = _; unfold orI; rw [if_pos (ha (by omega)), hb (by omega)]
      have hn : ¬ ((k + 1 + 1 : Nat) : Int) < 2 := by omega
      clear ha hb
      go_wp2_with fail
      go_ret
      exact ⟨by rw [HE.out]; rfl, rfl⟩

theorem nanU_any (w : World) (x : Int) : Calls Try.prog 94 #[.int .u64 x] w fun e w' => e = .returned (.bool false) ∧ w = w' := by
  go_enter Try.func94, Try.ntmps94
  go_wp2
  go_ret
  exact ⟨rfl, rfl⟩
set_option maxRecDepth 100000 in
theorem cmpU_any (w : World) (x y : Int) : Calls Try.prog 120 #[.int .u64 x, .int .u64 y] w fun e w' => e = .returned (.int .i64 (cmpI x y)) ∧ w = w' := by
  by_cases h1 : x < y
  · have HE : Hid (cmpI x y = -1) := if_pos h1
    go_enter Try.func120, Try.ntmps120
    go_wp2_with (go_at_call 94; refine (nanU_any _ _).mono ?_; rintro e w1 ⟨rfl, rfl⟩)
    go_ret
    exact ⟨by rw [HE.out]; rfl, rfl⟩
  · by_cases h2 : y < x
    · have HE : Hid (cmpI x y = 1) := by show _ = _; unfold cmpI; rw [if_neg h1, if_pos h2]
      go_enter Try.func120, Try.ntmps120
      go_wp2_with (go_at_call 94; refine (nanU_any _ _).mono ?_; rintro e w1 ⟨rfl, rfl⟩)
      go_ret
      exact ⟨by rw [HE.out]; rfl, rfl⟩
    · have HE : Hid (cmpI x y = 0) := by show _ = _; unfold cmpI; rw [if_neg h1, if_neg h2]
      go_enter Try.func120, Try.ntmps120
      go_wp2_with (go_at_call 94; refine (nanU_any _ _).mono ?_; rintro e w1 ⟨rfl, rfl⟩)
      go_ret
      exact ⟨by rw [HE.out]; rfl, rfl⟩
end Go.Proofs.Ytbnhemmklbbnmaa
