/-
  CONTRACTS of math/bits.Len64, Len: some number is handed back; of cmp.Less at uint64.
  No statement is proved here.
-/
import Derived.Test.YthhmgbeigeagdaaRunsEq
namespace Go.Proofs.Ythhmgbeigeagdaa
open Go.RowKit
/-- Some number is handed back, and nothing has turned. -/
def SomeInt (w : World) (e : Ending) (w' : World) : Prop := (∃ z : Int, e = .returned (.int .i64 z)) ∧ w = w'
set_option maxRecDepth 100000 in
set_option maxHeartbeats 400000 in
theorem len64_any (w : World) (x : Nat) (hx : x < 256) : Calls Try.prog 63 #[.int .u64 (x : Int)] w (SomeInt w) := by
  have h1 : ¬ (4294967296 : Int) ≤ (x : Int) := by omega
  have h2 : ¬ (65536 : Int) ≤ (x : Int) := by omega
  have h3 : ¬ (256 : Int) ≤ (x : Int) := by omega
  have h4 : (x : Int) < 256 := by omega
  go_enter Try.func63, Try.ntmps63
  go_wp2_with fail
  go_ret
  exact ⟨⟨_, rfl⟩, rfl⟩
set_option maxRecDepth 100000 in
set_option maxHeartbeats 400000 in
theorem len_any (w : World) (x : Nat) (hx : x < 256) : Calls Try.prog 47 #[.int .u64 (x : Int)] w (SomeInt w) := by
  have h4 : (x : Int) < 256 := by omega
  go_enter Try.func47, Try.ntmps47
  go_wp2_with fail
  refine (len64_any w x hx).mono ?_
  rintro e w' ⟨⟨z, rfl⟩, rfl⟩
  go_wp2
  go_ret
  exact ⟨⟨_, rfl⟩, rfl⟩
set_option maxHeartbeats 400000 in
theorem nan_any (w : World) (a : Int) : Calls Try.prog 69 #[.int .u64 a] w fun e w' => e = .returned (.bool false) ∧ w = w' := by
  have h : (a != a) = false := by simp
  go_enter Try.func69, Try.ntmps69
  go_wp2
  go_ret
  exact ⟨rfl, rfl⟩
def ltB (a b : Nat) : Bool := decide (a < b)
set_option maxHeartbeats 400000 in
theorem cmpLess_any (w : World) (a b : Nat) : Calls Try.prog 59 #[.int .u64 (a : Int), .int .u64 (b : Int)] w fun e w' => e = .returned (.bool (ltB a b)) ∧ w = w' := by
  go_enter Try.func59, Try.ntmps59
  go_wp2_with fail
  refine (nan_any w (a : Int)).mono ?_
  rintro e w' ⟨rfl, rfl⟩
  go_wp2
  go_ret
  exact ⟨by simp [ltB], rfl⟩
end Go.Proofs.Ythhmgbeigeagdaa
