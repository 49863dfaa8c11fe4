/-
  CONTRACTS of math/bits.Len64, Len, to the number, below 50; nextPowerOfTwo of package slices.
  No statement is proved here.
-/
import Derived.Test.YtjgkfoldbnjpeaaRunsLen
namespace Go.Proofs.Ytjgkfoldbnjpeaa
open Go.RowKit
/-- The number of bits of a number below 64. -/
def lenN (x : Nat) : Nat := if x = 0 then 0 else if x < 2 then 1 else if x < 4 then 2 else if x < 8 then 3 else if x < 16 then 4 else if x < 32 then 5 else 6
def LenIs (w : World) (x : Nat) (e : Ending) (w' : World) : Prop := e = .returned (.int .i64 (lenN x : Int)) ∧ w = w'
set_option maxRecDepth 100000 in
set_option maxHeartbeats 400000 in
theorem len64_x (w : World) (x : Nat) (hx : x < 256) (h5 : x < 50) : Calls Try.prog 109 #[.int .u64 (x : Int)] w (LenIs w x) := by
  have h1 : ¬ (4294967296 : Int) ≤ (x : Int) := by omega
  have h2 : ¬ (65536 : Int) ≤ (x : Int) := by omega
  have h3 : ¬ (256 : Int) ≤ (x : Int) := by omega
  have h4 : (x : Int) < 256 := by omega
  have H5 := Lib.hid h5
  clear h5
  go_enter Try.func109, Try.ntmps109
  go_wp2_with fail
  go_ret
  refine ⟨congrArg (fun z => Ending.returned (Value.int IntKind.i64 z)) ?_, rfl⟩
  have h5 := H5.out
  clear H5 h1 h2 h3
  iterate 50
    rcases x with _ | x
    · clear h5; decide +revert +kernel
  omega
set_option maxRecDepth 100000 in
set_option maxHeartbeats 400000 in
theorem len_x (w : World) (x : Nat) (h5 : x < 50) : Calls Try.prog 69 #[.int .u64 (x : Int)] w (LenIs w x) := by
  have h4 : (x : Int) < 256 := by omega
  have H5 := Lib.hid h5
  have hx : x < 256 := by omega
  clear h5
  go_enter Try.func69, Try.ntmps69
  go_wp2_with fail
  refine (len64_x w x hx H5.out).mono ?_
  rintro e w' ⟨rfl, rfl⟩
  go_wp2
  go_ret
  exact ⟨rfl, rfl⟩
/-- 2 to the length: more than x, and at most twice x. -/
def PowIs (w : World) (x : Nat) (e : Ending) (w' : World) : Prop := (∃ m : Nat, e = .returned (.int .u64 (m : Int)) ∧ 1 ≤ m ∧ m ≤ 2 * x ∧ m ≤ 64) ∧ w = w'
set_option maxRecDepth 100000 in
set_option maxHeartbeats 400000 in
theorem pow_x (w : World) (x : Nat) (h5 : x < 50) (h8 : 8 ≤ x) : Calls Try.prog 121 #[.int .i64 (x : Int)] w (PowIs w x) := by
  have h4 : (x : Int) < 50 := by omega
  have h0 : (0 : Int) ≤ (x : Int) := by omega
  have H5 := Lib.hid h5
  have H8 := Lib.hid h8
  clear h5 h8
  go_enter Try.func121, Try.ntmps121
  go_wp2_with fail
  refine (len_x w x H5.out).mono ?_
  rintro e w' ⟨rfl, rfl⟩
  rcases Nat.lt_or_ge x 16 with h16 | h16
  · have HL : lenN x = 4 := by have := H8.out; unfold lenN; rw [if_neg (by omega), if_neg (by omega), if_neg (by omega), if_neg (by omega), if_pos h16]
    rw [HL]
    go_wp2
    go_ret
    exact ⟨⟨16, rfl, by omega, by have := H8.out; omega, by omega⟩, rfl⟩
  · rcases Nat.lt_or_ge x 32 with h32 | h32
    · have HL : lenN x = 5 := by unfold lenN; rw [if_neg (by omega), if_neg (by omega), if_neg (by omega), if_neg (by omega), if_neg (by omega), if_pos h32]
      rw [HL]
      go_wp2
      go_ret
      exact ⟨⟨32, rfl, by omega, by omega, by omega⟩, rfl⟩
    · have HL : lenN x = 6 := by unfold lenN; rw [if_neg (by omega), if_neg (by omega), if_neg (by omega), if_neg (by omega), if_neg (by omega), if_neg (by omega)]
      rw [HL]
      go_wp2
      go_ret
      exact ⟨⟨64, rfl, by omega, by omega, by omega⟩, rfl⟩
end Go.Proofs.Ytjgkfoldbnjpeaa
