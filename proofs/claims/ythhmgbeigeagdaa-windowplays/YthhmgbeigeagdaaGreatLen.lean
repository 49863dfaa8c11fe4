/-
  CONTRACTS of math/bits.Len64, Len below 65536; nextPowerOfTwo of package slices below 30000.
  No statement is proved here.
-/
import Derived.Test.YthhmgbeigeagdaaRunsLen
import Derived.Laws.MathBits
namespace Go.Proofs.Ythhmgbeigeagdaa
open Go.RowKit
theorem w64i {z : Int} (h1 : -9223372036854775808 ≤ z) (h2 : z ≤ 9223372036854775807) : wrap64 z = z := by unfold wrap64; omega
def BitIs (w : World) (x : Nat) (e : Ending) (w' : World) : Prop := (∃ n : Nat, e = .returned (.int .i64 (n : Int)) ∧ n ≤ 16 ∧ x < 2 ^ n ∧ (x ≠ 0 → 2 ^ n ≤ 2 * x)) ∧ w = w'
theorem bitLen_two {x : Nat} (h : x ≠ 0) : 2 ^ Go.bitLen x ≤ 2 * x := by
  have h1 := (bitLen_spec x).2 h
  have h2 : Go.bitLen x = (Go.bitLen x - 1) + 1 := by unfold Go.bitLen; rw [if_neg h]; omega
  rw [h2, Nat.pow_succ]
  omega
set_option maxRecDepth 100000 in
set_option maxHeartbeats 400000 in
theorem len64_small (w : World) (x : Nat) (hx : x < 256) : Calls Try.prog 63 #[.int .u64 (x : Int)] w (BitIs w x) := by
  have h1 : ¬ (4294967296 : Int) ≤ (x : Int) := by omega
  have h2 : ¬ (65536 : Int) ≤ (x : Int) := by omega
  have h3 : ¬ (256 : Int) ≤ (x : Int) := by omega
  have h4 : (x : Int) < 256 := by omega
  go_enter Try.func63, Try.ntmps63
  go_wp2_with fail
  go_ret
  refine ⟨⟨Go.bitLen x, ?_, by have := bitLen_le8 x hx; omega, (bitLen_spec x).1, bitLen_two⟩, rfl⟩
  have hb := bitLen_le8 x hx
  have hg := len8tab_get x (by simpa [ByteArray.size] using hx)
  show Ending.returned (Value.int .i64 _) = _
  rw [hg]
  congr 2
  rw [w64i (z := ((Go.bitLen x : Nat) : Int)) (by omega) (by omega), w64i (z := ((Go.bitLen x : Nat) : Int)) (by omega) (by omega)]
set_option maxRecDepth 100000 in
set_option maxHeartbeats 400000 in
theorem len64_big (w : World) (x y : Nat) (hx : x < 65536) (h256 : 256 ≤ x) (hy : x / 256 = y) : Calls Try.prog 63 #[.int .u64 (x : Int)] w (BitIs w x) := by
  have h1 : ¬ (4294967296 : Int) ≤ (x : Int) := by omega
  have h2 : ¬ (65536 : Int) ≤ (x : Int) := by omega
  have h3 : (256 : Int) ≤ (x : Int) := by omega
  have hyI : (x : Int) / 256 = (y : Int) := by omega
  have h4 : (y : Int) < 256 := by omega
  have hy256 : y < 256 := by omega
  have hs := bitLen_shift x 8 (by show x / 256 ≠ 0; omega)
  rw [show x / 2 ^ 8 = y from hy] at hs
  have hb := bitLen_le8 y hy256
  have HS := Lib.hid (And.intro hs (And.intro hb hy256))
  have H0 : Hid (x ≠ 0) := by show _ ≠ _; omega
  clear hs hb hy hy256
  go_enter Try.func63, Try.ntmps63
  go_wp2_with fail
  go_ret
  have hb := HS.out.2.1
  refine ⟨⟨Go.bitLen x, ?_, by have := HS.out.1; omega, (bitLen_spec x).1, bitLen_two⟩, rfl⟩
  have hg := len8tab_get y (by simpa [ByteArray.size] using HS.out.2.2)
  show Ending.returned (Value.int .i64 _) = _
  rw [hg, HS.out.1]
  congr 2
  rw [w64i (z := ((Go.bitLen y : Nat) : Int)) (by omega) (by omega), w64i (by omega) (by omega)]
  omega
theorem len64_b (w : World) (x : Nat) (hx : x < 65536) : Calls Try.prog 63 #[.int .u64 (x : Int)] w (BitIs w x) := by
  by_cases h : x < 256
  · exact len64_small w x h
  · exact len64_big w x (x / 256) hx (by omega) rfl
set_option maxRecDepth 100000 in
set_option maxHeartbeats 400000 in
theorem len_b (w : World) (x : Nat) (hx : x < 65536) : Calls Try.prog 47 #[.int .u64 (x : Int)] w (BitIs w x) := by
  go_enter Try.func47, Try.ntmps47
  go_wp2_with fail
  refine (len64_b w x hx).mono ?_
  rintro e w' ⟨⟨n, rfl, h⟩, rfl⟩
  go_wp2
  go_ret
  exact ⟨⟨n, rfl, h⟩, rfl⟩
def PowB (w : World) (x : Nat) (e : Ending) (w' : World) : Prop := (∃ m : Nat, e = .returned (.int .u64 (m : Int)) ∧ 1 ≤ m ∧ m ≤ 2 * x ∧ m ≤ 65536) ∧ w = w'
set_option maxRecDepth 100000 in
set_option maxHeartbeats 400000 in
theorem pow_b (w : World) (x : Nat) (hx : x < 30000) (h8 : 8 ≤ x) : Calls Try.prog 65 #[.int .i64 (x : Int)] w (PowB w x) := by
  have h0 : (0 : Int) ≤ (x : Int) := by omega
  have H8 := Lib.hid (And.intro hx h8)
  clear hx h8
  go_enter Try.func65, Try.ntmps65
  have hx := H8.out.1
  go_wp2_with fail
  refine (len_b w x (by omega)).mono ?_
  rintro e w' ⟨⟨n, rfl, h16, hn1, hn2⟩, rfl⟩
  have hn3 := hn2 (by have := H8.out.2; omega)
  have HN := Lib.hid (And.intro h16 hn3)
  clear hn1 hn2 hn3
  go_wp2
  go_ret
  have h1 := HN.out.2
  have h2 := H8.out.1
  have h3 : (1 : Nat) ≤ 2 ^ n := Nat.one_le_two_pow
  have h4 : ((2 : Int) ^ n) = ((2 ^ n : Nat) : Int) := by simp
  obtain ⟨q, hq⟩ : ∃ q, q = 2 ^ n := ⟨_, rfl⟩
  rw [← hq] at h1 h3 h4
  refine ⟨⟨q, ?_, h3, h1, by omega⟩, rfl⟩
  show Ending.returned (Value.int .u64 (IntKind.u64.wrap ((2 : Int) ^ n))) = _
  rw [h4, IntKind.wrap_u64]
  congr 2
  omega
end Go.Proofs.Ythhmgbeigeagdaa
