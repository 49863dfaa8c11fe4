/-
  CONTRACTS of layer 4's small functions: bytes.Equal, Right, Size, Same, Less, the law's own.
  No statement is proved here.
-/
import Derived.Test.YtlkcnpmgafckoaaDoorPackEnd
import Derived.Test.YtlkcnpmgafckoaaDoorEver
import Derived.Test.YtlkcnpmgafckoaaDoorBytesEq
namespace Go.Proofs.YtlkcnpmgafckoaaDoor
open Go.RowKit

/-- A span as a value. -/
def spv (C : Int) (A : Option Addr) (n c : Nat) : Value := .agg #[.int .i64 C, .slice A n c]
def rightB (C : Int) (n : Nat) : Bool := decide (0 ≤ C) && decide (C < 8) && decide (n ≤ 4096)


set_option maxHeartbeats 400000 in
theorem right_any (w : World) (C : Int) (A : Option Addr) (n c : Nat) :
    Calls Tryd.prog 89 #[spv C A n c] w (Says w (.bool (rightB C n))) := by
  unfold spv
  go_enter Tryd.func89, Tryd.ntmps89
  go_wp2
  all_goals (go_ret; refine ⟨congrArg (fun b => Ending.returned (.bool b)) ?_, below_box w _⟩; rw [Bool.eq_iff_iff]; simp [rightB]; try omega)

set_option maxHeartbeats 400000 in
theorem refRight_any (w : World) (C : Int) (A : Option Addr) (n c : Nat) :
    Calls Tryd.prog 30 #[spv C A n c] w (Says w (.bool (rightB C n))) := by
  unfold spv
  go_enter Tryd.func30, Tryd.ntmps30
  go_wp2
  all_goals (go_ret; refine ⟨congrArg (fun b => Ending.returned (.bool b)) ?_, below_box w _⟩; rw [Bool.eq_iff_iff]; simp [rightB]; try omega)

/-- An ID as a value; which of two is ahead. -/
def idv (G : Int) (N : Nat) : Value := .agg #[.int .i64 G, .int .u64 (N : Int)]
def lessB (G : Int) (N : Nat) (G' : Int) (N' : Nat) : Bool := decide (G < G') || (decide (G = G') && decide (N < N'))
/-- Are two spans alike? -/
def sameS (C : Int) (l : List UInt8) (C' : Int) (l' : List UInt8) : Bool := decide (C = C') && sameB l l'
set_option maxHeartbeats 400000 in
theorem spanSame_any (w : World) (C C' : Int) (A A' : Option Addr) (n c n' c' : Nat) (l l' : List UInt8) (hs : Sl w w.heap.size A n c l) (hs' : Sl w w.heap.size A' n' c' l') :
    Calls Tryd.prog 60 #[spv C A n c, spv C' A' n' c'] w (Says w (.bool (sameS C l C' l'))) := by
  unfold spv
  have HS := Lib.hid hs
  have HS' := Lib.hid hs'
  clear hs hs'
  by_cases hC : C = C'
  · have hq : (C == C') = true := by simp [hC]
    go_enter Tryd.func60, Tryd.ntmps60
    go_wp2_with fail
    refine (equal_any _ (w.heap.size + 2) A A' n c n' c' l l' ?_ ?_).mono ?_
    · exact ((HS.out.onA _).onA _).more (by simp)
    · exact ((HS'.out.onA _).onA _).more (by simp)
    rintro e w' ⟨rfl, rfl⟩
    go_wp2
    go_ret
    exact ⟨by simp [sameS, hC], (below_box w _).alloc (by simp) _⟩
  · have hq : (C == C') = false := by simp [hC]
    go_enter Tryd.func60, Tryd.ntmps60
    go_wp2
    go_ret
    exact ⟨by simp [sameS, hC], (below_box w _).alloc (by simp) _⟩

set_option maxHeartbeats 400000 in
theorem refSpanSame_any (w : World) (C C' : Int) (A A' : Option Addr) (n c n' c' : Nat) (l l' : List UInt8) (hs : Sl w w.heap.size A n c l) (hs' : Sl w w.heap.size A' n' c' l') :
    Calls Tryd.prog 47 #[spv C A n c, spv C' A' n' c'] w (Says w (.bool (sameS C l C' l'))) := by
  unfold spv
  have HS := Lib.hid hs
  have HS' := Lib.hid hs'
  clear hs hs'
  by_cases hC : C = C'
  · have hq : (C == C') = true := by simp [hC]
    go_enter Tryd.func47, Tryd.ntmps47
    go_wp2_with fail
    refine (same_any _ (w.heap.size + 2) A A' n c n' c' l l' ?_ ?_).mono ?_
    · exact ((HS.out.onA _).onA _).more (by simp)
    · exact ((HS'.out.onA _).onA _).more (by simp)
    rintro e w' ⟨rfl, q, rfl⟩
    go_wp2
    go_ret
    exact ⟨by simp [sameS, hC], below_drewN ((below_box w _).alloc (by simp) _) q⟩
  · have hq : (C == C') = false := by simp [hC]
    go_enter Tryd.func47, Tryd.ntmps47
    go_wp2
    go_ret
    exact ⟨by simp [sameS, hC], (below_box w _).alloc (by simp) _⟩
end Go.Proofs.YtlkcnpmgafckoaaDoor
