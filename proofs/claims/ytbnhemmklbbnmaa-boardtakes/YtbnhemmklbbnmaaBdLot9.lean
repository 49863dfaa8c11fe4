/-
  TEXTS OF EARLIER ROUNDS, laid together: part 9.
  No statement is proved here.
-/
import Derived.Test.YtbnhemmklbbnmaaRows
import Derived.Test.YtbnhemmklbbnmaaBdLot5
import Derived.Test.YtbnhemmklbbnmaaBdLot1
import Derived.Deep.QuietTactic
import Derived.BigQuiet
import Derived.Deep.LoopGhost
import Derived.WalkSpells

/-! ## PauseOne -/
namespace Go.Proofs.Ytbnhemmklbbnmaa
open Go.RowKit

/-- Params as a value; an answer, and nothing that was there has turned. -/
abbrev prv (f m : Int) : Value := .agg #[.int .i64 f, .int .i64 m]
def Ans (w : World) (v : Value) (e : Ending) (w' : World) : Prop := e = .returned v ∧ Below w.heap.size w w'

def rightI (f m : Int) : Bool := decide (1 ≤ f) && decide (f ≤ m) && decide (m ≤ 1099511627776)

set_option maxRecDepth 100000 in
set_option maxHeartbeats 400000 in
theorem right_any (w : World) (f m : Int) : Calls Try.prog 31 #[prv f m] w (Ans w (.bool (rightI f m))) := by
  unfold prv
  go_enter Try.func31, Try.ntmps31
  by_cases h1 : (1 : Int) ≤ f
  · by_cases h2 : f ≤ m
    · go_wp2
      go_ret
      refine ⟨?_, (Below.refl _ _).alloc (Nat.le_refl _) _⟩
      simp [rightI, h1, h2]
    · go_wp2
      go_ret
      refine ⟨?_, (Below.refl _ _).alloc (Nat.le_refl _) _⟩
      simp [rightI, h1]
      omega
  · go_wp2
    go_ret
    refine ⟨?_, (Below.refl _ _).alloc (Nat.le_refl _) _⟩
    simp [rightI]
    omega
theorem rightI_yes {f m : Nat} (h : Pr f m) : rightI f m = true := by
  have h1 := h.one
  have h2 := h.le
  have h3 := h.most
  unfold rightI
  simp
  omega
theorem shr64 {m : Nat} (h : m ≤ 1099511627776) (t : Nat) : m / 2 ^ min t 64 = m / 2 ^ t := by
  by_cases ht : t ≤ 64
  · rw [Nat.min_eq_left ht]
  · rw [Nat.min_eq_right (by omega)]
    have h1 : (2:Nat) ^ 64 ≤ 2 ^ t := Nat.pow_le_pow_right (by omega) (by omega)
    rw [Nat.div_eq_of_lt (by omega), Nat.div_eq_of_lt (by omega)]
theorem shrI {m : Nat} (h : m ≤ 1099511627776) (t : Nat) : (m : Int) / 2 ^ min t 64 = ((m / 2 ^ t : Nat) : Int) := by
  rw [← shr64 h t]
  simp
theorem shlI {f m t : Nat} (hp : Pr f m) (h : ¬ m / 2 ^ t < f) : wrap64 ((f : Int) * 2 ^ min t 64) = ((f * 2 ^ t : Nat) : Int) := by
  have h1 : f * 2 ^ t ≤ m := by have := mt shr_test.2 h; omega
  have h2 := hp.most
  have h3 : t < 41 := by
    apply Classical.byContradiction
    intro h4
    have h5 : (2:Nat) ^ 41 ≤ 2 ^ t := Nat.pow_le_pow_right (by omega) (by omega)
    have h6 : 1 * 2 ^ 41 ≤ f * 2 ^ t := Nat.mul_le_mul hp.one h5
    omega
  rw [Nat.min_eq_left (by omega)]
  have h7 : (f : Int) * 2 ^ t = ((f * 2 ^ t : Nat) : Int) := by simp
  rw [h7]
  unfold wrap64
  omega
set_option maxRecDepth 100000 in
set_option maxHeartbeats 400000 in
theorem wait_nat (w : World) (f m : Nat) (t : Nat) (hp : Pr f m) (ht : t ≤ 9223372036854775807) :
    Calls Try.prog 23 #[prv f m, .int .i64 t] w (Ans w (.int .i64 (wt f m t : Nat))) := by
  have hs := shrI hp.most t
  unfold prv
  go_enter Try.func23, Try.ntmps23
  go_wp2_with fail
  refine (right_any _ f m).mono ?_
  rintro e w1 ⟨rfl, hb1⟩
  rw [rightI_yes hp]
  have hc0 : w1.cell? ⟨w.heap.size, 0, none⟩ = some (.int .i64 f) := (hb1.cell (p := ⟨w.heap.size, 0, none⟩) (by simp)).trans (by simp)
  have hc1 : w1.cell? ⟨w.heap.size, 1, none⟩ = some (.int .i64 m) := (hb1.cell (p := ⟨w.heap.size, 1, none⟩) (by simp)).trans (by simp)
  have hb : Below w.heap.size w w1 := ((Below.refl _ _).alloc (Nat.le_refl _) _).trans (hb1.mono (by simp))
  clear hb1
  by_cases hd : m / 2 ^ t < f
  · have hdI : ((m / 2 ^ t : Nat) : Int) < (f : Int) := by omega
    rw [← hs] at hdI
    have HD := Lib.hid hd
    clear hs hd
    go_wp2_with fail
    go_quiet (fail)
    go_wp2_with fail
    go_ret
    refine ⟨?_, below_drewN hb _⟩
    rw [wt_big HD.out]
    rfl
  · have hdI : ¬ ((m / 2 ^ t : Nat) : Int) < (f : Int) := by omega
    rw [← hs] at hdI
    have HD := Lib.hid hd
    clear hs hd
    go_wp2_with fail
    go_quiet (fail)
    go_wp2_with fail
    go_ret
    refine ⟨?_, below_drewN hb _⟩
    rw [wt_small HD.out, ← shlI hp HD.out]
    rfl
theorem wait_any (w : World) (f m : Nat) (t : Int) (hp : Pr f m) (ht : -9223372036854775808 ≤ t ∧ t ≤ 9223372036854775807) :
    Calls Try.prog 23 #[prv f m, .int .i64 t] w (Ans w (.int .i64 (wt f m t.toNat : Nat))) := by
  by_cases h0 : 0 ≤ t
  · obtain ⟨k, rfl⟩ := Int.eq_ofNat_of_zero_le h0
    exact wait_nat w f m k hp (by omega)
  · have hz : t.toNat = 0 := by omega
    rw [hz]
    have hw : wt f m 0 = f := by unfold wt; have := hp.le; simp; omega
    have hle : (f : Int) ≤ m := by have := hp.le; omega
    rw [hw]
    unfold prv
    go_enter Try.func23, Try.ntmps23
    go_wp2_with fail
    refine (right_any _ f m).mono ?_
    rintro e w1 ⟨rfl, hb1⟩
    rw [rightI_yes hp]
    have hc0 : w1.cell? ⟨w.heap.size, 0, none⟩ = some (.int .i64 f) := (hb1.cell (p := ⟨w.heap.size, 0, none⟩) (by simp)).trans (by simp)
    have hc1 : w1.cell? ⟨w.heap.size, 1, none⟩ = some (.int .i64 m) := (hb1.cell (p := ⟨w.heap.size, 1, none⟩) (by simp)).trans (by simp)
    have hb : Below w.heap.size w w1 := ((Below.refl _ _).alloc (Nat.le_refl _) _).trans (hb1.mono (by simp))
    have h64 : wrap64 (f : Int) = (f : Int) := by unfold wrap64; have := hp.le; have := hp.most; omega
    have HH := Lib.hid (And.intro h64 hp)
    clear hb1 hp hz hw h64
    go_wp2_with fail
    go_quiet (fail)
    go_wp2_with fail
    go_ret
    refine ⟨?_, below_drewN hb _⟩
    show Ending.returned (.int .i64 (wrap64 f)) = _
    rw [HH.out.1]
end Go.Proofs.Ytbnhemmklbbnmaa

/-! ## PauseAll -/
namespace Go.Proofs.Ytbnhemmklbbnmaa
open Go.RowKit

/-- The cells of the params, and nothing turned. -/
structure Box (w : World) (g f m : Nat) : Prop where
  a : w.cell? ⟨g, 0, none⟩ = some (.int .i64 f)
  b : w.cell? ⟨g, 1, none⟩ = some (.int .i64 m)
  lt : g < w.heap.size
theorem Box.kept {w w' : World} {g f m B : Nat} (h : Box w g f m) (hb : Below B w w') (hB : g < B) : Box w' g f m :=
  ⟨(hb.cell (p := ⟨g, 0, none⟩) hB).trans h.a, (hb.cell (p := ⟨g, 1, none⟩) hB).trans h.b, Nat.lt_of_lt_of_le h.lt hb.size⟩
theorem Box.ans {w w' : World} {g f m : Nat} (h : Box w g f m) (hb : Below w.heap.size w w') : Box w' g f m := h.kept hb h.lt
theorem Box.new (w : World) (f m : Nat) (t : TypeId) : Box (w.alloc (.cells #[.int .i64 f, .int .i64 m] t)) w.heap.size f m := ⟨by simp, by simp, by simp⟩

def AllRel (w : World) (f m t k : Nat) (a i : Value) (wr : World) : Prop :=
  ∃ j, k + j = t ∧ j ≤ 40 ∧ i = .int .i64 (j : Nat) ∧ a = .int .i64 (al f m j : Nat) ∧ Box wr w.heap.size f m ∧ Below w.heap.size w wr

end Go.Proofs.Ytbnhemmklbbnmaa
