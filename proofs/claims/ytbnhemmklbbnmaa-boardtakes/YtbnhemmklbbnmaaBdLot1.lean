/-
  TEXTS OF EARLIER ROUNDS, laid together: part 1.
  No statement is proved here.
-/

/-! ## PauseMath -/
namespace Go.Proofs.Ytbnhemmklbbnmaa

/-- How long to wait behind t tries; the waits of fewer than t tries together. -/
def wt (f m t : Nat) : Nat := min (f * 2 ^ t) m
def al (f m : Nat) : Nat → Nat
  | 0 => 0
  | t + 1 => al f m t + wt f m t
/-- What may be. -/
structure Pr (f m : Nat) : Prop where
  one : 1 ≤ f
  le : f ≤ m
  most : m ≤ 1099511627776

theorem wt_le (f m t : Nat) : wt f m t ≤ m := Nat.min_le_right _ _
theorem wt_ge {f m : Nat} (h : f ≤ m) (t : Nat) : f ≤ wt f m t := by
  unfold wt
  have : f * 1 ≤ f * 2 ^ t := Nat.mul_le_mul_left _ Nat.one_le_two_pow
  omega
theorem wt_succ (f m t : Nat) : wt f m t ≤ wt f m (t + 1) := by
  unfold wt
  rw [Nat.pow_succ, ← Nat.mul_assoc]
  omega
theorem wt_two (f m t : Nat) : wt f m (t + 1) ≤ 2 * wt f m t := by
  unfold wt
  rw [Nat.pow_succ, ← Nat.mul_assoc]
  omega
theorem wt_more (f m t k : Nat) : wt f m t ≤ wt f m (t + k) := by
  induction k with
  | zero => exact Nat.le_refl _
  | succ k ih => exact Nat.le_trans ih (wt_succ f m (t + k))
theorem wt_mono {f f' m m' : Nat} (h1 : f ≤ f') (h2 : m ≤ m') (t : Nat) : wt f m t ≤ wt f' m' t := by
  unfold wt
  have : f * 2 ^ t ≤ f' * 2 ^ t := Nat.mul_le_mul_right _ h1
  omega
theorem al_mono {f f' m m' : Nat} (h1 : f ≤ f') (h2 : m ≤ m') (t : Nat) : al f m t ≤ al f' m' t := by
  induction t with
  | zero => exact Nat.le_refl _
  | succ t ih => have := wt_mono h1 h2 t; simp only [al]; omega
theorem al_le (f m t : Nat) : al f m t ≤ t * m := by
  induction t with
  | zero => simp [al]
  | succ t ih => have := wt_le f m t; simp only [al]; rw [Nat.succ_mul]; omega
theorem al_ge {f m : Nat} (h : f ≤ m) (t : Nat) : t * f ≤ al f m t := by
  induction t with
  | zero => simp
  | succ t ih => have := wt_ge h t; simp only [al]; rw [Nat.succ_mul]; omega
/-- Once it is the most, it stays: the rest is a product. -/
theorem al_rest {f m i : Nat} (h : wt f m i = m) (k : Nat) : al f m (i + k) = al f m i + k * m := by
  induction k with
  | zero => simp
  | succ k ih =>
    have h1 := wt_more f m i k
    have h2 := wt_le f m (i + k)
    show al f m (i + k) + wt f m (i + k) = _
    rw [ih, Nat.succ_mul]
    omega
/-- So long as it isn't the most, few have passed. -/
theorem few_of_lt {f m i : Nat} (hp : Pr f m) (h : wt f m i ≠ m) : i < 40 := by
  apply Classical.byContradiction
  intro hi
  apply h
  unfold wt
  have h1 : 2 ^ 40 ≤ 2 ^ i := Nat.pow_le_pow_right (by omega) (by omega)
  have h2 : 1 * 2 ^ 40 ≤ f * 2 ^ i := Nat.mul_le_mul hp.one h1
  have := hp.most
  omega
/-- The code's test. -/
theorem shr_test {f m t : Nat} : m / 2 ^ t < f ↔ m < f * 2 ^ t := Nat.div_lt_iff_lt_mul (Nat.two_pow_pos t)
theorem wt_big {f m t : Nat} (h : m / 2 ^ t < f) : wt f m t = m := by
  have := shr_test.1 h
  unfold wt; omega
theorem wt_small {f m t : Nat} (h : ¬ m / 2 ^ t < f) : wt f m t = f * 2 ^ t := by
  have := mt shr_test.2 h
  unfold wt; omega
end Go.Proofs.Ytbnhemmklbbnmaa
