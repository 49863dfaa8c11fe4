/-
  THE NUMBERS' AND BYTES' WRITING, as plain functions on lists: what 'num' writes 'rd' reads, and what 'rd' reads was written by 'num'.
  No statement is proved here; nothing of a program is named.
-/
import GoSem.Claim
namespace Go.Proofs.Ythhmgbeigeagdaa

/-- 2^64, behind a name. -/
def two64 : Nat := 18446744073709551616

/-- A number's bytes. -/
def num (n : Nat) : List UInt8 := if n < 128 then [UInt8.ofNat n] else UInt8.ofNat (n % 128 + 128) :: num (n / 128)
  termination_by n
  decreasing_by omega

theorem num_lo {n : Nat} (h : n < 128) : num n = [UInt8.ofNat n] := by rw [num, if_pos h]
theorem num_hi {n : Nat} (h : 128 ≤ n) : num n = UInt8.ofNat (n % 128 + 128) :: num (n / 128) := by rw [num, if_neg (by omega)]
theorem num_len (n : Nat) (k : Nat) (h : n < 128 ^ (k + 1)) : (num n).length ≤ k + 1 := by
  induction k generalizing n with
  | zero => rw [num_lo (by simpa using h)]; simp
  | succ k ih =>
    by_cases hn : n < 128
    · rw [num_lo hn]; simp
    · rw [num_hi (by omega), List.length_cons]
      have := ih (n / 128) (by rw [Nat.div_lt_iff_lt_mul (by omega)]; rw [Nat.pow_succ] at h; exact h)
      omega
theorem num_len10 (n : Nat) (h : n < two64) : (num n).length ≤ 10 := num_len n 9 (by unfold two64 at h; omega)
theorem num_pos (n : Nat) : 0 < (num n).length := by
  rw [num]; split <;> simp

/-- Reading: the value, how many bytes, the error (2: the form, 7: too great). -/
def rdGo : Nat → Nat → List UInt8 → Nat × Nat × Nat
  | _, _, [] => (0, 0, 2)
  | i, acc, b :: t =>
    if i = 9 ∧ 1 < b.toNat then (0, 0, 7)
    else if 128 ≤ b.toNat then rdGo (i + 1) (acc + b.toNat % 128 * 128 ^ i) t
    else if b.toNat = 0 ∧ 0 < i then (0, 0, 2)
    else (acc + b.toNat % 128 * 128 ^ i, i + 1, 0)
def rd (l : List UInt8) : Nat × Nat × Nat := rdGo 0 0 l

theorem rdGo_num (n : Nat) : ∀ (i acc : Nat) (t : List UInt8), i ≤ 9 → n * 128 ^ i < two64 → (n = 0 → i = 0) → rdGo i acc (num n ++ t) = (acc + n * 128 ^ i, i + (num n).length, 0) := by
  induction n using Nat.strongRecOn with
  | ind n ih =>
    intro i acc t hi hn h0
    by_cases h : n < 128
    · rw [num_lo h]
      have hb : (UInt8.ofNat n).toNat = n := by simp; omega
      simp only [List.cons_append, List.nil_append, rdGo, hb, List.length_cons, List.length_nil]
      have h9 : ¬ (i = 9 ∧ 1 < n) := by
        rintro ⟨rfl, h1⟩
        unfold two64 at hn
        omega
      rw [if_neg h9, if_neg (by omega), if_neg (by omega), Nat.mod_eq_of_lt h]
    · have h128 : 128 ≤ n := by omega
      rw [num_hi h128]
      have hb : (UInt8.ofNat (n % 128 + 128)).toNat = n % 128 + 128 := by simp; omega
      have hi9 : i < 9 := by
        rcases Nat.lt_or_ge i 9 with h | h
        · exact h
        · have : i = 9 := by omega
          subst this
          unfold two64 at hn
          omega
      simp only [List.cons_append, rdGo, hb, List.length_cons]
      rw [if_neg (by omega), if_pos (by omega)]
      have hpow : 128 ^ (i + 1) = 128 * 128 ^ i := by rw [Nat.pow_succ, Nat.mul_comm]
      have hdm : n * 128 ^ i = (n % 128) * 128 ^ i + (n / 128) * 128 ^ (i + 1) := by
        rw [hpow, ← Nat.mul_assoc, ← Nat.add_mul]
        congr 1
        omega
      rw [ih (n / 128) (by omega) (i + 1) _ t (by omega) (by omega) (by omega)]
      have hm : (n % 128 + 128) % 128 = n % 128 := by omega
      rw [hm, hdm]
      simp only [Prod.mk.injEq, and_true]
      omega

theorem rd_num (n : Nat) (t : List UInt8) (h : n < two64) : rd (num n ++ t) = (n, (num n).length, 0) := by
  have := rdGo_num n 0 0 t (by omega) (by simpa using h) (fun _ => rfl)
  simpa [rd] using this

/-- What is read was written. -/
theorem rdGo_back (l : List UInt8) : ∀ (i acc v s : Nat), i ≤ 9 → rdGo i acc l = (v, s, 0) → ∃ m, v = acc + m * 128 ^ i ∧ i < s ∧ s - i ≤ l.length ∧ l.take (s - i) = num m ∧ (m = 0 → i = 0) := by
  induction l with
  | nil => intro i acc v s _ h; simp [rdGo] at h
  | cons b t ih =>
    intro i acc v s hi h
    have hb := b.toNat_lt
    simp only [rdGo] at h
    split at h
    · simp at h
    · rename_i h9
      split at h
      · rename_i h128
        have hi9 : i < 9 := by
          rcases Nat.lt_or_ge i 9 with h | h
          · exact h
          · exact absurd ⟨by omega, by omega⟩ h9
        obtain ⟨m, hv, hs, hl, ht, h0⟩ := ih (i + 1) _ v s (by omega) h
        have hm : m ≠ 0 := fun e => by have := h0 e; omega
        refine ⟨b.toNat % 128 + 128 * m, ?_, by omega, by simp; omega, ?_, fun e => by omega⟩
        · rw [hv, Nat.pow_succ, Nat.add_mul, Nat.mul_comm 128 m, Nat.mul_assoc m, Nat.mul_comm 128 (128 ^ i)]
          omega
        · have hs' : s - i = (s - (i + 1)) + 1 := by omega
          rw [hs', List.take_succ_cons, ht, num_hi (n := b.toNat % 128 + 128 * m) (by omega)]
          have e1 : (b.toNat % 128 + 128 * m) / 128 = m := by omega
          have e2 : (b.toNat % 128 + 128 * m) % 128 + 128 = b.toNat := by omega
          rw [e1, e2]
          simp
      · rename_i h128
        split at h
        · simp at h
        · rename_i h0
          simp only [Prod.mk.injEq] at h
          obtain ⟨rfl, rfl, _⟩ := h
          refine ⟨b.toNat, ?_, by omega, by simp, ?_, fun e => ?_⟩
          · rw [Nat.mod_eq_of_lt (by omega)]
          · rw [show i + 1 - i = 1 from by omega, num_lo (by omega)]
            simp
          · rcases Nat.eq_zero_or_pos i with h | h
            · exact h
            · exact absurd ⟨e, h⟩ h0

theorem rdGo_bd (l : List UInt8) : ∀ (i acc v s e : Nat), i ≤ 9 → acc < 128 ^ i → rdGo i acc l = (v, s, e) → v < two64 ∧ s ≤ i + l.length ∧ s ≤ 10 ∧ (e ≠ 0 → v = 0 ∧ s = 0) ∧ e < 8 := by
  induction l with
  | nil =>
    intro i acc v s e _ _ h
    simp only [rdGo, Prod.mk.injEq] at h
    obtain ⟨rfl, rfl, rfl⟩ := h
    exact ⟨by unfold two64; omega, by omega, by omega, fun _ => ⟨rfl, rfl⟩, by omega⟩
  | cons b t ih =>
    intro i acc v s e hi ha h
    have hb := b.toNat_lt
    have z : (0 : Nat) < two64 := by unfold two64; omega
    have hstep : acc + b.toNat % 128 * 128 ^ i < 128 ^ (i + 1) := by
      have : b.toNat % 128 ≤ 127 := by omega
      have := Nat.mul_le_mul_right (128 ^ i) this
      rw [Nat.pow_succ]
      omega
    simp only [rdGo] at h
    split at h
    · simp only [Prod.mk.injEq] at h
      obtain ⟨rfl, rfl, rfl⟩ := h
      exact ⟨z, by omega, by omega, fun _ => ⟨rfl, rfl⟩, by omega⟩
    · rename_i h9
      split at h
      · rename_i h128
        have hi9 : i < 9 := by
          rcases Nat.lt_or_ge i 9 with h | h
          · exact h
          · exact absurd ⟨by omega, by omega⟩ h9
        have := ih (i + 1) _ v s e (by omega) hstep h
        exact ⟨this.1, by have := this.2.1; simp; omega, this.2.2⟩
      · split at h
        · simp only [Prod.mk.injEq] at h
          obtain ⟨rfl, rfl, rfl⟩ := h
          exact ⟨z, by omega, by omega, fun _ => ⟨rfl, rfl⟩, by omega⟩
        · simp only [Prod.mk.injEq] at h
          obtain ⟨rfl, rfl, rfl⟩ := h
          refine ⟨?_, by simp, by omega, fun h => absurd rfl h, by omega⟩
          rcases Nat.lt_or_ge i 9 with hi9 | hi9
          · have : 128 ^ (i + 1) ≤ 128 ^ 9 := Nat.pow_le_pow_right (by omega) (by omega)
            unfold two64
            omega
          · have : i = 9 := by omega
            subst this
            have : b.toNat ≤ 1 := by
              rcases Nat.lt_or_ge 1 b.toNat with h1 | h1
              · exact absurd ⟨rfl, h1⟩ h9
              · exact h1
            have h2 : b.toNat % 128 ≤ 1 := by omega
            have := Nat.mul_le_mul_right (128 ^ 9) h2
            unfold two64
            omega

theorem rd_bd {l : List UInt8} {v s e : Nat} (h : rd l = (v, s, e)) : v < two64 ∧ s ≤ l.length ∧ s ≤ 10 ∧ (e ≠ 0 → v = 0 ∧ s = 0) ∧ e < 8 := by
  have := rdGo_bd l 0 0 v s e (by omega) (by simp) h
  simpa using this
theorem rd_back {l : List UInt8} {v s : Nat} (h : rd l = (v, s, 0)) : l.take s = num v := by
  obtain ⟨m, hv, _, _, ht, _⟩ := rdGo_back l 0 0 v s (by omega) h
  simp at hv ht
  rw [hv]; exact ht

/-- What the readers come to: the value, what is left, the error. -/
def stNum (l : List UInt8) (er : Nat) : Nat × List UInt8 × Nat :=
  if er = 0 then (if (rd l).2.2 = 0 then ((rd l).1, l.drop (rd l).2.1, 0) else (0, l, (rd l).2.2)) else (0, l, er)
def judgeN (v : Nat) (most : Int) (left : Nat) : Nat := if most < 0 ∨ most < (v : Int) then 6 else if left < v then 2 else 0
def stBytes (l : List UInt8) (er : Nat) (most : Int) : List UInt8 × List UInt8 × Nat :=
  if er = 0 then
    (if (rd l).2.2 = 0 then
      (if judgeN (rd l).1 most (l.length - (rd l).2.1) = 0 then ((l.drop (rd l).2.1).take (rd l).1, l.drop ((rd l).2.1 + (rd l).1), 0) else ([], l, judgeN (rd l).1 most (l.length - (rd l).2.1)))
    else ([], l, (rd l).2.2))
  else ([], l, er)
def stByte (l : List UInt8) (er : Nat) : Nat × List UInt8 × Nat :=
  if er = 0 then (match l with | [] => (0, [], 2) | b :: t => (b.toNat, t, 0)) else (0, l, er)
/-- The bytes, how many ahead. -/
def byts (b : List UInt8) : List UInt8 := num b.length ++ b

theorem stNum_num (n : Nat) (t : List UInt8) (h : n < two64) : stNum (num n ++ t) 0 = (n, t, 0) := by
  simp [stNum, rd_num n t h]
theorem stBytes_byts (b t : List UInt8) (most : Int) (h : b.length < two64) (hm : (b.length : Int) ≤ most) : stBytes (byts b ++ t) 0 most = (b, t, 0) := by
  have hr := rd_num b.length (b ++ t) h
  have hj : judgeN b.length most (b.length + t.length) = 0 := by
    unfold judgeN
    rw [if_neg (by omega), if_neg (by omega)]
  unfold stBytes byts
  rw [List.append_assoc, hr]
  simp [hj]
theorem stBytes_long (b t : List UInt8) (most : Int) (h : b.length < two64) (hm : most < (b.length : Int)) : stBytes (byts b ++ t) 0 most = ([], byts b ++ t, 6) := by
  have hr := rd_num b.length (b ++ t) h
  have hj : judgeN b.length most (b.length + t.length) = 6 := by
    unfold judgeN
    rw [if_pos (by omega)]
  unfold stBytes byts
  rw [List.append_assoc, hr]
  simp [hj]
end Go.Proofs.Ythhmgbeigeagdaa
