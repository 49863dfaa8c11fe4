/-
  TEXTS OF EARLIER ROUNDS, laid together: part 3.
  No statement is proved here.
-/
import GoSem.Claim

/-! ## PackMath -/
namespace Go.Proofs.Ytbnhemmklbbnmaa

/-- 2^64, behind a name. -/
def two64 : Nat := 18446744073709551616

/-- A number's bytes. -/
def num (n : Nat) : List UInt8 := if n < 128 then [UInt8.ofNat n] else UInt8.ofNat (n % 128 + 128) :: num (n / 128)
  termination_by n
  decreasing_by omega

theorem num_lo {n : Nat} (h : n < 128) : num n = [UInt8.ofNat n] := by rw [num, if_pos h]
theorem num_hi {n : Nat} (h : 128 ≤ n) : num n = UInt8.ofNat (n % 128 + 128) :: num (n / 128) := by rw [num, if_neg (by omega)]
theorem num_len (n : Nat) (k : Nat) (h : n < 128 ^ (k + 1)) : (num n).length ≤ k + 1 := by
  induction k generalizing n with
  | zero => rw [num_lo (by simpa using h)]; simp
  | succ k ih =>
    by_cases hn : n < 128
    · rw [num_lo hn]; simp
    · rw [num_hi (by omega), List.length_cons]
      have := ih (n / 128) (by rw [Nat.div_lt_iff_lt_mul (by omega)]; rw [Nat.pow_succ] at h; exact h)
      omega
theorem num_len10 (n : Nat) (h : n < two64) : (num n).length ≤ 10 := num_len n 9 (by unfold two64 at h; omega)
theorem num_pos (n : Nat) : 0 < (num n).length := by
  rw [num]; split <;> simp

/-- Reading: the value, how many bytes, the error (2: the form, 7: too great). -/
def rdGo : Nat → Nat → List UInt8 → Nat × Nat × Nat
  | _, _, [] => (0, 0, 2)
  | i, acc, b :: t =>
    if i = 9 ∧ 1 < b.toNat then (0, 0, 7)
    else if 128 ≤ b.toNat then rdGo (i + 1) (acc + b.toNat % 128 * 128 ^ i) t
    else if b.toNat = 0 ∧ 0 < i then (0, 0, 2)
    else (acc + b.toNat % 128 * 128 ^ i, i + 1, 0)
def rd (l : List UInt8) : Nat × Nat × Nat := rdGo 0 0 l

theorem rdGo_num (n : Nat) : ∀ (i acc : Nat) (t : List UInt8), i ≤ 9 → n * 128 ^ i < two64 → (n = 0 → i = 0) → rdGo i acc (num n ++ t) = (acc + n * 128 ^ i, i + (num n).length, 0) := by
  induction n using Nat.strongRecOn with
  | ind n ih =>
    intro i acc t hi hn h0
    by_cases h : n < 128
    · rw [num_lo h]
      have hb : (UInt8.ofNat n).toNat = n := by simp; omega
      simp only [List.cons_append, List.nil_append, rdGo, hb, List.length_cons, List.length_nil]
      have h9 : ¬ (i = 9 ∧ 1 < n) := by
        rintro ⟨rfl, h1⟩
        unfold two64 at hn
        omega
      rw [if_neg h9, if_neg (by omega), if_neg (by omega), Nat.mod_eq_of_lt h]
    · have h128 : 128 ≤ n := by omega
      rw [num_hi h128]
      have hb : (UInt8.ofNat (n % 128 + 128)).toNat = n % 128 + 128 := by simp; omega
      have hi9 : i < 9 := by
        rcases Nat.lt_or_ge i 9 with h | h
        · exact h
        · have : i = 9 := by omega
          subst this
          unfold two64 at hn
          omega
      simp only [List.cons_append, rdGo, hb, List.length_cons]
      rw [if_neg (by omega), if_pos (by omega)]
      have hpow : 128 ^ (i + 1) = 128 * 128 ^ i := by rw [Nat.pow_succ, Nat.mul_comm]
      have hdm : n * 128 ^ i = (n % 128) * 128 ^ i + (n / 128) * 128 ^ (i + 1) := by
        rw [hpow, ← Nat.mul_assoc, ← Nat.add_mul]
        congr 1
        omega
      rw [ih (n / 128) (by omega) (i + 1) _ t (by omega) (by omega) (by omega)]
      have hm : (n % 128 + 128) % 128 = n % 128 := by omega
      rw [hm, hdm]
      simp only [Prod.mk.injEq, and_true]
      omega

theorem rd_num (n : Nat) (t : List UInt8) (h : n < two64) : rd (num n ++ t) = (n, (num n).length, 0) := by
  have := rdGo_num n 0 0 t (by omega) (by simpa using h) (fun _ => rfl)
  simpa [rd] using this

/-- What is read was written. -/
theorem rdGo_back (l : List UInt8) : ∀ (i acc v s : Nat), i ≤ 9 → rdGo i acc l = (v, s, 0) → ∃ m, v = acc + m * 128 ^ i ∧ i < s ∧ s - i ≤ l.length ∧ l.take (s - i) = num m ∧ (m = 0 → i = 0) := by
  induction l with
  | nil => intro i acc v s _ h; simp [rdGo] at h
  | cons b t ih =>
    intro i acc v s hi h
    have hb := b.toNat_lt
    simp only [rdGo] at h
    split at h
    · simp at h
    · rename_i h9
      split at h
      · rename_i h128
        have hi9 : i < 9 := by
          rcases Nat.lt_or_ge i 9 with h | h
          · exact h
          · exact absurd ⟨by omega, by omega⟩ h9
        obtain ⟨m, hv, hs, hl, ht, h0⟩ := ih (i + 1) _ v s (by omega) h
        have hm : m ≠ 0 := fun e => by have := h0 e; omega
        refine ⟨b.toNat % 128 + 128 * m, ?_, by omega, by simp; omega, ?_, fun e => by omega⟩
        · rw [hv, Nat.pow_succ, Nat.add_mul, Nat.mul_comm 128 m, Nat.mul_assoc m, Nat.mul_comm 128 (128 ^ i)]
          omega
        · have hs' : s - i = (s - (i + 1)) + 1 := by omega
          rw [hs', List.take_succ_cons, ht, num_hi (n := b.toNat % 128 + 128 * m) (by omega)]
          have e1 : (b.toNat % 128 + 128 * m) / 128 = m := by omega
          have e2 : (b.toNat % 128 + 128 * m) % 128 + 128 = b.toNat := by omega
          rw [e1, e2]
          simp
      · rename_i h128
        split at h
        · simp at h
        · rename_i h0
          simp only [Prod.mk.injEq] at h
          obtain ⟨rfl, rfl, _⟩ := h
          refine ⟨b.toNat, ?_, by omega, by simp, ?_, fun e => ?_⟩
          · rw [Nat.mod_eq_of_lt (by omega)]
          · rw [show i + 1 - i = 1 from by omega, num_lo (by omega)]
            simp
          · rcases Nat.eq_zero_or_pos i with h | h
            · exact h
            · exact absurd ⟨e, h⟩ h0

theorem rdGo_bd (l : List UInt8) : ∀ (i acc v s e : Nat), i ≤ 9 → acc < 128 ^ i → rdGo i acc l = (v, s, e) → v < two64 ∧ s ≤ i + l.length ∧ s ≤ 10 ∧ (e ≠ 0 → v = 0 ∧ s = 0) ∧ e < 8 := by
  induction l with
  | nil =>
    intro i acc v s e _ _ h
    simp only [rdGo, Prod.mk.injEq] at h
    obtain ⟨rfl, rfl, rfl⟩ := h
    exact ⟨by unfold two64; omega, by omega, by omega, fun _ => ⟨rfl, rfl⟩, by omega⟩
  | cons b t ih =>
    intro i acc v s e hi ha h
    have hb := b.toNat_lt
    have z : (0 : Nat) < two64 := by unfold two64; omega
    have hstep : acc + b.toNat % 128 * 128 ^ i < 128 ^ (i + 1) := by
      have : b.toNat % 128 ≤ 127 := by omega
      have := Nat.mul_le_mul_right (128 ^ i) this
      rw [Nat.pow_succ]
      omega
    simp only [rdGo] at h
    split at h
    · simp only [Prod.mk.injEq] at h
      obtain ⟨rfl, rfl, rfl⟩ := h
      exact ⟨z, by omega, by omega, fun _ => ⟨rfl, rfl⟩, by omega⟩
    · rename_i h9
      split at h
      · rename_i h128
        have hi9 : i < 9 := by
          rcases Nat.lt_or_ge i 9 with h | h
          · exact h
          · exact absurd ⟨by omega, by omega⟩ h9
        have := ih (i + 1) _ v s e (by omega) hstep h
        exact ⟨this.1, by have := this.2.1; simp; omega, this.2.2⟩
      · split at h
        · simp only [Prod.mk.injEq] at h
          obtain ⟨rfl, rfl, rfl⟩ := h
          exact ⟨z, by omega, by omega, fun _ => ⟨rfl, rfl⟩, by omega⟩
        · simp only [Prod.mk.injEq] at h
          obtain ⟨rfl, rfl, rfl⟩ := h
          refine ⟨?_, by simp, by omega, fun h => absurd rfl h, by omega⟩
          rcases Nat.lt_or_ge i 9 with hi9 | hi9
          · have : 128 ^ (i + 1) ≤ 128 ^ 9 := Nat.pow_le_pow_right (by omega) (by omega)
            unfold two64
            omega
          · have : i = 9 := by omega
            subst this
            have : b.toNat ≤ 1 := by
              rcases Nat.lt_or_ge 1 b.toNat with h1 | h1
              · exact absurd ⟨rfl, h1⟩ h9
              · exact h1
            have h2 : b.toNat % 128 ≤ 1 := by omega
            have := Nat.mul_le_mul_right (128 ^ 9) h2
            unfold two64
            omega

theorem rd_bd {l : List UInt8} {v s e : Nat} (h : rd l = (v, s, e)) : v < two64 ∧ s ≤ l.length ∧ s ≤ 10 ∧ (e ≠ 0 → v = 0 ∧ s = 0) ∧ e < 8 := by
  have := rdGo_bd l 0 0 v s e (by omega) (by simp) h
  simpa using this
theorem rd_back {l : List UInt8} {v s : Nat} (h : rd l = (v, s, 0)) : l.take s = num v := by
  obtain ⟨m, hv, _, _, ht, _⟩ := rdGo_back l 0 0 v s (by omega) h
  simp at hv ht
  rw [hv]; exact ht

/-- What the readers come to: the value, what is left, the error. -/
def stNum (l : List UInt8) (er : Nat) : Nat × List UInt8 × Nat :=
  if er = 0 then (if (rd l).2.2 = 0 then ((rd l).1, l.drop (rd l).2.1, 0) else (0, l, (rd l).2.2)) else (0, l, er)
def judgeN (v : Nat) (most : Int) (left : Nat) : Nat := if most < 0 ∨ most < (v : Int) then 6 else if left < v then 2 else 0
def stBytes (l : List UInt8) (er : Nat) (most : Int) : List UInt8 × List UInt8 × Nat :=
  if er = 0 then
    (if (rd l).2.2 = 0 then
      (if judgeN (rd l).1 most (l.length - (rd l).2.1) = 0 then ((l.drop (rd l).2.1).take (rd l).1, l.drop ((rd l).2.1 + (rd l).1), 0) else ([], l, judgeN (rd l).1 most (l.length - (rd l).2.1)))
    else ([], l, (rd l).2.2))
  else ([], l, er)
def stByte (l : List UInt8) (er : Nat) : Nat × List UInt8 × Nat :=
  if er = 0 then (match l with | [] => (0, [], 2) | b :: t => (b.toNat, t, 0)) else (0, l, er)
/-- The bytes, how many ahead. -/
def byts (b : List UInt8) : List UInt8 := num b.length ++ b

theorem stNum_num (n : Nat) (t : List UInt8) (h : n < two64) : stNum (num n ++ t) 0 = (n, t, 0) := by
  simp [stNum, rd_num n t h]
theorem stBytes_byts (b t : List UInt8) (most : Int) (h : b.length < two64) (hm : (b.length : Int) ≤ most) : stBytes (byts b ++ t) 0 most = (b, t, 0) := by
  have hr := rd_num b.length (b ++ t) h
  have hj : judgeN b.length most (b.length + t.length) = 0 := by
    unfold judgeN
    rw [if_neg (by omega), if_neg (by omega)]
  unfold stBytes byts
  rw [List.append_assoc, hr]
  simp [hj]
theorem stBytes_long (b t : List UInt8) (most : Int) (h : b.length < two64) (hm : most < (b.length : Int)) : stBytes (byts b ++ t) 0 most = ([], byts b ++ t, 6) := by
  have hr := rd_num b.length (b ++ t) h
  have hj : judgeN b.length most (b.length + t.length) = 6 := by
    unfold judgeN
    rw [if_pos (by omega)]
  unfold stBytes byts
  rw [List.append_assoc, hr]
  simp [hj]
end Go.Proofs.Ytbnhemmklbbnmaa

/-! ## RunsMath -/
namespace Go.Proofs.Ytbnhemmklbbnmaa

abbrev Rn := Nat × Nat
def memR (L : List Rn) (x : Nat) : Prop := ∃ r ∈ L, r.1 ≤ x ∧ x ≤ r.2
structure Canon (L : List Rn) : Prop where
  far : L.Pairwise fun a b => a.2 + 1 < b.1
  ok : ∀ r ∈ L, r.1 ≤ r.2

theorem memR_nil (x : Nat) : ¬ memR [] x := fun ⟨_, h, _⟩ => by cases h
theorem memR_cons {a : Rn} {L : List Rn} {x : Nat} : memR (a :: L) x ↔ (a.1 ≤ x ∧ x ≤ a.2) ∨ memR L x := by
  constructor
  · rintro ⟨r, hr, h⟩
    rcases List.mem_cons.1 hr with rfl | hr
    · exact .inl h
    · exact .inr ⟨r, hr, h⟩
  · rintro (h | ⟨r, hr, h⟩)
    · exact ⟨a, List.mem_cons_self, h⟩
    · exact ⟨r, List.mem_cons_of_mem _ hr, h⟩
theorem memR_app {L M : List Rn} {x : Nat} : memR (L ++ M) x ↔ memR L x ∨ memR M x := by
  induction L with
  | nil => simp [memR_nil]
  | cons a L ih => rw [List.cons_append, memR_cons, memR_cons, ih, or_assoc]
theorem memR_one {a : Rn} {x : Nat} : memR [a] x ↔ a.1 ≤ x ∧ x ≤ a.2 := by rw [memR_cons]; simp [memR_nil]

theorem Canon.nil : Canon [] := ⟨List.Pairwise.nil, fun r hr => by cases hr⟩
theorem Canon.one {a : Rn} (h : a.1 ≤ a.2) : Canon [a] := ⟨List.pairwise_singleton _ _, fun r hr => by rw [List.mem_singleton] at hr; subst hr; exact h⟩
theorem Canon.tail {a : Rn} {L : List Rn} (h : Canon (a :: L)) : Canon L := ⟨(List.pairwise_cons.1 h.far).2, fun r hr => h.ok r (List.mem_cons_of_mem _ hr)⟩
theorem Canon.above {a : Rn} {L : List Rn} (h : Canon (a :: L)) {x : Nat} (hx : memR L x) : a.2 + 1 < x := by
  obtain ⟨r, hr, h1, _⟩ := hx
  have := (List.pairwise_cons.1 h.far).1 r hr
  omega
theorem Canon.least {a : Rn} {L : List Rn} (h : Canon (a :: L)) {x : Nat} (hx : memR (a :: L) x) : a.1 ≤ x := by
  rcases memR_cons.1 hx with h1 | h1
  · exact h1.1
  · have := h.above h1
    have := h.ok a List.mem_cons_self
    omega
theorem Canon.head {a : Rn} {L : List Rn} (h : Canon (a :: L)) : memR (a :: L) a.1 := memR_cons.2 (.inl ⟨Nat.le_refl _, h.ok a List.mem_cons_self⟩)
theorem Canon.tail_iff {a : Rn} {L : List Rn} (h : Canon (a :: L)) {x : Nat} : memR L x ↔ memR (a :: L) x ∧ a.2 < x := by
  constructor
  · intro hx
    exact ⟨memR_cons.2 (.inr hx), by have := h.above hx; omega⟩
  · rintro ⟨hx, h2⟩
    rcases memR_cons.1 hx with h1 | h1
    · omega
    · exact h1

/-- LISTS OF RUNS ARE TOLD APART BY WHAT IS IN THEM. -/
theorem canon_ext : ∀ (L M : List Rn), Canon L → Canon M → (∀ x, memR L x ↔ memR M x) → L = M
  | [], [], _, _, _ => rfl
  | [], b :: M, _, hM, h => absurd ((h b.1).2 hM.head) (memR_nil _)
  | a :: L, [], hL, _, h => absurd ((h a.1).1 hL.head) (memR_nil _)
  | a :: L, b :: M, hL, hM, h => by
    have h1 : a.1 = b.1 := Nat.le_antisymm (hL.least ((h b.1).2 hM.head)) (hM.least ((h a.1).1 hL.head))
    have ha := hL.ok a List.mem_cons_self
    have hb := hM.ok b List.mem_cons_self
    have h2 : a.2 = b.2 := by
      rcases Nat.lt_trichotomy a.2 b.2 with hlt | heq | hgt
      · have hm : memR (a :: L) (a.2 + 1) := (h _).2 (memR_cons.2 (.inl ⟨by omega, by omega⟩))
        rcases memR_cons.1 hm with hq | hq
        · omega
        · have := hL.above hq; omega
      · exact heq
      · have hm : memR (b :: M) (b.2 + 1) := (h _).1 (memR_cons.2 (.inl ⟨by omega, by omega⟩))
        rcases memR_cons.1 hm with hq | hq
        · omega
        · have := hM.above hq; omega
    have hab : a = b := Prod.ext h1 h2
    subst hab
    rw [canon_ext L M hL.tail hM.tail (fun x => by rw [hL.tail_iff, hM.tail_iff, h])]

/-! ### join -/
def apartB (a b : Rn) : Bool := decide (a.2 + 1 < b.1)
def joinL (L : List Rn) (r : Rn) : List Rn :=
  match L.getLast? with
  | none => [r]
  | some l => if l.2 + 1 < r.1 then L ++ [r] else L.dropLast ++ [(l.1, max l.2 r.2)]
theorem joinL_nil (r : Rn) : joinL [] r = [r] := rfl
theorem joinL_far {L : List Rn} {l r : Rn} (h : l.2 + 1 < r.1) : joinL (L ++ [l]) r = L ++ [l] ++ [r] := by simp [joinL, h]
theorem joinL_near {L : List Rn} {l r : Rn} (h : ¬ l.2 + 1 < r.1) : joinL (L ++ [l]) r = L ++ [(l.1, max l.2 r.2)] := by simp [joinL, h]
theorem canon_snoc {L : List Rn} {r : Rn} (h : Canon L) (hr : r.1 ≤ r.2) (hf : ∀ l ∈ L, l.2 + 1 < r.1) : Canon (L ++ [r]) :=
  ⟨List.pairwise_append.2 ⟨h.far, List.pairwise_singleton _ _, fun a ha b hb => by rw [List.mem_singleton] at hb; subst hb; exact hf a ha⟩, fun q hq => by
    rcases List.mem_append.1 hq with hq | hq
    · exact h.ok q hq
    · rw [List.mem_singleton] at hq; subst hq; exact hr⟩
theorem canon_init {L : List Rn} {r : Rn} (h : Canon (L ++ [r])) : Canon L ∧ (∀ l ∈ L, l.2 + 1 < r.1) ∧ r.1 ≤ r.2 := by
  obtain ⟨h1, _, h3⟩ := List.pairwise_append.1 h.far
  exact ⟨⟨h1, fun q hq => h.ok q (List.mem_append_left _ hq)⟩, fun l hl => h3 l hl r (List.mem_singleton.2 rfl), h.ok r (List.mem_append_right _ (List.mem_singleton.2 rfl))⟩
theorem joinL_spec {L : List Rn} {r : Rn} (h : Canon L) (hr : r.1 ≤ r.2) (ho : ∀ l ∈ L, l.1 ≤ r.1) :
    Canon (joinL L r) ∧ (∀ x, memR (joinL L r) x ↔ memR L x ∨ (r.1 ≤ x ∧ x ≤ r.2)) ∧ (∀ l ∈ joinL L r, l.1 ≤ r.1) := by
  rcases List.eq_nil_or_concat L with rfl | ⟨M, l, rfl⟩
  · rw [joinL_nil]
    exact ⟨Canon.one hr, fun x => by rw [memR_one]; simp [memR_nil], fun l hl => by rw [List.mem_singleton] at hl; subst hl; exact Nat.le_refl _⟩
  · rw [List.concat_eq_append] at h ho ⊢
    obtain ⟨hM, hf, hl⟩ := canon_init h
    have hlo := ho l (List.mem_append_right _ (List.mem_singleton.2 rfl))
    by_cases hc : l.2 + 1 < r.1
    · rw [joinL_far hc]
      refine ⟨canon_snoc h hr fun q hq => ?_, fun x => by rw [memR_app, memR_one], fun q hq => ?_⟩
      · rcases List.mem_append.1 hq with hq | hq
        · have := hf q hq; omega
        · rw [List.mem_singleton] at hq; subst hq; exact hc
      · rcases List.mem_append.1 hq with hq | hq
        · exact ho q hq
        · rw [List.mem_singleton] at hq; subst hq; exact Nat.le_refl _
    · rw [joinL_near hc]
      refine ⟨canon_snoc hM (by show l.1 ≤ max l.2 r.2; omega) hf, fun x => ?_, fun q hq => ?_⟩
      · rw [memR_app, memR_app, memR_one, memR_one]
        constructor
        · rintro (h1 | ⟨h1, h2⟩)
          · exact .inl (.inl h1)
          · simp only at h1 h2
            by_cases h3 : x ≤ l.2
            · exact .inl (.inr ⟨h1, h3⟩)
            · exact .inr ⟨by omega, by omega⟩
        · rintro ((h1 | h1) | h1)
          · exact .inl h1
          · exact .inr ⟨h1.1, by show x ≤ max l.2 r.2; omega⟩
          · exact .inr ⟨by show l.1 ≤ x; omega, by show x ≤ max l.2 r.2; omega⟩
      · rcases List.mem_append.1 hq with hq | hq
        · exact ho q (List.mem_append_left _ hq)
        · rw [List.mem_singleton] at hq; subst hq; exact hlo
theorem joinL_len (L : List Rn) (r : Rn) : (joinL L r).length ≤ L.length + 1 ∧ 0 < (joinL L r).length := by
  rcases List.eq_nil_or_concat L with rfl | ⟨M, l, rfl⟩
  · simp [joinL_nil]
  · rw [List.concat_eq_append]
    by_cases hc : l.2 + 1 < r.1
    · rw [joinL_far hc]; simp
    · rw [joinL_near hc]; simp
theorem joinL_lt {L : List Rn} {r : Rn} (h : ∀ q ∈ L, q.1 < two64 ∧ q.2 < two64) (hr : r.1 < two64 ∧ r.2 < two64) : ∀ q ∈ joinL L r, q.1 < two64 ∧ q.2 < two64 := by
  rcases List.eq_nil_or_concat L with rfl | ⟨M, l, rfl⟩
  · rw [joinL_nil]; intro q hq; rw [List.mem_singleton] at hq; subst hq; exact hr
  · rw [List.concat_eq_append] at h ⊢
    have hl := h l (List.mem_append_right _ (List.mem_singleton.2 rfl))
    by_cases hc : l.2 + 1 < r.1
    · rw [joinL_far hc]
      intro q hq
      rcases List.mem_append.1 hq with hq | hq
      · exact h q hq
      · rw [List.mem_singleton] at hq; subst hq; exact hr
    · rw [joinL_near hc]
      intro q hq
      rcases List.mem_append.1 hq with hq | hq
      · exact h q (List.mem_append_left _ hq)
      · rw [List.mem_singleton] at hq; subst hq
        exact ⟨hl.1, by show max l.2 r.2 < two64; omega⟩

/-! ### union -/
def unionGo (acc : List Rn) : List Rn → List Rn → List Rn
  | [], [] => acc
  | [], y :: b => unionGo (joinL acc y) b []
  | x :: a, [] => unionGo (joinL acc x) a []
  | x :: a, y :: b => if y.1 < x.1 then unionGo (joinL acc y) b (x :: a) else unionGo (joinL acc x) a (y :: b)
termination_by a b => a.length + b.length
def unionL (a b : List Rn) : List Rn := unionGo [] a b
theorem Canon.first_le {a : Rn} {L : List Rn} (h : Canon (a :: L)) : ∀ r ∈ L, a.1 ≤ r.1 := fun r hr => by
  have := (List.pairwise_cons.1 h.far).1 r hr
  have := h.ok a List.mem_cons_self
  omega
theorem unionGo_spec : ∀ (a b acc : List Rn), Canon acc → Canon a → Canon b → (∀ l ∈ acc, ∀ r ∈ a, l.1 ≤ r.1) → (∀ l ∈ acc, ∀ r ∈ b, l.1 ≤ r.1) →
    Canon (unionGo acc a b) ∧ (∀ x, memR (unionGo acc a b) x ↔ memR acc x ∨ memR a x ∨ memR b x) ∧ (unionGo acc a b).length ≤ acc.length + (a.length + b.length)
  | [], [], acc, hc, _, _, _, _ => by
    unfold unionGo
    exact ⟨hc, fun x => by simp [memR_nil], by simp⟩
  | [], y :: b, acc, hc, _, hb, _, hob => by
    obtain ⟨h1, h2, h3⟩ := joinL_spec hc (hb.ok y List.mem_cons_self) (fun l hl => hob l hl y List.mem_cons_self)
    obtain ⟨k1, k2, k3⟩ := unionGo_spec b [] (joinL acc y) h1 hb.tail Canon.nil (fun l hl r hr => Nat.le_trans (h3 l hl) (hb.first_le r hr)) (fun l _ r hr => by cases hr)
    rw [unionGo]
    refine ⟨k1, fun x => ?_, ?_⟩
    · rw [k2, h2, memR_cons]
      simp only [memR_nil, or_false, false_or]
      rw [or_assoc]
    · have := (joinL_len acc y).1
      simp only [List.length_cons, List.length_nil] at *
      omega
  | x :: a, [], acc, hc, ha, _, hoa, _ => by
    obtain ⟨h1, h2, h3⟩ := joinL_spec hc (ha.ok x List.mem_cons_self) (fun l hl => hoa l hl x List.mem_cons_self)
    obtain ⟨k1, k2, k3⟩ := unionGo_spec a [] (joinL acc x) h1 ha.tail Canon.nil (fun l hl r hr => Nat.le_trans (h3 l hl) (ha.first_le r hr)) (fun l _ r hr => by cases hr)
    rw [unionGo]
    refine ⟨k1, fun z => ?_, ?_⟩
    · rw [k2, h2, memR_cons]
      simp only [memR_nil, or_false]
      rw [or_assoc]
    · have := (joinL_len acc x).1
      simp only [List.length_cons, List.length_nil] at *
      omega
  | x :: a, y :: b, acc, hc, ha, hb, hoa, hob => by
    by_cases hyx : y.1 < x.1
    · obtain ⟨h1, h2, h3⟩ := joinL_spec hc (hb.ok y List.mem_cons_self) (fun l hl => hob l hl y List.mem_cons_self)
      obtain ⟨k1, k2, k3⟩ := unionGo_spec b (x :: a) (joinL acc y) h1 hb.tail ha (fun l hl r hr => Nat.le_trans (h3 l hl) (hb.first_le r hr)) (fun l hl r hr => by
        have := h3 l hl
        rcases List.mem_cons.1 hr with rfl | hr
        · omega
        · have := ha.first_le r hr; omega)
      rw [unionGo, if_pos hyx]
      refine ⟨k1, fun z => ?_, ?_⟩
      · rw [k2, h2, memR_cons (a := y)]
        constructor
        · rintro ((h | h) | h | h)
          · exact .inl h
          · exact .inr (.inr (.inl h))
          · exact .inr (.inr (.inr h))
          · exact .inr (.inl h)
        · rintro (h | h | h | h)
          · exact .inl (.inl h)
          · exact .inr (.inr h)
          · exact .inl (.inr h)
          · exact .inr (.inl h)
      · have := (joinL_len acc y).1
        simp only [List.length_cons] at *
        omega
    · obtain ⟨h1, h2, h3⟩ := joinL_spec hc (ha.ok x List.mem_cons_self) (fun l hl => hoa l hl x List.mem_cons_self)
      obtain ⟨k1, k2, k3⟩ := unionGo_spec a (y :: b) (joinL acc x) h1 ha.tail hb (fun l hl r hr => Nat.le_trans (h3 l hl) (ha.first_le r hr)) (fun l hl r hr => by
        have := h3 l hl
        rcases List.mem_cons.1 hr with rfl | hr
        · omega
        · have := hb.first_le r hr; omega)
      rw [unionGo, if_neg hyx]
      refine ⟨k1, fun z => ?_, ?_⟩
      · rw [k2, h2, memR_cons (a := x)]
        constructor
        · rintro ((h | h) | h | h)
          · exact .inl h
          · exact .inr (.inl (.inl h))
          · exact .inr (.inl (.inr h))
          · exact .inr (.inr h)
        · rintro (h | (h | h) | h)
          · exact .inl (.inl h)
          · exact .inl (.inr h)
          · exact .inr (.inl h)
          · exact .inr (.inr h)
      · have := (joinL_len acc x).1
        simp only [List.length_cons] at *
        omega
termination_by a b => a.length + b.length
theorem unionGo_lt : ∀ (a b acc : List Rn), (∀ q ∈ acc, q.1 < two64 ∧ q.2 < two64) → (∀ q ∈ a, q.1 < two64 ∧ q.2 < two64) → (∀ q ∈ b, q.1 < two64 ∧ q.2 < two64) → ∀ q ∈ unionGo acc a b, q.1 < two64 ∧ q.2 < two64
  | [], [], acc, h, _, _ => by unfold unionGo; exact h
  | [], y :: b, acc, h, _, hb => by
    rw [unionGo]
    exact unionGo_lt b [] _ (joinL_lt h (hb y List.mem_cons_self)) (fun q hq => hb q (List.mem_cons_of_mem _ hq)) (fun q hq => by cases hq)
  | x :: a, [], acc, h, ha, _ => by
    rw [unionGo]
    exact unionGo_lt a [] _ (joinL_lt h (ha x List.mem_cons_self)) (fun q hq => ha q (List.mem_cons_of_mem _ hq)) (fun q hq => by cases hq)
  | x :: a, y :: b, acc, h, ha, hb => by
    rw [unionGo]
    split
    · exact unionGo_lt b (x :: a) _ (joinL_lt h (hb y List.mem_cons_self)) (fun q hq => hb q (List.mem_cons_of_mem _ hq)) ha
    · exact unionGo_lt a (y :: b) _ (joinL_lt h (ha x List.mem_cons_self)) (fun q hq => ha q (List.mem_cons_of_mem _ hq)) hb
termination_by a b => a.length + b.length

/-- A set's list: it rises, its runs lie apart, and each number has 64 bits. -/
structure Okl (L : List Rn) : Prop where
  can : Canon L
  lt : ∀ q ∈ L, q.1 < two64 ∧ q.2 < two64
theorem Okl.nil : Okl [] := ⟨Canon.nil, fun q hq => by cases hq⟩
theorem union_ok {a b : List Rn} (ha : Okl a) (hb : Okl b) : Okl (unionL a b) :=
  ⟨(unionGo_spec a b [] Canon.nil ha.can hb.can (fun l hl => by cases hl) (fun l hl => by cases hl)).1, unionGo_lt a b [] (fun q hq => by cases hq) ha.lt hb.lt⟩
theorem union_mem {a b : List Rn} (ha : Okl a) (hb : Okl b) (x : Nat) : memR (unionL a b) x ↔ memR a x ∨ memR b x := by
  have h := (unionGo_spec a b [] Canon.nil ha.can hb.can (fun l hl => by cases hl) (fun l hl => by cases hl)).2.1 x
  unfold unionL
  simpa [memR_nil] using h
theorem union_len {a b : List Rn} (ha : Okl a) (hb : Okl b) : (unionL a b).length ≤ a.length + b.length := by
  have h := (unionGo_spec a b [] Canon.nil ha.can hb.can (fun l hl => by cases hl) (fun l hl => by cases hl)).2.2
  unfold unionL
  simpa using h
theorem Okl.ext {L M : List Rn} (hL : Okl L) (hM : Okl M) (h : ∀ x, memR L x ↔ memR M x) : L = M := canon_ext L M hL.can hM.can h
end Go.Proofs.Ytbnhemmklbbnmaa

/-! ## RunsMore -/
namespace Go.Proofs.Ytbnhemmklbbnmaa

/-! ### reach -/
def reachL (L : List Rn) (n : Nat) : List Rn := L.dropWhile fun r => decide (r.2 < n)
theorem reachL_nil (n : Nat) : reachL [] n = [] := rfl
theorem reachL_lo {a : Rn} {L : List Rn} {n : Nat} (h : a.2 < n) : reachL (a :: L) n = reachL L n := by simp [reachL, h]
theorem reachL_hi {a : Rn} {L : List Rn} {n : Nat} (h : ¬ a.2 < n) : reachL (a :: L) n = a :: L := by simp [reachL, h]
theorem reachL_ok {L : List Rn} (h : Okl L) (n : Nat) : Okl (reachL L n) ∧ (∀ r ∈ reachL L n, n ≤ r.2) ∧ (∀ x, n ≤ x → (memR (reachL L n) x ↔ memR L x)) ∧ (reachL L n).length ≤ L.length := by
  induction L with
  | nil => exact ⟨h, fun r hr => absurd hr List.not_mem_nil, fun x _ => Iff.rfl, Nat.le_refl _⟩
  | cons a L ih =>
    have ht : Okl L := ⟨h.can.tail, fun q hq => h.lt q (List.mem_cons_of_mem _ hq)⟩
    obtain ⟨h1, h2, h3, h4⟩ := ih ht
    by_cases hc : a.2 < n
    · rw [reachL_lo hc]
      refine ⟨h1, h2, fun x hx => ?_, by simp only [List.length_cons]; omega⟩
      rw [h3 x hx, memR_cons]
      constructor
      · exact .inr
      · rintro (hq | hq)
        · omega
        · exact hq
    · rw [reachL_hi hc]
      refine ⟨h, fun r hr => ?_, fun x _ => Iff.rfl, Nat.le_refl _⟩
      rcases List.mem_cons.1 hr with rfl | hr
      · omega
      · have := (List.pairwise_cons.1 h.can.far).1 r hr
        have := h.can.ok r (List.mem_cons_of_mem _ hr)
        omega
/-- How many runs end below n. -/
def lowC (L : List Rn) (n : Nat) : Nat := (L.takeWhile fun r => decide (r.2 < n)).length
theorem reachL_drop (L : List Rn) (n : Nat) : reachL L n = L.drop (lowC L n) := by
  induction L with
  | nil => rfl
  | cons a L ih =>
    by_cases hc : a.2 < n
    · rw [reachL_lo hc, ih]
      simp [lowC, hc]
    · rw [reachL_hi hc]
      simp [lowC, hc]
theorem lowC_le (L : List Rn) (n : Nat) : lowC L n ≤ L.length := by
  unfold lowC
  induction L with
  | nil => simp
  | cons a L ih =>
    by_cases hc : a.2 < n
    · simp [hc]; exact ih
    · simp [hc]
theorem lowC_iff {L : List Rn} (h : Canon L) {n j : Nat} {r : Rn} (hr : L[j]? = some r) : j < lowC L n ↔ r.2 < n := by
  induction L generalizing j with
  | nil => simp at hr
  | cons a L ih =>
    by_cases hc : a.2 < n
    · have e : lowC (a :: L) n = lowC L n + 1 := by simp [lowC, hc]
      rw [e]
      rcases j with _ | j
      · simp at hr; subst hr; simp [hc]
      · rw [← ih h.tail (by simpa using hr)]; omega
    · have e : lowC (a :: L) n = 0 := by simp [lowC, hc]
      rw [e]
      rcases j with _ | j
      · simp at hr; subst hr; simp; omega
      · have hm : r ∈ L := List.mem_of_getElem? (by simpa using hr)
        have := (List.pairwise_cons.1 h.far).1 r hm
        have := h.ok r (List.mem_cons_of_mem _ hm)
        omega

/-! ### has, gap -/
def hasL (L : List Rn) (n : Nat) : Bool := match reachL L n with | [] => false | r :: _ => decide (r.1 ≤ n)
theorem hasL_iff {L : List Rn} (h : Okl L) (n : Nat) : hasL L n = true ↔ memR L n := by
  obtain ⟨h1, h2, h3, _⟩ := reachL_ok h n
  rw [← h3 n (Nat.le_refl _)]
  unfold hasL
  cases hr : reachL L n with
  | nil => simp [memR_nil]
  | cons r R =>
    rw [hr] at h1 h2
    simp only [decide_eq_true_eq]
    constructor
    · intro hq
      exact memR_cons.2 (.inl ⟨hq, h2 r List.mem_cons_self⟩)
    · intro hq
      exact h1.can.least hq
def gapL (L : List Rn) (n : Nat) : Nat × Bool :=
  match reachL L n with
  | [] => (n, true)
  | r :: _ => if n < r.1 then (n, true) else if r.2 = two64 - 1 then (0, false) else (r.2 + 1, true)

/-! ### taking away -/
def piecesL (r : Rn) : List Rn → List Rn
  | [] => [r]
  | h :: hs => if r.2 < h.1 then [r] else (if r.1 < h.1 then [(r.1, h.1 - 1)] else []) ++ (if r.2 ≤ h.2 then [] else piecesL (h.2 + 1, r.2) hs)
theorem pieces_spec : ∀ (hs : List Rn) (r : Rn), Canon hs → r.1 ≤ r.2 → (∀ h ∈ hs, r.1 ≤ h.2) →
    Canon (piecesL r hs) ∧ (∀ x, memR (piecesL r hs) x ↔ (r.1 ≤ x ∧ x ≤ r.2) ∧ ¬ memR hs x) ∧ (∀ q ∈ piecesL r hs, r.1 ≤ q.1 ∧ q.2 ≤ r.2)
  | [], r, _, hr, _ => by
    refine ⟨Canon.one hr, fun x => ?_, fun q hq => ?_⟩
    · rw [piecesL, memR_one]; simp [memR_nil]
    · rw [piecesL, List.mem_singleton] at hq; subst hq; exact ⟨Nat.le_refl _, Nat.le_refl _⟩
  | h :: hs, r, hc, hr, ho => by
    have hh := hc.ok h List.mem_cons_self
    have hrh := ho h List.mem_cons_self
    rw [piecesL]
    by_cases h1 : r.2 < h.1
    · rw [if_pos h1]
      refine ⟨Canon.one hr, fun x => ?_, fun q hq => ?_⟩
      · rw [memR_one]
        constructor
        · intro hx
          refine ⟨hx, fun hm => ?_⟩
          have := hc.least hm
          omega
        · exact fun hx => hx.1
      · rw [List.mem_singleton] at hq; subst hq; exact ⟨Nat.le_refl _, Nat.le_refl _⟩
    · rw [if_neg h1]
      have hA : Canon (if r.1 < h.1 then [(r.1, h.1 - 1)] else []) ∧ (∀ x, memR (if r.1 < h.1 then [(r.1, h.1 - 1)] else []) x ↔ r.1 ≤ x ∧ x < h.1) ∧ (∀ q ∈ (if r.1 < h.1 then [(r.1, h.1 - 1)] else ([] : List Rn)), r.1 ≤ q.1 ∧ q.2 < h.1) := by
        by_cases h2 : r.1 < h.1
        · rw [if_pos h2]
          refine ⟨Canon.one (by show r.1 ≤ h.1 - 1; omega), fun x => ?_, fun q hq => ?_⟩
          · rw [memR_one]; simp only; omega
          · rw [List.mem_singleton] at hq; subst hq; simp only; omega
        · rw [if_neg h2]
          exact ⟨Canon.nil, fun x => by simp [memR_nil]; omega, fun q hq => by cases hq⟩
      obtain ⟨a1, a2, a3⟩ := hA
      by_cases h3 : r.2 ≤ h.2
      · rw [if_pos h3, List.append_nil]
        refine ⟨a1, fun x => ?_, fun q hq => ?_⟩
        · rw [a2, memR_cons]
          constructor
          · rintro ⟨h4, h5⟩
            refine ⟨⟨h4, by omega⟩, ?_⟩
            rintro (hq | hq)
            · omega
            · have := hc.above hq; omega
          · rintro ⟨⟨h4, h5⟩, h6⟩
            refine ⟨h4, ?_⟩
            rcases Nat.lt_or_ge x h.1 with hq | hq
            · exact hq
            · exact absurd (.inl ⟨hq, by omega⟩) h6
        · have := a3 q hq; omega
      · rw [if_neg h3]
        obtain ⟨b1, b2, b3⟩ := pieces_spec hs (h.2 + 1, r.2) hc.tail (by show h.2 + 1 ≤ r.2; omega) (fun g hg => by
          have := (List.pairwise_cons.1 hc.far).1 g hg
          have := hc.ok g (List.mem_cons_of_mem _ hg)
          show h.2 + 1 ≤ g.2
          omega)
        refine ⟨⟨List.pairwise_append.2 ⟨a1.far, b1.far, fun p hp q hq => ?_⟩, fun q hq => ?_⟩, fun x => ?_, fun q hq => ?_⟩
        · have := a3 p hp
          have := (b3 q hq).1
          simp only at this
          omega
        · rcases List.mem_append.1 hq with hq | hq
          · exact a1.ok q hq
          · exact b1.ok q hq
        · rw [memR_app, a2, b2, memR_cons]
          simp only
          constructor
          · rintro (⟨h4, h5⟩ | ⟨⟨h4, h5⟩, h6⟩)
            · refine ⟨⟨h4, by omega⟩, ?_⟩
              rintro (hq | hq)
              · omega
              · have := hc.above hq; omega
            · refine ⟨⟨by omega, h5⟩, ?_⟩
              rintro (hq | hq)
              · omega
              · exact h6 hq
          · rintro ⟨⟨h4, h5⟩, h6⟩
            rcases Nat.lt_or_ge x h.1 with hq | hq
            · exact .inl ⟨h4, hq⟩
            · refine .inr ⟨⟨?_, h5⟩, fun hm => h6 (.inr hm)⟩
              rcases Nat.lt_or_ge h.2 x with hp | hp
              · exact hp
              · exact absurd (.inl ⟨hq, hp⟩) h6
        · rcases List.mem_append.1 hq with hq | hq
          · have := a3 q hq; omega
          · have := b3 q hq; simp only at this; omega
theorem pieces_len (hs : List Rn) : ∀ r : Rn, (piecesL r hs).length ≤ hs.length + 1 := by
  induction hs with
  | nil => intro r; simp [piecesL]
  | cons h hs ih =>
    intro r
    rw [piecesL]
    split
    · simp
    · have := ih (h.2 + 1, r.2)
      split <;> split <;> simp <;> omega
def lessGo (acc : List Rn) : List Rn → List Rn → List Rn
  | [], _ => acc
  | r :: s, hs => lessGo (acc ++ piecesL r (reachL hs r.1)) s (reachL hs r.1)
def lessL (s t : List Rn) : List Rn := lessGo [] s t
theorem lessGo_spec : ∀ (s hs acc : List Rn), Canon acc → Okl s → Okl hs → (∀ a ∈ acc, ∀ r ∈ s, a.2 + 1 < r.1) → (∀ a ∈ acc, a.1 < two64 ∧ a.2 < two64) →
    Canon (lessGo acc s hs) ∧ (∀ x, memR (lessGo acc s hs) x ↔ memR acc x ∨ (memR s x ∧ ¬ memR hs x)) ∧ (∀ q ∈ lessGo acc s hs, q.1 < two64 ∧ q.2 < two64)
  | [], hs, acc, hc, _, _, _, hl => by
    rw [lessGo]
    exact ⟨hc, fun x => by simp [memR_nil], hl⟩
  | r :: s, hs, acc, hc, hS, hH, ho, hl => by
    obtain ⟨h1, h2, h3, h4⟩ := reachL_ok hH r.1
    have hr := hS.can.ok r List.mem_cons_self
    obtain ⟨p1, p2, p3⟩ := pieces_spec (reachL hs r.1) r h1.can hr (fun h hh => h2 h hh)
    have hS' : Okl s := ⟨hS.can.tail, fun q hq => hS.lt q (List.mem_cons_of_mem _ hq)⟩
    have hrl := hS.lt r List.mem_cons_self
    have hcA : Canon (acc ++ piecesL r (reachL hs r.1)) := ⟨List.pairwise_append.2 ⟨hc.far, p1.far, fun a ha q hq => by
        have := ho a ha r List.mem_cons_self
        have := (p3 q hq).1
        omega⟩, fun q hq => by
      rcases List.mem_append.1 hq with hq | hq
      · exact hc.ok q hq
      · exact p1.ok q hq⟩
    obtain ⟨k1, k2, k3⟩ := lessGo_spec s (reachL hs r.1) (acc ++ piecesL r (reachL hs r.1)) hcA hS' h1 (fun a ha q hq => by
        rcases List.mem_append.1 ha with ha | ha
        · exact ho a ha q (List.mem_cons_of_mem _ hq)
        · have := (p3 a ha).2
          have := (List.pairwise_cons.1 hS.can.far).1 q hq
          omega) (fun a ha => by
        rcases List.mem_append.1 ha with ha | ha
        · exact hl a ha
        · have := p3 a ha
          have := p1.ok a ha
          exact ⟨by omega, by omega⟩)
    rw [lessGo]
    refine ⟨k1, fun x => ?_, k3⟩
    rw [k2, memR_app, p2, memR_cons]
    constructor
    · rintro ((h | ⟨h, hn⟩) | ⟨h, hn⟩)
      · exact .inl h
      · exact .inr ⟨.inl h, fun hm => hn ((h3 x h.1).2 hm)⟩
      · have hx : r.1 ≤ x := by have := hS.can.above h; omega
        exact .inr ⟨.inr h, fun hm => hn ((h3 x hx).2 hm)⟩
    · rintro (h | ⟨h | h, hn⟩)
      · exact .inl (.inl h)
      · exact .inl (.inr ⟨h, fun hm => hn ((h3 x h.1).1 hm)⟩)
      · have hx : r.1 ≤ x := by have := hS.can.above h; omega
        exact .inr ⟨h, fun hm => hn ((h3 x hx).1 hm)⟩
theorem less_ok {s t : List Rn} (hs : Okl s) (ht : Okl t) : Okl (lessL s t) := by
  obtain ⟨h1, _, h3⟩ := lessGo_spec s t [] Canon.nil hs ht (fun a ha => by cases ha) (fun a ha => by cases ha)
  exact ⟨h1, h3⟩
theorem less_mem {s t : List Rn} (hs : Okl s) (ht : Okl t) (x : Nat) : memR (lessL s t) x ↔ memR s x ∧ ¬ memR t x := by
  have h := (lessGo_spec s t [] Canon.nil hs ht (fun a ha => by cases ha) (fun a ha => by cases ha)).2.1 x
  unfold lessL
  simpa [memR_nil] using h

/-! ### spans; sets of raw runs -/
def spanL (s : List Rn) (f t : Nat) : List Rn := if t < f then s else unionL s [(f, t)]
theorem one_ok {f t : Nat} (h : f ≤ t) (hf : f < two64) (ht : t < two64) : Okl [(f, t)] := ⟨Canon.one h, fun q hq => by rw [List.mem_singleton] at hq; subst hq; exact ⟨hf, ht⟩⟩
theorem span_ok {s : List Rn} {f t : Nat} (hs : Okl s) (hf : f < two64) (ht : t < two64) : Okl (spanL s f t) := by
  unfold spanL
  split
  · exact hs
  · exact union_ok hs (one_ok (by omega) hf ht)
theorem span_mem {s : List Rn} {f t : Nat} (hs : Okl s) (hf : f < two64) (ht : t < two64) (x : Nat) : memR (spanL s f t) x ↔ memR s x ∨ (f ≤ x ∧ x ≤ t) := by
  unfold spanL
  split
  · constructor
    · exact .inl
    · rintro (h | h)
      · exact h
      · omega
  · rw [union_mem hs (one_ok (by omega) hf ht), memR_one]
theorem span_len {s : List Rn} {f t : Nat} (hs : Okl s) (hf : f < two64) (ht : t < two64) : (spanL s f t).length ≤ s.length + 1 := by
  unfold spanL
  split
  · omega
  · have := union_len hs (one_ok (f := f) (t := t) (by omega) hf ht)
    simpa using this
def setL (l : List Rn) : List Rn := l.foldl (fun s r => spanL s r.1 r.2) []
theorem setL_snoc (l : List Rn) (r : Rn) : setL (l ++ [r]) = spanL (setL l) r.1 r.2 := by simp [setL]
theorem set_go (l : List Rn) : ∀ s : List Rn, Okl s → (∀ q ∈ l, q.1 < two64 ∧ q.2 < two64) →
    Okl (l.foldl (fun s r => spanL s r.1 r.2) s) ∧ (∀ x, memR (l.foldl (fun s r => spanL s r.1 r.2) s) x ↔ memR s x ∨ memR l x) ∧ (l.foldl (fun s r => spanL s r.1 r.2) s).length ≤ s.length + l.length := by
  induction l with
  | nil => intro s hs _; exact ⟨hs, fun x => by simp [memR_nil], by simp⟩
  | cons r l ih =>
    intro s hs h
    obtain ⟨hf, ht⟩ := h r List.mem_cons_self
    obtain ⟨h1, h2, h3⟩ := ih (spanL s r.1 r.2) (span_ok hs hf ht) (fun q hq => h q (List.mem_cons_of_mem _ hq))
    rw [List.foldl_cons]
    refine ⟨h1, fun x => ?_, ?_⟩
    · rw [h2, span_mem hs hf ht, memR_cons, or_assoc]
    · have := span_len hs hf ht
      simp only [List.length_cons]
      omega
theorem set_spec (l : List Rn) (h : ∀ q ∈ l, q.1 < two64 ∧ q.2 < two64) : Okl (setL l) ∧ (∀ x, memR (setL l) x ↔ memR l x) ∧ (setL l).length ≤ l.length := by
  obtain ⟨h1, h2, h3⟩ := set_go l [] Okl.nil h
  unfold setL
  exact ⟨h1, fun x => by have := h2 x; simpa [memR_nil] using this, by simpa using h3⟩
end Go.Proofs.Ytbnhemmklbbnmaa
