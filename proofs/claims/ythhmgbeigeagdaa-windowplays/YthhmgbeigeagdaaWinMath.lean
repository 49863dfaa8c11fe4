/-
  MATHEMATICS of windows: what is done, putting, skipping; that a window is told apart by what is done in it; counts.
  No statement is proved here.
-/
import Derived.Test.YthhmgbeigeagdaaRunsFacts
import Derived.Test.YthhmgbeigeagdaaRunsCut
import Derived.Test.YthhmgbeigeagdaaRunsCard
namespace Go.Proofs.Ythhmgbeigeagdaa

/-- A window. -/
structure Wn where
  low : Nat
  width : Nat
  L : List Rn
def Wn.D (W : Wn) (x : Nat) : Prop := x ≤ W.low ∨ memR W.L x
/-- A window that may be. -/
structure Wn.Ok (W : Wn) : Prop where
  w1 : 1 ≤ W.width
  w2 : W.width ≤ 1024
  low : W.low < 4611686018427387904
  ok : Okl W.L
  lo : ∀ x, memR W.L x → W.low + 1 < x ∧ x ≤ W.low + W.width
def hadW (W : Wn) (n : Nat) : Bool := decide (n ≤ W.low) || hasL W.L n
def takesW (W : Wn) (n : Nat) : Bool := decide (n ≤ W.low + W.width) && !hadW W n
def doneL (W : Wn) : List Rn := spanL W.L 0 W.low
def lowOf (D : List Rn) : Nat := if (gapL D 0).1 = 0 then two64 - 1 else (gapL D 0).1 - 1
def withW (W : Wn) (D : List Rn) : Wn := ⟨lowOf D, W.width, lessL D (spanL [] 0 (lowOf D))⟩
def putW (W : Wn) (n : Nat) : Wn := if takesW W n = true then withW W (spanL (doneL W) n n) else W
def skipW (W : Wn) (b : Nat) : Wn := if b = 0 then W else withW W (spanL (doneL W) 0 (b - 1))
theorem with_width (W : Wn) (D : List Rn) : (withW W D).width = W.width := by unfold withW; rfl
theorem with_low (W : Wn) (D : List Rn) : (withW W D).low = lowOf D := by unfold withW; rfl
theorem with_L (W : Wn) (D : List Rn) : (withW W D).L = lessL D (spanL [] 0 (lowOf D)) := by unfold withW; rfl
def newW (n : Nat) : Wn := ⟨0, n, []⟩

theorem hadW_iff {W : Wn} (h : Okl W.L) (n : Nat) : hadW W n = true ↔ W.D n := by
  unfold hadW Wn.D
  rw [Bool.or_eq_true, decide_eq_true_iff, hasL_iff h]
theorem takesW_iff {W : Wn} (h : Okl W.L) (n : Nat) : takesW W n = true ↔ n ≤ W.low + W.width ∧ ¬ W.D n := by
  unfold takesW
  rw [Bool.and_eq_true, decide_eq_true_iff, ← hadW_iff h]
  simp
theorem takesW_false {W : Wn} (h : Okl W.L) {n : Nat} (hn : W.D n) : takesW W n = false := by
  cases ht : takesW W n
  · rfl
  · exact absurd hn ((takesW_iff h n).1 ht).2
theorem done_ok {W : Wn} (h : W.Ok) : Okl (doneL W) := span_ok h.ok (by unfold two64; omega) (by have := h.low; unfold two64; omega)
theorem done_mem {W : Wn} (h : W.Ok) (x : Nat) : memR (doneL W) x ↔ W.D x := by
  unfold doneL Wn.D
  rw [span_mem h.ok (by unfold two64; omega) (by have := h.low; unfold two64; omega)]
  constructor
  · rintro (h1 | h1)
    · exact .inr h1
    · exact .inl h1.2
  · rintro (h1 | h1)
    · exact .inr ⟨Nat.zero_le _, h1⟩
    · exact .inl h1
/-- All that are done, made a window. -/
theorem with_spec {W : Wn} {D : List Rn} {b : Nat} (h : W.Ok) (hD : Okl D) (h0 : ∀ x, x ≤ W.low → memR D x) (hb : ∀ x, memR D x → x ≤ b) (hb2 : b < 4611686018427387904) (hall : ∀ x, memR D x → x ≤ W.low + W.width ∨ ∀ y, y ≤ x → memR D y) :
    (withW W D).Ok ∧ (∀ x, (withW W D).D x ↔ memR D x) ∧ W.low ≤ (withW W D).low ∧ (withW W D).low ≤ b := by
  rcases gap_spec hD (n := 0) (by unfold two64; omega) with ⟨_, h2⟩ | ⟨g, hg, _, hg64, hnot, hlt⟩
  · have := hb _ (h2 18446744073709551615 (by omega) (by unfold two64; omega))
    omega
  · have hg0 : W.low < g := Nat.lt_of_not_le fun hle => hnot (h0 g hle)
    have hgb : g ≤ b + 1 := by
      rcases Nat.lt_or_ge (b + 1) g with h1 | h1
      · have := hb _ (hlt (b + 1) (Nat.zero_le _) h1)
        omega
      · exact h1
    have hlow : lowOf D = g - 1 := by unfold lowOf; rw [hg]; exact if_neg (by show ¬ g = 0; omega)
    have hs : ∀ x, memR (spanL [] 0 (g - 1)) x ↔ x ≤ g - 1 := fun x => by
      rw [span1_mem (by unfold two64; omega) (by unfold two64 at *; omega)]
      exact ⟨fun h => h.2, fun h => ⟨Nat.zero_le _, h⟩⟩
    have hsk : Okl (spanL [] 0 (g - 1)) := span1_ok (by unfold two64; omega) (by unfold two64 at *; omega)
    have hL : ∀ x, memR (withW W D).L x ↔ memR D x ∧ g < x := fun x => by
      rw [with_L, hlow, less_mem hD hsk, hs]
      constructor
      · rintro ⟨h1, h2⟩
        refine ⟨h1, ?_⟩
        rcases Nat.lt_or_ge g x with h3 | h3
        · exact h3
        · exact absurd ((show x = g by omega) ▸ h1) hnot
      · rintro ⟨h1, h2⟩
        exact ⟨h1, by omega⟩
    have hl : (withW W D).low = g - 1 := (with_low W D).trans hlow
    refine ⟨⟨by rw [with_width]; exact h.w1, by rw [with_width]; exact h.w2, by rw [hl]; omega, ?_, fun x hx => ?_⟩, fun x => ?_, by rw [hl]; omega, by rw [hl]; omega⟩
    · rw [with_L, hlow]
      exact less_ok hD hsk
    · obtain ⟨h1, h2⟩ := (hL x).1 hx
      rw [hl]
      refine ⟨by omega, ?_⟩
      rw [with_width]
      rcases hall x h1 with h3 | h3
      · omega
      · exact absurd (h3 g (by omega)) hnot
    · unfold Wn.D
      rw [hL, hl]
      constructor
      · rintro (h1 | h1)
        · exact hlt x (Nat.zero_le _) (by omega)
        · exact h1.1
      · intro h1
        rcases Nat.lt_or_ge x g with h2 | h2
        · exact .inl (by omega)
        · rcases Nat.lt_or_ge g x with h3 | h3
          · exact .inr ⟨h1, h3⟩
          · exact absurd ((show x = g by omega) ▸ h1) hnot
theorem Wn.Ok.d_le {W : Wn} (h : W.Ok) {x : Nat} (hx : W.D x) : x ≤ W.low + W.width := by
  rcases hx with h1 | h1
  · omega
  · exact (h.lo x h1).2
theorem put_spec {W : Wn} (h : W.Ok) (hl : W.low < 4611686018427380000) (n : Nat) (hn : n < two64) :
    (putW W n).Ok ∧ (∀ x, (putW W n).D x ↔ W.D x ∨ (takesW W n = true ∧ x = n)) ∧ W.low ≤ (putW W n).low ∧ (putW W n).low ≤ W.low + W.width ∧ (putW W n).width = W.width := by
  have h1 := h.w2
  unfold putW
  by_cases ht : takesW W n = true
  · rw [if_pos ht]
    obtain ⟨h2, h3⟩ := (takesW_iff h.ok n).1 ht
    have hm : ∀ x, memR (spanL (doneL W) n n) x ↔ W.D x ∨ x = n := fun x => by
      rw [span_mem (done_ok h) hn hn, done_mem h]
      constructor
      · rintro (h4 | h4)
        · exact .inl h4
        · exact .inr (by omega)
      · rintro (h4 | h4)
        · exact .inl h4
        · exact .inr ⟨by omega, by omega⟩
    have hle : ∀ x, memR (spanL (doneL W) n n) x → x ≤ W.low + W.width := fun x hx => by
      rcases (hm x).1 hx with h4 | h4
      · exact h.d_le h4
      · omega
    obtain ⟨k1, k2, k3, k4⟩ := with_spec (b := W.low + W.width) h (span_ok (done_ok h) hn hn) (fun x hx => (hm x).2 (.inl (.inl hx))) hle (by omega) (fun x hx => .inl (hle x hx))
    refine ⟨k1, fun x => ?_, k3, k4, with_width _ _⟩
    rw [k2, hm]
    simp [ht]
  · rw [if_neg ht]
    exact ⟨h, fun x => by simp [ht], Nat.le_refl _, by omega, rfl⟩
theorem skip_spec {W : Wn} (h : W.Ok) (hl : W.low < 4611686018427380000) (b : Nat) (hb : b < 4611686018427380000) :
    (skipW W b).Ok ∧ (∀ x, (skipW W b).D x ↔ W.D x ∨ x < b) ∧ W.low ≤ (skipW W b).low ∧ (skipW W b).low ≤ max (W.low + W.width) (b - 1) ∧ (skipW W b).width = W.width := by
  have h1 := h.w2
  unfold skipW
  by_cases h0 : b = 0
  · rw [if_pos h0]
    exact ⟨h, fun x => by simp [h0], Nat.le_refl _, by omega, rfl⟩
  · rw [if_neg h0]
    have q0 : (0 : Nat) < two64 := by unfold two64; omega
    have qb : b - 1 < two64 := by unfold two64; omega
    have hm : ∀ x, memR (spanL (doneL W) 0 (b - 1)) x ↔ W.D x ∨ x < b := fun x => by
      rw [span_mem (done_ok h) q0 qb, done_mem h]
      constructor
      · rintro (h4 | h4)
        · exact .inl h4
        · exact .inr (by omega)
      · rintro (h4 | h4)
        · exact .inl h4
        · exact .inr ⟨by omega, by omega⟩
    obtain ⟨k1, k2, k3, k4⟩ := with_spec (b := max (W.low + W.width) (b - 1)) h (span_ok (done_ok h) q0 qb) (fun x hx => (hm x).2 (.inl (.inl hx)))
      (fun x hx => by
        rcases (hm x).1 hx with h4 | h4
        · have := h.d_le h4; omega
        · omega) (by omega)
      (fun x hx => by
        rcases (hm x).1 hx with h4 | h4
        · exact .inl (h.d_le h4)
        · exact .inr fun y hy => (hm y).2 (.inr (by omega)))
    exact ⟨k1, fun x => by rw [k2, hm], k3, k4, with_width _ _⟩
end Go.Proofs.Ythhmgbeigeagdaa
