/-
  MATHEMATICS of runs, further: what is below, from a number on; gaps.
  No statement is proved here.
-/
import Derived.Test.YthhmgbeigeagdaaRunsCut
namespace Go.Proofs.Ythhmgbeigeagdaa
theorem Okl.mem_lt {L : List Rn} (h : Okl L) {x : Nat} (hx : memR L x) : x < two64 := by
  obtain ⟨r, hr, _, h2⟩ := hx
  have := (h.lt r hr).2
  omega
theorem okl_ext {L M : List Rn} (hL : Okl L) (hM : Okl M) (h : ∀ x, memR L x ↔ memR M x) : L = M := canon_ext L M hL.can hM.can h
theorem max_lt : two64 - 1 < two64 := by unfold two64; omega
theorem span1_ok {f t : Nat} (hf : f < two64) (ht : t < two64) : Okl (spanL [] f t) := span_ok Okl.nil hf ht
theorem span1_mem {f t : Nat} (hf : f < two64) (ht : t < two64) (x : Nat) : memR (spanL [] f t) x ↔ f ≤ x ∧ x ≤ t := by
  rw [span_mem Okl.nil hf ht]
  simp [memR_nil]
theorem below_ok {L : List Rn} (h : Okl L) {v : Nat} (hv : v < two64) : Okl (belowL L v) := less_ok h (span1_ok hv max_lt)
theorem below_mem {L : List Rn} (h : Okl L) {v : Nat} (hv : v < two64) (x : Nat) : memR (belowL L v) x ↔ memR L x ∧ x < v := by
  unfold belowL
  rw [less_mem h (span1_ok hv max_lt), span1_mem hv max_lt]
  constructor
  · rintro ⟨h1, h2⟩
    have := h.mem_lt h1
    exact ⟨h1, by omega⟩
  · rintro ⟨h1, h2⟩
    exact ⟨h1, by omega⟩
theorem from_ok {L : List Rn} (h : Okl L) {v : Nat} (hv : v < two64) : Okl (fromL L v) := by
  unfold fromL
  split
  · exact h
  · exact less_ok h (span1_ok (by unfold two64; omega) (by omega))
theorem from_mem {L : List Rn} (h : Okl L) {v : Nat} (hv : v < two64) (x : Nat) : memR (fromL L v) x ↔ memR L x ∧ v ≤ x := by
  unfold fromL
  split
  · subst_vars
    exact ⟨fun h => ⟨h, Nat.zero_le _⟩, fun h => h.1⟩
  · rw [less_mem h (span1_ok (by unfold two64; omega) (by omega)), span1_mem (by unfold two64; omega) (by omega)]
    constructor
    · rintro ⟨h1, h2⟩
      exact ⟨h1, by omega⟩
    · rintro ⟨h1, h2⟩
      exact ⟨h1, by omega⟩
theorem from_len {L : List Rn} (h : Okl L) {v : Nat} (hv : v < two64) : (fromL L v).length ≤ L.length + 1 := by
  unfold fromL
  split
  · omega
  · have h1 := less_len (t := spanL [] 0 (v - 1)) h
    have h2 := span1_len 0 (v - 1) (by unfold two64; omega) (by omega)
    omega
theorem below_len {L : List Rn} (h : Okl L) {v : Nat} (hv : v < two64) : (belowL L v).length ≤ L.length + 1 := by
  unfold belowL
  have h1 := less_len (t := spanL [] v (two64 - 1)) h
  have h2 := span1_len v (two64 - 1) hv max_lt
  omega

/-! ### gaps -/
theorem gap_spec {L : List Rn} (h : Okl L) {n : Nat} (hn : n < two64) :
    (gapL L n = (0, false) ∧ ∀ x, n ≤ x → x < two64 → memR L x) ∨ ∃ g, gapL L n = (g, true) ∧ n ≤ g ∧ g < two64 ∧ ¬ memR L g ∧ ∀ x, n ≤ x → x < g → memR L x := by
  obtain ⟨h1, h2, h3, _⟩ := reachL_ok h n
  unfold gapL
  cases hr : reachL L n with
  | nil =>
    right
    refine ⟨n, rfl, Nat.le_refl _, hn, fun hm => ?_, fun x hx hy => by omega⟩
    have := (h3 n (Nat.le_refl _)).2 hm
    rw [hr] at this
    exact memR_nil _ this
  | cons r R =>
    rw [hr] at h1 h2 h3
    have hr2 := h2 r List.mem_cons_self
    have hrl := (h1.lt r List.mem_cons_self).2
    simp only
    by_cases hc : n < r.1
    · rw [if_pos hc]
      right
      refine ⟨n, rfl, Nat.le_refl _, hn, fun hm => ?_, fun x hx hy => by omega⟩
      have := h1.can.least ((h3 n (Nat.le_refl _)).2 hm)
      omega
    · rw [if_neg hc]
      by_cases hm : r.2 = two64 - 1
      · rw [if_pos hm]
        left
        refine ⟨rfl, fun x hx hy => (h3 x hx).1 (memR_cons.2 (.inl ⟨by omega, by omega⟩))⟩
      · rw [if_neg hm]
        right
        refine ⟨r.2 + 1, rfl, by omega, by omega, fun hq => ?_, fun x hx hy => (h3 x hx).1 (memR_cons.2 (.inl ⟨by omega, by omega⟩))⟩
        rcases memR_cons.1 ((h3 (r.2 + 1) (by omega)).2 hq) with hq | hq
        · omega
        · have := h1.can.above hq
          omega
theorem hasL_true {L : List Rn} (h : Okl L) {n : Nat} (hm : memR L n) : hasL L n = true := (hasL_iff h n).2 hm
theorem hasL_false {L : List Rn} (h : Okl L) {n : Nat} (hm : ¬ memR L n) : hasL L n = false := by
  rw [Bool.eq_false_iff]
  exact fun hq => hm ((hasL_iff h n).1 hq)
/-- All from n on. -/
theorem gap_none {L : List Rn} (h : Okl L) {n : Nat} (hn : n < two64) (ha : ∀ x, n ≤ x → x < two64 → memR L x) : fromL L n = spanL [] n (two64 - 1) :=
  okl_ext (from_ok h hn) (span1_ok hn max_lt) fun x => by
    rw [from_mem h hn, span1_mem hn max_lt]
    constructor
    · rintro ⟨h1, h2⟩
      have := h.mem_lt h1
      exact ⟨h2, by omega⟩
    · rintro ⟨h1, h2⟩
      have := max_lt
      exact ⟨ha x h1 (by omega), h1⟩
/-- All from n up to the gap. -/
theorem gap_some {L : List Rn} (h : Okl L) {n g : Nat} (hng : n < g) (hg : g < two64) (ha : ∀ x, n ≤ x → x < g → memR L x) : belowL (fromL L n) g = spanL [] n (g - 1) :=
  okl_ext (below_ok (from_ok h (by omega)) hg) (span1_ok (by omega) (by omega)) fun x => by
    rw [below_mem (from_ok h (by omega)) hg, from_mem h (by omega), span1_mem (by omega) (by omega)]
    constructor
    · rintro ⟨⟨h1, h2⟩, h3⟩
      exact ⟨h2, by omega⟩
    · rintro ⟨h1, h2⟩
      exact ⟨⟨ha x h1 (by omega), h1⟩, by omega⟩
end Go.Proofs.Ythhmgbeigeagdaa
