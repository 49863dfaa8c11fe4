/-
  MATHEMATICS of runs: how many there are.
  No statement is proved here.
-/
import Derived.Test.YthhmgbeigeagdaaRunsHelp
import Derived.Test.YthhmgbeigeagdaaRunsFacts
namespace Go.Proofs.Ythhmgbeigeagdaa
def cardL : List Rn → Nat
  | [] => 0
  | r :: s => (r.2 - r.1 + 1) + cardL s
theorem cntGo_mod : ∀ (L : List Rn) (a : Nat), cntGo a L % two64 = (a + cardL L) % two64
  | [], a => by rw [cntGo, cardL]; rfl
  | r :: s, a => by
    rw [cntGo, cntGo_mod s, cardL, Nat.mod_add_mod]
    congr 1
    omega
theorem cntGo_lt : ∀ (L : List Rn) (a : Nat), a < two64 → cntGo a L < two64
  | [], a, h => by rw [cntGo]; exact h
  | r :: s, a, _ => by
    rw [cntGo]
    exact cntGo_lt s _ (Nat.mod_lt _ (by unfold two64; omega))
/-- The last number plus one bounds how many there are. -/
theorem card_top : ∀ (L : List Rn) (N : Nat), Canon L → (∀ r ∈ L, r.2 < N) → ∀ b, (∀ r ∈ L, b ≤ r.1) → b ≤ N → cardL L ≤ N - b
  | [], N, _, _, b, _, _ => by rw [cardL]; omega
  | r :: s, N, hc, hN, b, hb, hbN => by
    rw [cardL]
    have h1 := hb r List.mem_cons_self
    have h2 := hN r List.mem_cons_self
    have h3 := hc.ok r List.mem_cons_self
    have h4 := card_top s N hc.tail (fun q hq => hN q (List.mem_cons_of_mem _ hq)) (r.2 + 1) (fun q hq => by
      have := (List.pairwise_cons.1 hc.far).1 q hq
      omega) (by omega)
    omega
theorem card_le {L : List Rn} (h : Okl L) : cardL L ≤ two64 := by
  have := card_top L two64 h.can (fun r hr => (h.lt r hr).2) 0 (fun r _ => Nat.zero_le _) (Nat.zero_le _)
  omega
theorem card_pos {L : List Rn} (h : L ≠ []) : 0 < cardL L := by
  cases L with
  | nil => exact absurd rfl h
  | cons r s => rw [cardL]; omega
theorem cnt_card {L : List Rn} (h : Okl L) : cntL L = if cardL L = two64 then two64 - 1 else cardL L := by
  have h1 := cntGo_mod L 0
  have h2 := cntGo_lt L 0 (by unfold two64; omega)
  have h3 := card_le h
  rw [Nat.zero_add, Nat.mod_eq_of_lt h2] at h1
  unfold cntL
  by_cases hc : cardL L = two64
  · rw [if_pos hc]
    rw [hc, Nat.mod_self] at h1
    rw [if_pos ⟨h1, fun e => by subst e; rw [cardL] at hc; unfold two64 at hc; omega⟩]
  · rw [if_neg hc]
    rw [Nat.mod_eq_of_lt (by omega)] at h1
    rw [h1]
    by_cases hl : cardL L = 0 ∧ L ≠ []
    · have := card_pos hl.2
      omega
    · rw [if_neg hl]

/-! ### counting by membership -/
def memB (L : List Rn) (x : Nat) : Bool := L.any fun r => decide (r.1 ≤ x ∧ x ≤ r.2)
theorem memB_iff (L : List Rn) (x : Nat) : memB L x = true ↔ memR L x := by
  unfold memB memR
  rw [List.any_eq_true]
  simp
def cntP (p : Nat → Bool) : Nat → Nat
  | 0 => 0
  | N + 1 => cntP p N + if p N then 1 else 0
theorem cntP_congr {p q : Nat → Bool} : ∀ (N : Nat), (∀ x, x < N → p x = q x) → cntP p N = cntP q N
  | 0, _ => rfl
  | N + 1, h => by rw [cntP, cntP, cntP_congr N (fun x hx => h x (by omega)), h N (by omega)]
theorem cntP_split (p q : Nat → Bool) : ∀ (N : Nat), cntP p N = cntP (fun x => p x && !q x) N + cntP (fun x => p x && q x) N
  | 0 => rfl
  | N + 1 => by
    rw [cntP, cntP, cntP, cntP_split p q N]
    cases p N <;> cases q N <;> simp <;> omega
theorem cntP_or {p q : Nat → Bool} (hd : ∀ x, p x = true → q x = false) : ∀ (N : Nat), cntP (fun x => p x || q x) N = cntP p N + cntP q N
  | 0 => rfl
  | N + 1 => by
    rw [cntP, cntP, cntP, cntP_or hd N]
    have := hd N
    cases hp : p N <;> cases hq : q N <;> simp [hp, hq] at this ⊢ <;> omega
theorem cntP_run (f t : Nat) (h : f ≤ t) : ∀ (N : Nat), cntP (fun x => decide (f ≤ x ∧ x ≤ t)) N = min N (t + 1) - min N f
  | 0 => by rw [cntP]; omega
  | N + 1 => by
    rw [cntP, cntP_run f t h N]
    by_cases hc : f ≤ N ∧ N ≤ t
    · simp [hc]; omega
    · simp only [decide_eq_false hc]
      simp
      omega
theorem cntP_card (N : Nat) : ∀ (L : List Rn), Canon L → (∀ r ∈ L, r.2 < N) → cntP (memB L) N = cardL L
  | [], _, _ => by
    rw [cardL]
    have : ∀ M, cntP (memB []) M = 0 := by
      intro M
      induction M with
      | zero => rfl
      | succ M ih => rw [cntP, ih]; rfl
    exact this N
  | r :: s, hc, hN => by
    have h2 := hN r List.mem_cons_self
    have h3 := hc.ok r List.mem_cons_self
    have e : cntP (memB (r :: s)) N = cntP (fun x => decide (r.1 ≤ x ∧ x ≤ r.2) || memB s x) N := cntP_congr N fun x _ => by simp [memB]
    rw [e, cntP_or (fun x hx => by
      rw [Bool.eq_false_iff]
      intro hm
      have := hc.above ((memB_iff s x).1 hm)
      simp at hx
      omega), cntP_run r.1 r.2 h3, cntP_card N s hc.tail (fun q hq => hN q (List.mem_cons_of_mem _ hq)), cardL]
    omega
/-- What is in both, and what is in the first alone, together. -/
theorem card_split {S D B : List Rn} (hS : Okl S) (hD : Okl D) (hB : Okl B) {T : List Rn} (h1 : ∀ x, memR D x ↔ memR S x ∧ ¬ memR T x) (h2 : ∀ x, memR B x ↔ memR S x ∧ memR T x) : cardL S = cardL D + cardL B := by
  rw [← cntP_card two64 S hS.can (fun r hr => (hS.lt r hr).2), ← cntP_card two64 D hD.can (fun r hr => (hD.lt r hr).2), ← cntP_card two64 B hB.can (fun r hr => (hB.lt r hr).2),
    cntP_split (memB S) (memB T)]
  have e1 : cntP (fun x => memB S x && !memB T x) two64 = cntP (memB D) two64 := cntP_congr _ fun x _ => by
    rw [Bool.eq_iff_iff, memB_iff, h1, Bool.and_eq_true, memB_iff, Bool.not_eq_true', ← Bool.not_eq_true, memB_iff]
  have e2 : cntP (fun x => memB S x && memB T x) two64 = cntP (memB B) two64 := cntP_congr _ fun x _ => by
    rw [Bool.eq_iff_iff, memB_iff, h2, Bool.and_eq_true, memB_iff, memB_iff]
  rw [e1, e2]
theorem counts_add {S D B : List Rn} (hS : Okl S) (hD : Okl D) (hB : Okl B) {T : List Rn} (h1 : ∀ x, memR D x ↔ memR S x ∧ ¬ memR T x) (h2 : ∀ x, memR B x ↔ memR S x ∧ memR T x) :
    (cntL D + cntL B) % two64 < cntL D ∨ cntL S = (cntL D + cntL B) % two64 := by
  have hc := card_split hS hD hB h1 h2
  have hs := card_le hS
  have hp : 0 < two64 := by unfold two64; omega
  rw [cnt_card hS, cnt_card hD, cnt_card hB]
  generalize cardL S = a at *
  generalize cardL D = b at *
  generalize cardL B = d at *
  clear h1 h2 hS hD hB
  unfold two64 at *
  split <;> split <;> split <;> omega
end Go.Proofs.Ythhmgbeigeagdaa
