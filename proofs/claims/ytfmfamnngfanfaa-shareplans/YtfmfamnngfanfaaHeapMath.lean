/-
  A HEAP, as mathematics: who is on top, what rising and sinking leave.
  No statement is proved here.
-/
import Derived.Sort.LotA
namespace Go.Proofs.Ytfmfamnngfanfaa
open Go.Sort

section
variable {α : Type} [Inhabited α] {lt : α → α → Bool}
/-- 'Not ahead of' is transitive; who is ahead isn't behind. -/
structure Wk (lt : α → α → Bool) : Prop where
  tr : ∀ a b c, lt a b = false → lt b c = false → lt a c = false
  as : ∀ a b, lt a b = true → lt b a = false
def Heap (lt : α → α → Bool) (d : Array α) (n : Nat) : Prop := ∀ k, 0 < k → k < n → lt d[k]! d[(k - 1) / 2]! = false
structure UpInv (lt : α → α → Bool) (d : Array α) (n j : Nat) : Prop where
  off : ∀ k, 0 < k → k < n → k ≠ j → lt d[k]! d[(k - 1) / 2]! = false
  sub : ∀ k, 0 < k → k < n → (k - 1) / 2 = j → 0 < j → lt d[k]! d[(j - 1) / 2]! = false
structure DownInv (lt : α → α → Bool) (d : Array α) (n i : Nat) : Prop where
  off : ∀ k, 0 < k → k < n → (k - 1) / 2 ≠ i → lt d[k]! d[(k - 1) / 2]! = false
  sub : ∀ k, 0 < k → k < n → (k - 1) / 2 = i → 0 < i → lt d[k]! d[(i - 1) / 2]! = false
theorem swp_at {d : Array α} {i j : Nat} (hi : i < d.size) (hj : j < d.size) (k : Nat) : (swp d i j)[k]! = if k = j then d[i]! else if k = i then d[j]! else d[k]! := by
  rw [swp_get d hi hj]
theorem up_stop0 {d : Array α} {n : Nat} (h : UpInv lt d n 0) : Heap lt d n := fun k h0 hn => h.off k h0 hn (by omega)
theorem up_stop {d : Array α} {n j : Nat} (h : UpInv lt d n j) (hl : lt d[j]! d[(j - 1) / 2]! = false) : Heap lt d n := fun k h0 hn => by
  by_cases e : k = j
  · rw [e]; exact hl
  · exact h.off k h0 hn e
theorem up_step (hw : Wk lt) {d : Array α} {n j p : Nat} (h : UpInv lt d n j) (hj : 0 < j) (hn : j < n) (hs : n ≤ d.size) (hp : p = (j - 1) / 2) (hl : lt d[j]! d[p]! = true) : UpInv lt (swp d p j) n p := by
  have hpj : p < j := by omega
  have ha := hw.as _ _ hl
  have g := swp_at (d := d) (i := p) (j := j) (by omega) (by omega)
  refine ⟨fun k h0 hkn hkp => ?_, fun k h0 hkn hk hp0 => ?_⟩
  · rw [g k, g ((k - 1) / 2)]
    by_cases e1 : k = j
    · rw [if_pos e1, if_neg (by omega), if_pos (by omega)]; exact ha
    · rw [if_neg e1, if_neg hkp]
      by_cases e2 : (k - 1) / 2 = j
      · rw [if_pos e2, hp]; exact h.sub k h0 hkn e2 hj
      · rw [if_neg e2]
        by_cases e3 : (k - 1) / 2 = p
        · rw [if_pos e3]
          have := h.off k h0 hkn e1
          rw [e3] at this
          exact hw.tr _ _ _ this ha
        · rw [if_neg e3]; exact h.off k h0 hkn e1
  · rw [g k, g ((p - 1) / 2)]
    have h1 := h.off p hp0 (by omega) (by omega)
    rw [if_neg (show (p - 1) / 2 ≠ j by omega), if_neg (show (p - 1) / 2 ≠ p by omega)]
    by_cases e1 : k = j
    · rw [if_pos e1]; exact h1
    · rw [if_neg e1, if_neg (by omega)]
      have h2 := h.off k h0 hkn e1
      rw [hk] at h2
      exact hw.tr _ _ _ h2 h1
theorem down_stop {d : Array α} {n i : Nat} (h : DownInv lt d n i) (hs : ∀ k, 0 < k → k < n → (k - 1) / 2 = i → lt d[k]! d[i]! = false) : Heap lt d n := fun k h0 hn => by
  by_cases e : (k - 1) / 2 = i
  · rw [e]; exact hs k h0 hn e
  · exact h.off k h0 hn e
theorem down_stop0 {d : Array α} {n i : Nat} (h : DownInv lt d n i) (hi : n ≤ 2 * i + 1) : Heap lt d n := down_stop h fun k h0 hn hk => by omega
theorem down_stop1 (hw : Wk lt) {d : Array α} {n i c : Nat} (h : DownInv lt d n i) (hsib : ∀ k, 0 < k → k < n → (k - 1) / 2 = i → k ≠ c → lt d[k]! d[c]! = false) (hl : lt d[c]! d[i]! = false) : Heap lt d n :=
  down_stop h fun k h0 hn hk => by
    by_cases e : k = c
    · rw [e]; exact hl
    · exact hw.tr _ _ _ (hsib k h0 hn hk e) hl
theorem down_step (hw : Wk lt) {d : Array α} {n i c : Nat} (h : DownInv lt d n i) (hc : (c - 1) / 2 = i) (h0c : 0 < c) (hcn : c < n) (hs : n ≤ d.size) (hsib : ∀ k, 0 < k → k < n → (k - 1) / 2 = i → k ≠ c → lt d[k]! d[c]! = false) (hl : lt d[c]! d[i]! = true) : DownInv lt (swp d i c) n c := by
  have hic : i < c := by omega
  have ha := hw.as _ _ hl
  have g := swp_at (d := d) (i := i) (j := c) (by omega) (by omega)
  refine ⟨fun k h0 hkn hkp => ?_, fun k h0 hkn hk hp0 => ?_⟩
  · rw [g k, g ((k - 1) / 2)]
    rw [if_neg hkp]
    by_cases e1 : k = c
    · rw [if_pos e1, if_pos (by omega)]; exact ha
    · rw [if_neg e1]
      by_cases e2 : k = i
      · rw [if_pos e2, if_neg (by omega)]
        have := h.sub c h0c hcn hc (by omega)
        rw [e2]; exact this
      · rw [if_neg e2]
        by_cases e3 : (k - 1) / 2 = i
        · rw [if_pos e3]; exact hsib k h0 hkn e3 e1
        · rw [if_neg e3]; exact h.off k h0 hkn e3
  · rw [g k, g ((c - 1) / 2)]
    rw [if_neg (show k ≠ c by omega), if_neg (show k ≠ i by omega), if_neg (show (c - 1) / 2 ≠ c by omega), if_pos hc]
    have := h.off k h0 hkn (by omega)
    rw [hk] at this
    exact this
theorem heap_top (hw : Wk lt) {d : Array α} {n : Nat} (h : Heap lt d n) : ∀ k, 0 < k → k < n → lt d[k]! d[0]! = false := by
  intro k
  induction k using Nat.strongRecOn with
  | _ k ih =>
    intro h0 hn
    have h1 := h k h0 hn
    by_cases e : (k - 1) / 2 = 0
    · rw [e] at h1; exact h1
    · exact hw.tr _ _ _ h1 (ih _ (by omega) (by omega) (by omega))
theorem pop_start {d : Array α} {n : Nat} (h : Heap lt d (n + 1)) (hs : n < d.size) : DownInv lt (swp d 0 n) n 0 := by
  refine ⟨fun k h0 hkn hk => ?_, fun _ _ _ _ h => absurd h (by omega)⟩
  rw [swp_at (by omega) hs, swp_at (by omega) hs, if_neg (by omega), if_neg (by omega), if_neg (by omega), if_neg (by omega)]
  exact h k h0 (by omega)
theorem push_start {d : Array α} {n : Nat} (x : α) (h : Heap lt d n) (hs : d.size = n) : UpInv lt (d.push x) (n + 1) n := by
  have g : ∀ k, k < n → (d.push x)[k]! = d[k]! := fun k hk => by
    rw [getElem!_pos (d.push x) k (by simp; omega), getElem!_pos d k (by omega), Array.getElem_push_lt (by omega)]
  refine ⟨fun k h0 hkn hk => ?_, fun k h0 hkn hk _ => by omega⟩
  rw [g k (by omega), g _ (by omega)]
  exact h k h0 (by omega)
theorem swp_perm {d : Array α} {i j : Nat} (hi : i < d.size) (hj : j < d.size) : (swp d i j).toList.Perm d.toList := by
  have e : swp d i j = d.swap i j hi hj := by
    unfold swp
    rw [Array.swap_def, getElem!_pos d j hj, getElem!_pos d i hi]
    simp [Array.setIfInBounds, hi, hj]
  rw [e]
  exact (Array.swap_perm hi hj).toList
/-- One element was turned, at i. -/
structure FixInv (lt : α → α → Bool) (d : Array α) (m i : Nat) : Prop where
  off : ∀ k, 0 < k → k < m → k ≠ i → (k - 1) / 2 ≠ i → lt d[k]! d[(k - 1) / 2]! = false
  sub : ∀ k, 0 < k → k < m → (k - 1) / 2 = i → 0 < i → lt d[k]! d[(i - 1) / 2]! = false
/-- None below i goes ahead of it. -/
def Kids (lt : α → α → Bool) (d : Array α) (m i : Nat) : Prop := ∀ k, 0 < k → k < m → (k - 1) / 2 = i → lt d[k]! d[i]! = false
theorem fix_of (hw : Wk lt) {d d' : Array α} {n m i : Nat} (h : Heap lt d n) (hm : m ≤ n) (he : ∀ k, k < m → k ≠ i → d'[k]! = d[k]!) : FixInv lt d' m i := by
  refine ⟨fun k h0 hk hki hp => ?_, fun k h0 hk hp hi => ?_⟩
  · rw [he k hk hki, he _ (by omega) hp]
    exact h k h0 (by omega)
  · rw [he k hk (by omega), he ((i - 1) / 2) (by omega) (by omega)]
    have h1 := h k h0 (by omega)
    rw [hp] at h1
    exact hw.tr _ _ _ h1 (h i hi (by omega))
theorem fix_cases (hw : Wk lt) {d : Array α} {m i : Nat} (h : FixInv lt d m i) : DownInv lt d m i ∨ (UpInv lt d m i ∧ Kids lt d m i) := by
  by_cases hc : 0 < i ∧ lt d[i]! d[(i - 1) / 2]! = true
  · have ha := hw.as _ _ hc.2
    have hk : Kids lt d m i := fun k h0 hk hp => hw.tr _ _ _ (h.sub k h0 hk hp hc.1) ha
    refine .inr ⟨⟨fun k h0 hkm hki => ?_, fun k h0 hkm hp h1 => h.sub k h0 hkm hp h1⟩, hk⟩
    by_cases e : (k - 1) / 2 = i
    · rw [e]; exact hk k h0 hkm e
    · exact h.off k h0 hkm hki e
  · refine .inl ⟨fun k h0 hkm hp => ?_, h.sub⟩
    by_cases e : k = i
    · subst e
      cases hl : lt d[k]! d[(k - 1) / 2]!
      · rfl
      · exact absurd ⟨h0, hl⟩ hc
    · exact h.off k h0 hkm e hp
theorem up_of_heap (hw : Wk lt) {d : Array α} {n j : Nat} (h : Heap lt d n) (hj : j < n) : UpInv lt d n j :=
  ⟨fun k h0 hk _ => h k h0 hk, fun k h0 hk hp h1 => by
    have a := h k h0 hk
    rw [hp] at a
    exact hw.tr _ _ _ a (h j h1 hj)⟩
end
end Go.Proofs.Ytfmfamnngfanfaa
