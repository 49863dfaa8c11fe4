/-
  MATHEMATICS of runs, further: reach, taking away, spans, sets of raw runs, gaps, counts.
  No statement is proved here.
-/
import Derived.Test.YthhmgbeigeagdaaRunsMath
namespace Go.Proofs.Ythhmgbeigeagdaa

/-! ### reach -/
def reachL (L : List Rn) (n : Nat) : List Rn := L.dropWhile fun r => decide (r.2 < n)
theorem reachL_nil (n : Nat) : reachL [] n = [] := rfl
theorem reachL_lo {a : Rn} {L : List Rn} {n : Nat} (h : a.2 < n) : reachL (a :: L) n = reachL L n := by simp [reachL, h]
theorem reachL_hi {a : Rn} {L : List Rn} {n : Nat} (h : ¬ a.2 < n) : reachL (a :: L) n = a :: L := by simp [reachL, h]
theorem reachL_ok {L : List Rn} (h : Okl L) (n : Nat) : Okl (reachL L n) ∧ (∀ r ∈ reachL L n, n ≤ r.2) ∧ (∀ x, n ≤ x → (memR (reachL L n) x ↔ memR L x)) ∧ (reachL L n).length ≤ L.length := by
  induction L with
  | nil => exact ⟨h, fun r hr => absurd hr List.not_mem_nil, fun x _ => Iff.rfl, Nat.le_refl _⟩
  | cons a L ih =>
    have ht : Okl L := ⟨h.can.tail, fun q hq => h.lt q (List.mem_cons_of_mem _ hq)⟩
    obtain ⟨h1, h2, h3, h4⟩ := ih ht
    by_cases hc : a.2 < n
    · rw [reachL_lo hc]
      refine ⟨h1, h2, fun x hx => ?_, by simp only [List.length_cons]; omega⟩
      rw [h3 x hx, memR_cons]
      constructor
      · exact .inr
      · rintro (hq | hq)
        · omega
        · exact hq
    · rw [reachL_hi hc]
      refine ⟨h, fun r hr => ?_, fun x _ => Iff.rfl, Nat.le_refl _⟩
      rcases List.mem_cons.1 hr with rfl | hr
      · omega
      · have := (List.pairwise_cons.1 h.can.far).1 r hr
        have := h.can.ok r (List.mem_cons_of_mem _ hr)
        omega
/-- How many runs end below n. -/
def lowC (L : List Rn) (n : Nat) : Nat := (L.takeWhile fun r => decide (r.2 < n)).length
theorem reachL_drop (L : List Rn) (n : Nat) : reachL L n = L.drop (lowC L n) := by
  induction L with
  | nil => rfl
  | cons a L ih =>
    by_cases hc : a.2 < n
    · rw [reachL_lo hc, ih]
      simp [lowC, hc]
    · rw [reachL_hi hc]
      simp [lowC, hc]
theorem lowC_le (L : List Rn) (n : Nat) : lowC L n ≤ L.length := by
  unfold lowC
  induction L with
  | nil => simp
  | cons a L ih =>
    by_cases hc : a.2 < n
    · simp [hc]; exact ih
    · simp [hc]
theorem lowC_iff {L : List Rn} (h : Canon L) {n j : Nat} {r : Rn} (hr : L[j]? = some r) : j < lowC L n ↔ r.2 < n := by
  induction L generalizing j with
  | nil => simp at hr
  | cons a L ih =>
    by_cases hc : a.2 < n
    · have e : lowC (a :: L) n = lowC L n + 1 := by simp [lowC, hc]
      rw [e]
      rcases j with _ | j
      · simp at hr; subst hr; simp [hc]
      · rw [← ih h.tail (by simpa using hr)]; omega
    · have e : lowC (a :: L) n = 0 := by simp [lowC, hc]
      rw [e]
      rcases j with _ | j
      · simp at hr; subst hr; simp; omega
      · have hm : r ∈ L := List.mem_of_getElem? (by simpa using hr)
        have := (List.pairwise_cons.1 h.far).1 r hm
        have := h.ok r (List.mem_cons_of_mem _ hm)
        omega

/-! ### has, gap -/
def hasL (L : List Rn) (n : Nat) : Bool := match reachL L n with | [] => false | r :: _ => decide (r.1 ≤ n)
theorem hasL_iff {L : List Rn} (h : Okl L) (n : Nat) : hasL L n = true ↔ memR L n := by
  obtain ⟨h1, h2, h3, _⟩ := reachL_ok h n
  rw [← h3 n (Nat.le_refl _)]
  unfold hasL
  cases hr : reachL L n with
  | nil => simp [memR_nil]
  | cons r R =>
    rw [hr] at h1 h2
    simp only [decide_eq_true_eq]
    constructor
    · intro hq
      exact memR_cons.2 (.inl ⟨hq, h2 r List.mem_cons_self⟩)
    · intro hq
      exact h1.can.least hq
def gapL (L : List Rn) (n : Nat) : Nat × Bool :=
  match reachL L n with
  | [] => (n, true)
  | r :: _ => if n < r.1 then (n, true) else if r.2 = two64 - 1 then (0, false) else (r.2 + 1, true)

/-! ### taking away -/
def piecesL (r : Rn) : List Rn → List Rn
  | [] => [r]
  | h :: hs => if r.2 < h.1 then [r] else (if r.1 < h.1 then [(r.1, h.1 - 1)] else []) ++ (if r.2 ≤ h.2 then [] else piecesL (h.2 + 1, r.2) hs)
theorem pieces_spec : ∀ (hs : List Rn) (r : Rn), Canon hs → r.1 ≤ r.2 → (∀ h ∈ hs, r.1 ≤ h.2) →
    Canon (piecesL r hs) ∧ (∀ x, memR (piecesL r hs) x ↔ (r.1 ≤ x ∧ x ≤ r.2) ∧ ¬ memR hs x) ∧ (∀ q ∈ piecesL r hs, r.1 ≤ q.1 ∧ q.2 ≤ r.2)
  | [], r, _, hr, _ => by
    refine ⟨Canon.one hr, fun x => ?_, fun q hq => ?_⟩
    · rw [piecesL, memR_one]; simp [memR_nil]
    · rw [piecesL, List.mem_singleton] at hq; subst hq; exact ⟨Nat.le_refl _, Nat.le_refl _⟩
  | h :: hs, r, hc, hr, ho => by
    have hh := hc.ok h List.mem_cons_self
    have hrh := ho h List.mem_cons_self
    rw [piecesL]
    by_cases h1 : r.2 < h.1
    · rw [if_pos h1]
      refine ⟨Canon.one hr, fun x => ?_, fun q hq => ?_⟩
      · rw [memR_one]
        constructor
        · intro hx
          refine ⟨hx, fun hm => ?_⟩
          have := hc.least hm
          omega
        · exact fun hx => hx.1
      · rw [List.mem_singleton] at hq; subst hq; exact ⟨Nat.le_refl _, Nat.le_refl _⟩
    · rw [if_neg h1]
      have hA : Canon (if r.1 < h.1 then [(r.1, h.1 - 1)] else []) ∧ (∀ x, memR (if r.1 < h.1 then [(r.1, h.1 - 1)] else []) x ↔ r.1 ≤ x ∧ x < h.1) ∧ (∀ q ∈ (if r.1 < h.1 then [(r.1, h.1 - 1)] else ([] : List Rn)), r.1 ≤ q.1 ∧ q.2 < h.1) := by
        by_cases h2 : r.1 < h.1
        · rw [if_pos h2]
          refine ⟨Canon.one (by show r.1 ≤ h.1 - 1; omega), fun x => ?_, fun q hq => ?_⟩
          · rw [memR_one]; simp only; omega
          · rw [List.mem_singleton] at hq; subst hq; simp only; omega
        · rw [if_neg h2]
          exact ⟨Canon.nil, fun x => by simp [memR_nil]; omega, fun q hq => by cases hq⟩
      obtain ⟨a1, a2, a3⟩ := hA
      by_cases h3 : r.2 ≤ h.2
      · rw [if_pos h3, List.append_nil]
        refine ⟨a1, fun x => ?_, fun q hq => ?_⟩
        · rw [a2, memR_cons]
          constructor
          · rintro ⟨h4, h5⟩
            refine ⟨⟨h4, by omega⟩, ?_⟩
            rintro (hq | hq)
            · omega
            · have := hc.above hq; omega
          · rintro ⟨⟨h4, h5⟩, h6⟩
            refine ⟨h4, ?_⟩
            rcases Nat.lt_or_ge x h.1 with hq | hq
            · exact hq
            · exact absurd (.inl ⟨hq, by omega⟩) h6
        · have := a3 q hq; omega
      · rw [if_neg h3]
        obtain ⟨b1, b2, b3⟩ := pieces_spec hs (h.2 + 1, r.2) hc.tail (by show h.2 + 1 ≤ r.2; omega) (fun g hg => by
          have := (List.pairwise_cons.1 hc.far).1 g hg
          have := hc.ok g (List.mem_cons_of_mem _ hg)
          show h.2 + 1 ≤ g.2
          omega)
        refine ⟨⟨List.pairwise_append.2 ⟨a1.far, b1.far, fun p hp q hq => ?_⟩, fun q hq => ?_⟩, fun x => ?_, fun q hq => ?_⟩
        · have := a3 p hp
          have := (b3 q hq).1
          simp only at this
          omega
        · rcases List.mem_append.1 hq with hq | hq
          · exact a1.ok q hq
          · exact b1.ok q hq
        · rw [memR_app, a2, b2, memR_cons]
          simp only
          constructor
          · rintro (⟨h4, h5⟩ | ⟨⟨h4, h5⟩, h6⟩)
            · refine ⟨⟨h4, by omega⟩, ?_⟩
              rintro (hq | hq)
              · omega
              · have := hc.above hq; omega
            · refine ⟨⟨by omega, h5⟩, ?_⟩
              rintro (hq | hq)
              · omega
              · exact h6 hq
          · rintro ⟨⟨h4, h5⟩, h6⟩
            rcases Nat.lt_or_ge x h.1 with hq | hq
            · exact .inl ⟨h4, hq⟩
            · refine .inr ⟨⟨?_, h5⟩, fun hm => h6 (.inr hm)⟩
              rcases Nat.lt_or_ge h.2 x with hp | hp
              · exact hp
              · exact absurd (.inl ⟨hq, hp⟩) h6
        · rcases List.mem_append.1 hq with hq | hq
          · have := a3 q hq; omega
          · have := b3 q hq; simp only at this; omega
theorem pieces_len (hs : List Rn) : ∀ r : Rn, (piecesL r hs).length ≤ hs.length + 1 := by
  induction hs with
  | nil => intro r; simp [piecesL]
  | cons h hs ih =>
    intro r
    rw [piecesL]
    split
    · simp
    · have := ih (h.2 + 1, r.2)
      split <;> split <;> simp <;> omega
def lessGo (acc : List Rn) : List Rn → List Rn → List Rn
  | [], _ => acc
  | r :: s, hs => lessGo (acc ++ piecesL r (reachL hs r.1)) s (reachL hs r.1)
def lessL (s t : List Rn) : List Rn := lessGo [] s t
theorem lessGo_spec : ∀ (s hs acc : List Rn), Canon acc → Okl s → Okl hs → (∀ a ∈ acc, ∀ r ∈ s, a.2 + 1 < r.1) → (∀ a ∈ acc, a.1 < two64 ∧ a.2 < two64) →
    Canon (lessGo acc s hs) ∧ (∀ x, memR (lessGo acc s hs) x ↔ memR acc x ∨ (memR s x ∧ ¬ memR hs x)) ∧ (∀ q ∈ lessGo acc s hs, q.1 < two64 ∧ q.2 < two64)
  | [], hs, acc, hc, _, _, _, hl => by
    rw [lessGo]
    exact ⟨hc, fun x => by simp [memR_nil], hl⟩
  | r :: s, hs, acc, hc, hS, hH, ho, hl => by
    obtain ⟨h1, h2, h3, h4⟩ := reachL_ok hH r.1
    have hr := hS.can.ok r List.mem_cons_self
    obtain ⟨p1, p2, p3⟩ := pieces_spec (reachL hs r.1) r h1.can hr (fun h hh => h2 h hh)
    have hS' : Okl s := ⟨hS.can.tail, fun q hq => hS.lt q (List.mem_cons_of_mem _ hq)⟩
    have hrl := hS.lt r List.mem_cons_self
    have hcA : Canon (acc ++ piecesL r (reachL hs r.1)) := ⟨List.pairwise_append.2 ⟨hc.far, p1.far, fun a ha q hq => by
        have := ho a ha r List.mem_cons_self
        have := (p3 q hq).1
        omega⟩, fun q hq => by
      rcases List.mem_append.1 hq with hq | hq
      · exact hc.ok q hq
      · exact p1.ok q hq⟩
    obtain ⟨k1, k2, k3⟩ := lessGo_spec s (reachL hs r.1) (acc ++ piecesL r (reachL hs r.1)) hcA hS' h1 (fun a ha q hq => by
        rcases List.mem_append.1 ha with ha | ha
        · exact ho a ha q (List.mem_cons_of_mem _ hq)
        · have := (p3 a ha).2
          have := (List.pairwise_cons.1 hS.can.far).1 q hq
          omega) (fun a ha => by
        rcases List.mem_append.1 ha with ha | ha
        · exact hl a ha
        · have := p3 a ha
          have := p1.ok a ha
          exact ⟨by omega, by omega⟩)
    rw [lessGo]
    refine ⟨k1, fun x => ?_, k3⟩
    rw [k2, memR_app, p2, memR_cons]
    constructor
    · rintro ((h | ⟨h, hn⟩) | ⟨h, hn⟩)
      · exact .inl h
      · exact .inr ⟨.inl h, fun hm => hn ((h3 x h.1).2 hm)⟩
      · have hx : r.1 ≤ x := by have := hS.can.above h; omega
        exact .inr ⟨.inr h, fun hm => hn ((h3 x hx).2 hm)⟩
    · rintro (h | ⟨h | h, hn⟩)
      · exact .inl (.inl h)
      · exact .inl (.inr ⟨h, fun hm => hn ((h3 x h.1).1 hm)⟩)
      · have hx : r.1 ≤ x := by have := hS.can.above h; omega
        exact .inr ⟨h, fun hm => hn ((h3 x hx).1 hm)⟩
theorem less_ok {s t : List Rn} (hs : Okl s) (ht : Okl t) : Okl (lessL s t) := by
  obtain ⟨h1, _, h3⟩ := lessGo_spec s t [] Canon.nil hs ht (fun a ha => by cases ha) (fun a ha => by cases ha)
  exact ⟨h1, h3⟩
theorem less_mem {s t : List Rn} (hs : Okl s) (ht : Okl t) (x : Nat) : memR (lessL s t) x ↔ memR s x ∧ ¬ memR t x := by
  have h := (lessGo_spec s t [] Canon.nil hs ht (fun a ha => by cases ha) (fun a ha => by cases ha)).2.1 x
  unfold lessL
  simpa [memR_nil] using h

/-! ### spans; sets of raw runs -/
def spanL (s : List Rn) (f t : Nat) : List Rn := if t < f then s else unionL s [(f, t)]
theorem one_ok {f t : Nat} (h : f ≤ t) (hf : f < two64) (ht : t < two64) : Okl [(f, t)] := ⟨Canon.one h, fun q hq => by rw [List.mem_singleton] at hq; subst hq; exact ⟨hf, ht⟩⟩
theorem span_ok {s : List Rn} {f t : Nat} (hs : Okl s) (hf : f < two64) (ht : t < two64) : Okl (spanL s f t) := by
  unfold spanL
  split
  · exact hs
  · exact union_ok hs (one_ok (by omega) hf ht)
theorem span_mem {s : List Rn} {f t : Nat} (hs : Okl s) (hf : f < two64) (ht : t < two64) (x : Nat) : memR (spanL s f t) x ↔ memR s x ∨ (f ≤ x ∧ x ≤ t) := by
  unfold spanL
  split
  · constructor
    · exact .inl
    · rintro (h | h)
      · exact h
      · omega
  · rw [union_mem hs (one_ok (by omega) hf ht), memR_one]
theorem span_len {s : List Rn} {f t : Nat} (hs : Okl s) (hf : f < two64) (ht : t < two64) : (spanL s f t).length ≤ s.length + 1 := by
  unfold spanL
  split
  · omega
  · have := union_len hs (one_ok (f := f) (t := t) (by omega) hf ht)
    simpa using this
def setL (l : List Rn) : List Rn := l.foldl (fun s r => spanL s r.1 r.2) []
theorem setL_snoc (l : List Rn) (r : Rn) : setL (l ++ [r]) = spanL (setL l) r.1 r.2 := by simp [setL]
theorem set_go (l : List Rn) : ∀ s : List Rn, Okl s → (∀ q ∈ l, q.1 < two64 ∧ q.2 < two64) →
    Okl (l.foldl (fun s r => spanL s r.1 r.2) s) ∧ (∀ x, memR (l.foldl (fun s r => spanL s r.1 r.2) s) x ↔ memR s x ∨ memR l x) ∧ (l.foldl (fun s r => spanL s r.1 r.2) s).length ≤ s.length + l.length := by
  induction l with
  | nil => intro s hs _; exact ⟨hs, fun x => by simp [memR_nil], by simp⟩
  | cons r l ih =>
    intro s hs h
    obtain ⟨hf, ht⟩ := h r List.mem_cons_self
    obtain ⟨h1, h2, h3⟩ := ih (spanL s r.1 r.2) (span_ok hs hf ht) (fun q hq => h q (List.mem_cons_of_mem _ hq))
    rw [List.foldl_cons]
    refine ⟨h1, fun x => ?_, ?_⟩
    · rw [h2, span_mem hs hf ht, memR_cons, or_assoc]
    · have := span_len hs hf ht
      simp only [List.length_cons]
      omega
theorem set_spec (l : List Rn) (h : ∀ q ∈ l, q.1 < two64 ∧ q.2 < two64) : Okl (setL l) ∧ (∀ x, memR (setL l) x ↔ memR l x) ∧ (setL l).length ≤ l.length := by
  obtain ⟨h1, h2, h3⟩ := set_go l [] Okl.nil h
  unfold setL
  exact ⟨h1, fun x => by have := h2 x; simpa [memR_nil] using this, by simpa using h3⟩
end Go.Proofs.Ythhmgbeigeagdaa
