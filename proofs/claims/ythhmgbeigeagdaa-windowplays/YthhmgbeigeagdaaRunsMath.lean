/-
  MATHEMATICS of runs: lists of runs that rise and lie apart; what is in them; that they are told apart by what is in them; joining, uniting, taking away, gaps, counts.
  No statement is proved here.
-/
import Derived.Test.YthhmgbeigeagdaaPackMath
namespace Go.Proofs.Ythhmgbeigeagdaa

abbrev Rn := Nat × Nat
def memR (L : List Rn) (x : Nat) : Prop := ∃ r ∈ L, r.1 ≤ x ∧ x ≤ r.2
structure Canon (L : List Rn) : Prop where
  far : L.Pairwise fun a b => a.2 + 1 < b.1
  ok : ∀ r ∈ L, r.1 ≤ r.2

theorem memR_nil (x : Nat) : ¬ memR [] x := fun ⟨_, h, _⟩ => by cases h
theorem memR_cons {a : Rn} {L : List Rn} {x : Nat} : memR (a :: L) x ↔ (a.1 ≤ x ∧ x ≤ a.2) ∨ memR L x := by
  constructor
  · rintro ⟨r, hr, h⟩
    rcases List.mem_cons.1 hr with rfl | hr
    · exact .inl h
    · exact .inr ⟨r, hr, h⟩
  · rintro (h | ⟨r, hr, h⟩)
    · exact ⟨a, List.mem_cons_self, h⟩
    · exact ⟨r, List.mem_cons_of_mem _ hr, h⟩
theorem memR_app {L M : List Rn} {x : Nat} : memR (L ++ M) x ↔ memR L x ∨ memR M x := by
  induction L with
  | nil => simp [memR_nil]
  | cons a L ih => rw [List.cons_append, memR_cons, memR_cons, ih, or_assoc]
theorem memR_one {a : Rn} {x : Nat} : memR [a] x ↔ a.1 ≤ x ∧ x ≤ a.2 := by rw [memR_cons]; simp [memR_nil]

theorem Canon.nil : Canon [] := ⟨List.Pairwise.nil, fun r hr => by cases hr⟩
theorem Canon.one {a : Rn} (h : a.1 ≤ a.2) : Canon [a] := ⟨List.pairwise_singleton _ _, fun r hr => by rw [List.mem_singleton] at hr; subst hr; exact h⟩
theorem Canon.tail {a : Rn} {L : List Rn} (h : Canon (a :: L)) : Canon L := ⟨(List.pairwise_cons.1 h.far).2, fun r hr => h.ok r (List.mem_cons_of_mem _ hr)⟩
theorem Canon.above {a : Rn} {L : List Rn} (h : Canon (a :: L)) {x : Nat} (hx : memR L x) : a.2 + 1 < x := by
  obtain ⟨r, hr, h1, _⟩ := hx
  have := (List.pairwise_cons.1 h.far).1 r hr
  omega
theorem Canon.least {a : Rn} {L : List Rn} (h : Canon (a :: L)) {x : Nat} (hx : memR (a :: L) x) : a.1 ≤ x := by
  rcases memR_cons.1 hx with h1 | h1
  · exact h1.1
  · have := h.above h1
    have := h.ok a List.mem_cons_self
    omega
theorem Canon.head {a : Rn} {L : List Rn} (h : Canon (a :: L)) : memR (a :: L) a.1 := memR_cons.2 (.inl ⟨Nat.le_refl _, h.ok a List.mem_cons_self⟩)
theorem Canon.tail_iff {a : Rn} {L : List Rn} (h : Canon (a :: L)) {x : Nat} : memR L x ↔ memR (a :: L) x ∧ a.2 < x := by
  constructor
  · intro hx
    exact ⟨memR_cons.2 (.inr hx), by have := h.above hx; omega⟩
  · rintro ⟨hx, h2⟩
    rcases memR_cons.1 hx with h1 | h1
    · omega
    · exact h1

/-- LISTS OF RUNS ARE TOLD APART BY WHAT IS IN THEM. -/
theorem canon_ext : ∀ (L M : List Rn), Canon L → Canon M → (∀ x, memR L x ↔ memR M x) → L = M
  | [], [], _, _, _ => rfl
  | [], b :: M, _, hM, h => absurd ((h b.1).2 hM.head) (memR_nil _)
  | a :: L, [], hL, _, h => absurd ((h a.1).1 hL.head) (memR_nil _)
  | a :: L, b :: M, hL, hM, h => by
    have h1 : a.1 = b.1 := Nat.le_antisymm (hL.least ((h b.1).2 hM.head)) (hM.least ((h a.1).1 hL.head))
    have ha := hL.ok a List.mem_cons_self
    have hb := hM.ok b List.mem_cons_self
    have h2 : a.2 = b.2 := by
      rcases Nat.lt_trichotomy a.2 b.2 with hlt | heq | hgt
      · have hm : memR (a :: L) (a.2 + 1) := (h _).2 (memR_cons.2 (.inl ⟨by omega, by omega⟩))
        rcases memR_cons.1 hm with hq | hq
        · omega
        · have := hL.above hq; omega
      · exact heq
      · have hm : memR (b :: M) (b.2 + 1) := (h _).1 (memR_cons.2 (.inl ⟨by omega, by omega⟩))
        rcases memR_cons.1 hm with hq | hq
        · omega
        · have := hM.above hq; omega
    have hab : a = b := Prod.ext h1 h2
    subst hab
    rw [canon_ext L M hL.tail hM.tail (fun x => by rw [hL.tail_iff, hM.tail_iff, h])]

/-! ### join -/
def apartB (a b : Rn) : Bool := decide (a.2 + 1 < b.1)
def joinL (L : List Rn) (r : Rn) : List Rn :=
  match L.getLast? with
  | none => [r]
  | some l => if l.2 + 1 < r.1 then L ++ [r] else L.dropLast ++ [(l.1, max l.2 r.2)]
theorem joinL_nil (r : Rn) : joinL [] r = [r] := rfl
theorem joinL_far {L : List Rn} {l r : Rn} (h : l.2 + 1 < r.1) : joinL (L ++ [l]) r = L ++ [l] ++ [r] := by simp [joinL, h]
theorem joinL_near {L : List Rn} {l r : Rn} (h : ¬ l.2 + 1 < r.1) : joinL (L ++ [l]) r = L ++ [(l.1, max l.2 r.2)] := by simp [joinL, h]
theorem canon_snoc {L : List Rn} {r : Rn} (h : Canon L) (hr : r.1 ≤ r.2) (hf : ∀ l ∈ L, l.2 + 1 < r.1) : Canon (L ++ [r]) :=
  ⟨List.pairwise_append.2 ⟨h.far, List.pairwise_singleton _ _, fun a ha b hb => by rw [List.mem_singleton] at hb; subst hb; exact hf a ha⟩, fun q hq => by
    rcases List.mem_append.1 hq with hq | hq
    · exact h.ok q hq
    · rw [List.mem_singleton] at hq; subst hq; exact hr⟩
theorem canon_init {L : List Rn} {r : Rn} (h : Canon (L ++ [r])) : Canon L ∧ (∀ l ∈ L, l.2 + 1 < r.1) ∧ r.1 ≤ r.2 := by
  obtain ⟨h1, _, h3⟩ := List.pairwise_append.1 h.far
  exact ⟨⟨h1, fun q hq => h.ok q (List.mem_append_left _ hq)⟩, fun l hl => h3 l hl r (List.mem_singleton.2 rfl), h.ok r (List.mem_append_right _ (List.mem_singleton.2 rfl))⟩
theorem joinL_spec {L : List Rn} {r : Rn} (h : Canon L) (hr : r.1 ≤ r.2) (ho : ∀ l ∈ L, l.1 ≤ r.1) :
    Canon (joinL L r) ∧ (∀ x, memR (joinL L r) x ↔ memR L x ∨ (r.1 ≤ x ∧ x ≤ r.2)) ∧ (∀ l ∈ joinL L r, l.1 ≤ r.1) := by
  rcases List.eq_nil_or_concat L with rfl | ⟨M, l, rfl⟩
  · rw [joinL_nil]
    exact ⟨Canon.one hr, fun x => by rw [memR_one]; simp [memR_nil], fun l hl => by rw [List.mem_singleton] at hl; subst hl; exact Nat.le_refl _⟩
  · rw [List.concat_eq_append] at h ho ⊢
    obtain ⟨hM, hf, hl⟩ := canon_init h
    have hlo := ho l (List.mem_append_right _ (List.mem_singleton.2 rfl))
    by_cases hc : l.2 + 1 < r.1
    · rw [joinL_far hc]
      refine ⟨canon_snoc h hr fun q hq => ?_, fun x => by rw [memR_app, memR_one], fun q hq => ?_⟩
      · rcases List.mem_append.1 hq with hq | hq
        · have := hf q hq; omega
        · rw [List.mem_singleton] at hq; subst hq; exact hc
      · rcases List.mem_append.1 hq with hq | hq
        · exact ho q hq
        · rw [List.mem_singleton] at hq; subst hq; exact Nat.le_refl _
    · rw [joinL_near hc]
      refine ⟨canon_snoc hM (by show l.1 ≤ max l.2 r.2; omega) hf, fun x => ?_, fun q hq => ?_⟩
      · rw [memR_app, memR_app, memR_one, memR_one]
        constructor
        · rintro (h1 | ⟨h1, h2⟩)
          · exact .inl (.inl h1)
          · simp only at h1 h2
            by_cases h3 : x ≤ l.2
            · exact .inl (.inr ⟨h1, h3⟩)
            · exact .inr ⟨by omega, by omega⟩
        · rintro ((h1 | h1) | h1)
          · exact .inl h1
          · exact .inr ⟨h1.1, by show x ≤ max l.2 r.2; omega⟩
          · exact .inr ⟨by show l.1 ≤ x; omega, by show x ≤ max l.2 r.2; omega⟩
      · rcases List.mem_append.1 hq with hq | hq
        · exact ho q (List.mem_append_left _ hq)
        · rw [List.mem_singleton] at hq; subst hq; exact hlo
theorem joinL_len (L : List Rn) (r : Rn) : (joinL L r).length ≤ L.length + 1 ∧ 0 < (joinL L r).length := by
  rcases List.eq_nil_or_concat L with rfl | ⟨M, l, rfl⟩
  · simp [joinL_nil]
  · rw [List.concat_eq_append]
    by_cases hc : l.2 + 1 < r.1
    · rw [joinL_far hc]; simp
    · rw [joinL_near hc]; simp
theorem joinL_lt {L : List Rn} {r : Rn} (h : ∀ q ∈ L, q.1 < two64 ∧ q.2 < two64) (hr : r.1 < two64 ∧ r.2 < two64) : ∀ q ∈ joinL L r, q.1 < two64 ∧ q.2 < two64 := by
  rcases List.eq_nil_or_concat L with rfl | ⟨M, l, rfl⟩
  · rw [joinL_nil]; intro q hq; rw [List.mem_singleton] at hq; subst hq; exact hr
  · rw [List.concat_eq_append] at h ⊢
    have hl := h l (List.mem_append_right _ (List.mem_singleton.2 rfl))
    by_cases hc : l.2 + 1 < r.1
    · rw [joinL_far hc]
      intro q hq
      rcases List.mem_append.1 hq with hq | hq
      · exact h q hq
      · rw [List.mem_singleton] at hq; subst hq; exact hr
    · rw [joinL_near hc]
      intro q hq
      rcases List.mem_append.1 hq with hq | hq
      · exact h q (List.mem_append_left _ hq)
      · rw [List.mem_singleton] at hq; subst hq
        exact ⟨hl.1, by show max l.2 r.2 < two64; omega⟩

/-! ### union -/
def unionGo (acc : List Rn) : List Rn → List Rn → List Rn
  | [], [] => acc
  | [], y :: b => unionGo (joinL acc y) b []
  | x :: a, [] => unionGo (joinL acc x) a []
  | x :: a, y :: b => if y.1 < x.1 then unionGo (joinL acc y) b (x :: a) else unionGo (joinL acc x) a (y :: b)
termination_by a b => a.length + b.length
def unionL (a b : List Rn) : List Rn := unionGo [] a b
theorem Canon.first_le {a : Rn} {L : List Rn} (h : Canon (a :: L)) : ∀ r ∈ L, a.1 ≤ r.1 := fun r hr => by
  have := (List.pairwise_cons.1 h.far).1 r hr
  have := h.ok a List.mem_cons_self
  omega
theorem unionGo_spec : ∀ (a b acc : List Rn), Canon acc → Canon a → Canon b → (∀ l ∈ acc, ∀ r ∈ a, l.1 ≤ r.1) → (∀ l ∈ acc, ∀ r ∈ b, l.1 ≤ r.1) →
    Canon (unionGo acc a b) ∧ (∀ x, memR (unionGo acc a b) x ↔ memR acc x ∨ memR a x ∨ memR b x) ∧ (unionGo acc a b).length ≤ acc.length + (a.length + b.length)
  | [], [], acc, hc, _, _, _, _ => by
    unfold unionGo
    exact ⟨hc, fun x => by simp [memR_nil], by simp⟩
  | [], y :: b, acc, hc, _, hb, _, hob => by
    obtain ⟨h1, h2, h3⟩ := joinL_spec hc (hb.ok y List.mem_cons_self) (fun l hl => hob l hl y List.mem_cons_self)
    obtain ⟨k1, k2, k3⟩ := unionGo_spec b [] (joinL acc y) h1 hb.tail Canon.nil (fun l hl r hr => Nat.le_trans (h3 l hl) (hb.first_le r hr)) (fun l _ r hr => by cases hr)
    rw [unionGo]
    refine ⟨k1, fun x => ?_, ?_⟩
    · rw [k2, h2, memR_cons]
      simp only [memR_nil, or_false, false_or]
      rw [or_assoc]
    · have := (joinL_len acc y).1
      simp only [List.length_cons, List.length_nil] at *
      omega
  | x :: a, [], acc, hc, ha, _, hoa, _ => by
    obtain ⟨h1, h2, h3⟩ := joinL_spec hc (ha.ok x List.mem_cons_self) (fun l hl => hoa l hl x List.mem_cons_self)
    obtain ⟨k1, k2, k3⟩ := unionGo_spec a [] (joinL acc x) h1 ha.tail Canon.nil (fun l hl r hr => Nat.le_trans (h3 l hl) (ha.first_le r hr)) (fun l _ r hr => by cases hr)
    rw [unionGo]
    refine ⟨k1, fun z => ?_, ?_⟩
    · rw [k2, h2, memR_cons]
      simp only [memR_nil, or_false]
      rw [or_assoc]
    · have := (joinL_len acc x).1
      simp only [List.length_cons, List.length_nil] at *
      omega
  | x :: a, y :: b, acc, hc, ha, hb, hoa, hob => by
    by_cases hyx : y.1 < x.1
    · obtain ⟨h1, h2, h3⟩ := joinL_spec hc (hb.ok y List.mem_cons_self) (fun l hl => hob l hl y List.mem_cons_self)
      obtain ⟨k1, k2, k3⟩ := unionGo_spec b (x :: a) (joinL acc y) h1 hb.tail ha (fun l hl r hr => Nat.le_trans (h3 l hl) (hb.first_le r hr)) (fun l hl r hr => by
        have := h3 l hl
        rcases List.mem_cons.1 hr with rfl | hr
        · omega
        · have := ha.first_le r hr; omega)
      rw [unionGo, if_pos hyx]
      refine ⟨k1, fun z => ?_, ?_⟩
      · rw [k2, h2, memR_cons (a := y)]
        constructor
        · rintro ((h | h) | h | h)
          · exact .inl h
          · exact .inr (.inr (.inl h))
          · exact .inr (.inr (.inr h))
          · exact .inr (.inl h)
        · rintro (h | h | h | h)
          · exact .inl (.inl h)
          · exact .inr (.inr h)
          · exact .inl (.inr h)
          · exact .inr (.inl h)
      · have := (joinL_len acc y).1
        simp only [List.length_cons] at *
        omega
    · obtain ⟨h1, h2, h3⟩ := joinL_spec hc (ha.ok x List.mem_cons_self) (fun l hl => hoa l hl x List.mem_cons_self)
      obtain ⟨k1, k2, k3⟩ := unionGo_spec a (y :: b) (joinL acc x) h1 ha.tail hb (fun l hl r hr => Nat.le_trans (h3 l hl) (ha.first_le r hr)) (fun l hl r hr => by
        have := h3 l hl
        rcases List.mem_cons.1 hr with rfl | hr
        · omega
        · have := hb.first_le r hr; omega)
      rw [unionGo, if_neg hyx]
      refine ⟨k1, fun z => ?_, ?_⟩
      · rw [k2, h2, memR_cons (a := x)]
        constructor
        · rintro ((h | h) | h | h)
          · exact .inl h
          · exact .inr (.inl (.inl h))
          · exact .inr (.inl (.inr h))
          · exact .inr (.inr h)
        · rintro (h | (h | h) | h)
          · exact .inl (.inl h)
          · exact .inl (.inr h)
          · exact .inr (.inl h)
          · exact .inr (.inr h)
      · have := (joinL_len acc x).1
        simp only [List.length_cons] at *
        omega
termination_by a b => a.length + b.length
theorem unionGo_lt : ∀ (a b acc : List Rn), (∀ q ∈ acc, q.1 < two64 ∧ q.2 < two64) → (∀ q ∈ a, q.1 < two64 ∧ q.2 < two64) → (∀ q ∈ b, q.1 < two64 ∧ q.2 < two64) → ∀ q ∈ unionGo acc a b, q.1 < two64 ∧ q.2 < two64
  | [], [], acc, h, _, _ => by unfold unionGo; exact h
  | [], y :: b, acc, h, _, hb => by
    rw [unionGo]
    exact unionGo_lt b [] _ (joinL_lt h (hb y List.mem_cons_self)) (fun q hq => hb q (List.mem_cons_of_mem _ hq)) (fun q hq => by cases hq)
  | x :: a, [], acc, h, ha, _ => by
    rw [unionGo]
    exact unionGo_lt a [] _ (joinL_lt h (ha x List.mem_cons_self)) (fun q hq => ha q (List.mem_cons_of_mem _ hq)) (fun q hq => by cases hq)
  | x :: a, y :: b, acc, h, ha, hb => by
    rw [unionGo]
    split
    · exact unionGo_lt b (x :: a) _ (joinL_lt h (hb y List.mem_cons_self)) (fun q hq => hb q (List.mem_cons_of_mem _ hq)) ha
    · exact unionGo_lt a (y :: b) _ (joinL_lt h (ha x List.mem_cons_self)) (fun q hq => ha q (List.mem_cons_of_mem _ hq)) hb
termination_by a b => a.length + b.length

/-- A set's list: it rises, its runs lie apart, and each number has 64 bits. -/
structure Okl (L : List Rn) : Prop where
  can : Canon L
  lt : ∀ q ∈ L, q.1 < two64 ∧ q.2 < two64
theorem Okl.nil : Okl [] := ⟨Canon.nil, fun q hq => by cases hq⟩
theorem union_ok {a b : List Rn} (ha : Okl a) (hb : Okl b) : Okl (unionL a b) :=
  ⟨(unionGo_spec a b [] Canon.nil ha.can hb.can (fun l hl => by cases hl) (fun l hl => by cases hl)).1, unionGo_lt a b [] (fun q hq => by cases hq) ha.lt hb.lt⟩
theorem union_mem {a b : List Rn} (ha : Okl a) (hb : Okl b) (x : Nat) : memR (unionL a b) x ↔ memR a x ∨ memR b x := by
  have h := (unionGo_spec a b [] Canon.nil ha.can hb.can (fun l hl => by cases hl) (fun l hl => by cases hl)).2.1 x
  unfold unionL
  simpa [memR_nil] using h
theorem union_len {a b : List Rn} (ha : Okl a) (hb : Okl b) : (unionL a b).length ≤ a.length + b.length := by
  have h := (unionGo_spec a b [] Canon.nil ha.can hb.can (fun l hl => by cases hl) (fun l hl => by cases hl)).2.2
  unfold unionL
  simpa using h
theorem Okl.ext {L M : List Rn} (hL : Okl L) (hM : Okl M) (h : ∀ x, memR L x ↔ memR M x) : L = M := canon_ext L M hL.can hM.can h
end Go.Proofs.Ythhmgbeigeagdaa
