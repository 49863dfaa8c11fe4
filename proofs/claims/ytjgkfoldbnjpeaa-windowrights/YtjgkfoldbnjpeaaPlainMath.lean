/-
  MATHEMATICS of the reference's Plain: what is gathered up to a number; what grows.
  No statement is proved here.
-/
import Derived.Test.YtjgkfoldbnjpeaaRefRuns
namespace Go.Proofs.Ytjgkfoldbnjpeaa

/-- How many runs reach up to a number. -/
def left (l : List Rn) (a : Nat) : Nat := l.countP fun r => decide (a ≤ r.2)
theorem left_mono (l : List Rn) {a b : Nat} (h : a ≤ b) : left l b ≤ left l a := by
  unfold left
  refine List.countP_mono_left fun r _ hr => ?_
  simp at hr ⊢
  omega
theorem left_lt {l : List Rn} {a b : Nat} {q : Rn} (hq : q ∈ l) (h : a ≤ b) (ha : a ≤ q.2) (hb : q.2 < b) : left l b < left l a := by
  induction l with
  | nil => cases hq
  | cons r s ih =>
    have hm := left_mono s h
    unfold left at *
    rw [List.countP_cons, List.countP_cons]
    rcases List.mem_cons.1 hq with rfl | hq
    · simp [ha, Nat.not_le.2 hb]
      omega
    · have := ih hq
      by_cases h1 : b ≤ r.2
      · simp [h1, Nat.le_trans h h1]
        omega
      · simp [h1]
        split <;> omega
structure PlainSt (l : List Rn) (a : Nat) (P : List Rn) : Prop where
  lt : a < two64
  ok : Okl P
  mem : ∀ x, memR P x ↔ memR l x ∧ x < a
  low : ∀ r ∈ P, r.2 < a
  gap : P = [] ∨ ¬ memR l a
theorem PlainSt.start (l : List Rn) : PlainSt l 0 [] := ⟨by unfold two64; omega, Okl.nil, fun x => (by simp [memR_nil]), fun r hr => (by cases hr), .inl rfl⟩
theorem PlainSt.done {l P : List Rn} {a : Nat} (h : PlainSt l a P) (hl : ∀ q ∈ l, q.1 < two64 ∧ q.2 < two64) (hb : ∀ r ∈ l, ¬ okR a r) : P = setL l := by
  obtain ⟨h1, h2, _⟩ := set_spec l hl
  refine okl_ext h.ok h1 fun x => ?_
  rw [h.mem, h2]
  constructor
  · exact fun h => h.1
  · rintro ⟨r, hr, h3, h4⟩
    refine ⟨⟨r, hr, h3, h4⟩, ?_⟩
    rcases Nat.lt_or_ge x a with hx | hx
    · exact hx
    · exact absurd ⟨by omega, by omega⟩ (hb r hr)
/-- What may make a run longer. -/
def ext (x : Rn) (t : Nat) : Prop := x.1 ≤ x.2 ∧ t < x.2 ∧ (x.1 ≤ t ∨ x.1 = t + 1)
structure GrowSt (l : List Rn) (a f t : Nat) : Prop where
  le : f ≤ t
  lt : t < two64
  from_ : a ≤ f
  all : ∀ x, f ≤ x → x ≤ t → memR l x
  none_ : ∀ x, a ≤ x → x < f → ¬ memR l x
theorem grow_start {l : List Rn} {a : Nat} {q : Rn} (hq : q ∈ l) (ho : okR a q) (hm : ∀ r ∈ l, okR a r → q.1 ≤ r.1) (hl : ∀ q ∈ l, q.1 < two64 ∧ q.2 < two64) : GrowSt l a (max q.1 a) q.2 where
  le := by have := ho.1; have := ho.2; omega
  lt := (hl q hq).2
  from_ := by omega
  all := fun x h1 h2 => ⟨q, hq, by omega, h2⟩
  none_ := fun x h1 h2 => by
    rintro ⟨r, hr, h3, h4⟩
    have := hm r hr ⟨by omega, by omega⟩
    omega
theorem GrowSt.grow {l : List Rn} {a f t : Nat} (h : GrowSt l a f t) {x : Rn} (hx : x ∈ l) (hl : ∀ q ∈ l, q.1 < two64 ∧ q.2 < two64) (he : ext x t) : GrowSt l a f x.2 where
  le := by have := h.le; have := he.2.1; omega
  lt := (hl x hx).2
  from_ := h.from_
  all := fun y h1 h2 => by
    rcases Nat.lt_or_ge t y with hy | hy
    · have := he.2.2
      exact ⟨x, hx, by omega, h2⟩
    · exact h.all y h1 hy
  none_ := h.none_
def closed3 (l : List Rn) (t : Nat) : Prop := ∀ x ∈ l, ¬ ext x t
theorem closed_not {l : List Rn} {t : Nat} (h : closed3 l t) : ¬ memR l (t + 1) := by
  rintro ⟨r, hr, h1, h2⟩
  exact h r hr ⟨by omega, by omega, by omega⟩
theorem PlainSt.step {l P : List Rn} {a f t : Nat} (h : PlainSt l a P) (hg : GrowSt l a f t) :
    Okl (P ++ [(f, t)]) ∧ (∀ x, memR (P ++ [(f, t)]) x ↔ memR l x ∧ x ≤ t) := by
  have hle := hg.le
  have hlt := hg.lt
  have hfr := hg.from_
  refine ⟨⟨canon_snoc h.ok.can hg.le (fun p hp => ?_), fun q hq => ?_⟩, fun x => ?_⟩
  · have h1 := h.low p hp
    show p.2 + 1 < f
    rcases h.gap with hP | hP
    · rw [hP] at hp; cases hp
    · have h2 := hg.all f (Nat.le_refl _) hg.le
      have : f ≠ a := fun e => hP (e ▸ h2)
      omega
  · rcases List.mem_append.1 hq with hq | hq
    · exact h.ok.lt q hq
    · rw [List.mem_singleton] at hq
      subst hq
      exact ⟨by show f < two64; omega, hg.lt⟩
  · rw [memR_app, memR_one, h.mem]
    constructor
    · rintro (⟨h1, h2⟩ | ⟨h1, h2⟩)
      · exact ⟨h1, by omega⟩
      · exact ⟨hg.all x h1 h2, h2⟩
    · rintro ⟨h1, h2⟩
      rcases Nat.lt_or_ge x a with hx | hx
      · exact .inl ⟨h1, hx⟩
      · right
        refine ⟨?_, h2⟩
        rcases Nat.lt_or_ge x f with hxf | hxf
        · exact absurd h1 (hg.none_ x hx hxf)
        · exact hxf
theorem PlainSt.next {l P : List Rn} {a f t : Nat} (h : PlainSt l a P) (hg : GrowSt l a f t) (hc : closed3 l t) (ht : t + 1 < two64) : PlainSt l (t + 1) (P ++ [(f, t)]) := by
  obtain ⟨h1, h2⟩ := h.step hg
  have := hg.from_
  have := hg.le
  refine ⟨ht, h1, fun x => by rw [h2]; constructor <;> (rintro ⟨h3, h4⟩; exact ⟨h3, by omega⟩), fun r hr => ?_, .inr (closed_not hc)⟩
  rcases List.mem_append.1 hr with hr | hr
  · have := h.low r hr; omega
  · rw [List.mem_singleton] at hr
    subst hr
    show t < t + 1
    omega
theorem PlainSt.last {l P : List Rn} {a f t : Nat} (h : PlainSt l a P) (hl : ∀ q ∈ l, q.1 < two64 ∧ q.2 < two64) (hg : GrowSt l a f t) (ht : t = two64 - 1) : P ++ [(f, t)] = setL l := by
  obtain ⟨h1, h2⟩ := h.step hg
  obtain ⟨k1, k2, _⟩ := set_spec l hl
  refine okl_ext h1 k1 fun x => ?_
  rw [h2, k2]
  constructor
  · exact fun h => h.1
  · rintro ⟨r, hr, h3, h4⟩
    have := (hl r hr).2
    exact ⟨⟨r, hr, h3, h4⟩, by omega⟩
end Go.Proofs.Ytjgkfoldbnjpeaa
