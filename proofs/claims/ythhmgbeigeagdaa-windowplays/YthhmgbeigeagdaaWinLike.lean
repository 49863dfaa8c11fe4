/-
  MATHEMATICS of the reference's window (numbers in a list) beside a window.
  No statement is proved here.
-/
import Derived.Test.YthhmgbeigeagdaaWinMath
import Derived.Test.YthhmgbeigeagdaaRunsOf
namespace Go.Proofs.Ythhmgbeigeagdaa

/-- A window as the reference has it. -/
structure Wr where
  low : Nat
  width : Nat
  l : List Nat
def hadR (X : Wr) (k : Nat) : Bool := decide (k ∈ X.l) || decide (k ≤ X.low)
def takesR (X : Wr) (k : Nat) : Bool := decide (k ≤ X.low + X.width) && !hadR X k
/-- Y is X, its Low as great as it may be. -/
structure Closed (X Y : Wr) : Prop where
  width : Y.width = X.width
  le : X.low ≤ Y.low
  all : ∀ y, X.low < y → y ≤ Y.low → y ∈ X.l
  stop : Y.low + 1 ∉ X.l
  l : Y.l = X.l.filter (fun x => decide (Y.low < x))
structure Like (W : Wn) (X : Wr) : Prop where
  ok : W.Ok
  low : X.low = W.low
  width : X.width = W.width
  D : ∀ y, W.D y ↔ y ≤ X.low ∨ y ∈ X.l
  gt : ∀ y ∈ X.l, X.low < y
theorem Like.new {K : Nat} (h : (newW K).Ok) (hD : ∀ x, (newW K).D x ↔ x = 0) : Like (newW K) ⟨0, K, []⟩ := by
  refine ⟨h, rfl, rfl, fun y => ?_, fun y hy => by cases hy⟩
  rw [hD]
  simp
theorem Like.closed {W : Wn} {X Y : Wr} (hk : W.Ok) (hw : X.width = W.width) (hD : ∀ y, W.D y ↔ y ≤ X.low ∨ y ∈ X.l) (h : Closed X Y) : Like W Y := by
  have hle := h.le
  have d1 : ∀ y, y ≤ Y.low → W.D y := fun y hy => by
    rw [hD]
    rcases Nat.lt_or_ge X.low y with h1 | h1
    · exact .inr (h.all y h1 hy)
    · exact .inl h1
  have d2 : ¬ W.D (Y.low + 1) := fun h1 => by
    rcases (hD _).1 h1 with h2 | h2
    · omega
    · exact h.stop h2
  have e1 : W.D W.low := .inl (Nat.le_refl _)
  have e2 : ¬ W.D (W.low + 1) := fun h1 => by
    rcases h1 with h2 | h2
    · omega
    · have := (hk.lo _ h2).1
      omega
  have hlow : Y.low = W.low := by
    rcases Nat.lt_trichotomy Y.low W.low with h1 | h1 | h1
    · exact absurd (show W.D (Y.low + 1) from .inl h1) d2
    · exact h1
    · exact absurd (d1 _ h1) e2
  refine ⟨hk, hlow, h.width.trans hw, fun y => ?_, fun y hy => ?_⟩
  · constructor
    · intro h1
      rcases Nat.lt_or_ge Y.low y with h2 | h2
      · rcases (hD y).1 h1 with h3 | h3
        · omega
        · right
          rw [h.l, List.mem_filter]
          exact ⟨h3, by simpa using h2⟩
      · exact .inl h2
    · rintro (h1 | h1)
      · exact d1 y h1
      · rw [h.l, List.mem_filter] at h1
        exact (hD y).2 (.inr h1.1)
  · rw [h.l, List.mem_filter] at hy
    simpa using hy.2
section
variable {W : Wn} {X Y : Wr}
theorem Like.had (h : Like W X) (k : Nat) : hadW W k = hadR X k := by
  rw [Bool.eq_iff_iff, hadW_iff h.ok.ok, h.D]
  unfold hadR
  rw [Bool.or_eq_true, decide_eq_true_iff, decide_eq_true_iff]
  exact Or.comm
theorem Like.takes (h : Like W X) (k : Nat) : takesW W k = takesR X k := by
  unfold takesW takesR
  rw [h.had, h.low, h.width]
theorem Like.put (h : Like W X) (hl : W.low < 4611686018427380000) {k : Nat} (hk : k < two64) (ht : takesR X k = true) (hc : Closed ⟨X.low, X.width, X.l ++ [k]⟩ Y) : Like (putW W k) Y := by
  obtain ⟨k1, k2, _, _, k5⟩ := put_spec h.ok hl k hk
  refine Like.closed k1 (by show X.width = _; rw [k5, h.width]) (fun y => ?_) hc
  rw [k2, h.D, h.takes, ht]
  simp only [true_and, List.mem_append, List.mem_singleton, or_assoc]
theorem Like.put_no (h : Like W X) {k : Nat} (ht : takesR X k = false) : putW W k = W := by
  unfold putW
  rw [h.takes, ht]
  rfl
/-- Where Skip begins. -/
def skipLow (X : Wr) (b : Nat) : Nat := if 0 < b ∧ X.low < b - 1 then b - 1 else X.low
theorem Like.skip (h : Like W X) (hl : W.low < 4611686018427380000) {b : Nat} (hb : b < 4611686018427380000) (hc : Closed ⟨skipLow X b, X.width, X.l⟩ Y) : Like (skipW W b) Y := by
  obtain ⟨k1, k2, _, _, k5⟩ := skip_spec h.ok hl b hb
  refine Like.closed k1 (by show X.width = _; rw [k5, h.width]) (fun y => ?_) hc
  rw [k2, h.D]
  show _ ↔ y ≤ skipLow X b ∨ y ∈ X.l
  unfold skipLow
  split <;> rename_i h1
  · constructor
    · rintro ((h2 | h2) | h2)
      · left; omega
      · exact .inr h2
      · left; omega
    · rintro (h2 | h2)
      · right; omega
      · exact .inl (.inr h2)
  · constructor
    · rintro ((h2 | h2) | h2)
      · exact .inl h2
      · exact .inr h2
      · left; omega
    · rintro (h2 | h2)
      · exact .inl (.inl h2)
      · exact .inl (.inr h2)
theorem Like.mem (h : Like W X) (y : Nat) : memR W.L y ↔ y ∈ X.l := by
  have h1 := h.D y
  unfold Wn.D at h1
  have h2 := h.low
  constructor
  · intro h3
    have h4 := (h.ok.lo y h3).1
    rcases h1.1 (.inr h3) with h5 | h5
    · omega
    · exact h5
  · intro h3
    have h4 := h.gt y h3
    rcases h1.2 (.inr h3) with h5 | h5
    · omega
    · exact h5
theorem Like.lt (h : Like W X) : ∀ y ∈ X.l, y < two64 := fun y hy => by
  have h1 := (h.ok.lo y ((h.mem y).2 hy)).2
  have h2 := h.ok.w2
  have h3 := h.ok.low
  unfold two64
  omega
theorem Like.set (h : Like W X) : ofL X.l = W.L := okl_ext (of_ok h.lt) h.ok.ok fun y => by rw [of_mem, h.mem]
end
theorem Closed.len {X Y : Wr} (h : Closed X Y) : Y.l.length ≤ X.l.length := by
  rw [h.l]
  exact List.length_filter_le _ _
end Go.Proofs.Ythhmgbeigeagdaa
