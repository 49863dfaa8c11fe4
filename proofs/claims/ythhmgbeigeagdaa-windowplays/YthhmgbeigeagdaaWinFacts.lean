/-
  MATHEMATICS of windows, on: told apart by what is done; counts; the document's example.
  No statement is proved here.
-/
import Derived.Test.YthhmgbeigeagdaaWinRight
namespace Go.Proofs.Ythhmgbeigeagdaa

theorem Wn.Ok.low_no {W : Wn} (h : W.Ok) : ¬ W.D (W.low + 1) := by
  rintro (h1 | h1)
  · omega
  · have := (h.lo _ h1).1; omega
theorem Wn.Ok.low_eq {W : Wn} (h : W.Ok) {a : Nat} (h1 : ∀ x, x ≤ a → W.D x) (h2 : ¬ W.D (a + 1)) : W.low = a := by
  rcases Nat.lt_trichotomy W.low a with h3 | h3 | h3
  · exact absurd (h1 (W.low + 1) (by omega)) h.low_no
  · exact h3
  · exact absurd (.inl (by omega)) h2
theorem Wn.Ok.ext {V W : Wn} (hV : V.Ok) (hW : W.Ok) (hw : V.width = W.width) (h : ∀ x, V.D x ↔ W.D x) : V = W := by
  have hl : V.low = W.low := hV.low_eq (fun x hx => (h x).2 (.inl hx)) (fun hd => hW.low_no ((h _).1 hd))
  have hL : V.L = W.L := okl_ext hV.ok hW.ok fun x => by
    have hx := h x
    constructor
    · intro hm
      rcases hx.1 (.inr hm) with h1 | h1
      · have := (hV.lo x hm).1; omega
      · exact h1
    · intro hm
      rcases hx.2 (.inr hm) with h1 | h1
      · have := (hW.lo x hm).1; omega
      · exact h1
  cases V
  cases W
  simp only at hl hw hL
  rw [hl, hw, hL]
theorem new_ok {n : Nat} (h1 : 1 ≤ n) (h2 : n ≤ 1024) : (newW n).Ok := ⟨h1, h2, by show 0 < 4611686018427387904; omega, Okl.nil, fun x hx => absurd hx (memR_nil x)⟩
theorem new_D (n x : Nat) : (newW n).D x ↔ x = 0 := by
  unfold Wn.D newW
  simp [memR_nil]
theorem put_D {W : Wn} (h : W.Ok) (hl : W.low < 4611686018427380000) {n : Nat} (hn : n ≤ W.low + W.width) (x : Nat) : (putW W n).D x ↔ W.D x ∨ x = n := by
  have h64 : n < two64 := by have := h.w2; unfold two64; omega
  rw [(put_spec h hl n h64).2.1 x, takesW_iff h.ok]
  constructor
  · rintro (h1 | ⟨_, h1⟩)
    · exact .inl h1
    · exact .inr h1
  · rintro (h1 | h1)
    · exact .inl h1
    · subst h1
      by_cases hd : W.D x
      · exact .inl hd
      · exact .inr ⟨⟨hn, hd⟩, rfl⟩
theorem cnt_zero {L : List Rn} (h : Okl L) (hm : ∀ x, ¬ memR L x) : cntL L = 0 := by
  have : L = [] := okl_ext h Okl.nil fun x => ⟨fun h => absurd h (hm x), fun h => absurd h (memR_nil x)⟩
  rw [this]
  decide +kernel
theorem cnt_pos {L : List Rn} (h : Okl L) {x : Nat} (hm : memR L x) : cntL L ≠ 0 := by
  have hne : L ≠ [] := fun e => by rw [e] at hm; exact memR_nil x hm
  have := card_pos hne
  rw [cnt_card h]
  unfold two64
  split <;> omega
theorem right_iff {W : Wn} (hk : Okl W.L) : rightW W = true ↔ W.Ok := by
  unfold rightW
  simp only [Bool.and_eq_true, decide_eq_true_iff]
  constructor
  · rintro ⟨h1, h2, h3, h4, h5⟩
    refine ⟨h1, h2, h3, hk, fun x hx => ?_⟩
    have e1 : W.low + 2 < two64 := by unfold two64; omega
    have e2 : W.low + W.width + 1 < two64 := by unfold two64; omega
    constructor
    · rcases Nat.lt_or_ge (W.low + 1) x with h6 | h6
      · exact h6
      · exact absurd h4 (cnt_pos (below_ok hk e1) ((below_mem hk e1 x).2 ⟨hx, by omega⟩))
    · rcases Nat.lt_or_ge (W.low + W.width) x with h6 | h6
      · exact absurd h5 (cnt_pos (from_ok hk e2) ((from_mem hk e2 x).2 ⟨hx, by omega⟩))
      · exact h6
  · intro h
    have := h.w2
    have := h.low
    have e1 : W.low + 2 < two64 := by unfold two64; omega
    have e2 : W.low + W.width + 1 < two64 := by unfold two64; omega
    refine ⟨h.w1, h.w2, h.low, cnt_zero (below_ok hk e1) fun x hx => ?_, cnt_zero (from_ok hk e2) fun x hx => ?_⟩
    · have h1 := (below_mem hk e1 x).1 hx
      have := (h.lo x h1.1).1
      omega
    · have h1 := (from_mem hk e2 x).1 hx
      have := (h.lo x h1.1).2
      omega
theorem Wn.Ok.cnt {W : Wn} (h : W.Ok) : cntL W.L = cardL W.L ∧ cntL W.L < W.width := by
  have h1 := h.card
  have h2 := h.w2
  rw [cnt_card h.ok, if_neg (by unfold two64; omega)]
  exact ⟨rfl, by omega⟩
/-- The document's example. -/
structure Ex15 (A B : Wn) : Prop where
  ok : A.Ok
  low : A.low = 2
  width : A.width = 4
  okB : B.Ok
  lowB : B.low = 4
  widthB : B.width = 4
theorem ex15 : (putW (newW 4) 2).Ok ∧ (putW (newW 4) 2).low ≤ 4 ∧ (putW (newW 4) 2).width = 4 ∧ (putW (putW (putW (newW 4) 2) 1) 4).Ok ∧ (putW (putW (putW (newW 4) 2) 1) 4).low ≤ 6 ∧ (putW (putW (putW (newW 4) 2) 1) 4).width = 4 ∧ Ex15 (putW (putW (newW 4) 2) 1) (skipW (putW (putW (putW (newW 4) 2) 1) 4) 4) := by
  have h0 := new_ok (n := 4) (by omega) (by omega)
  have l0 : (newW 4).low = 0 := rfl
  have w0 : (newW 4).width = 4 := rfl
  have b0 : (newW 4).low < 4611686018427380000 := by rw [l0]; omega
  obtain ⟨h1, _, _, l1, w1⟩ := put_spec h0 b0 2 (by unfold two64; omega)
  have d1 := put_D h0 b0 (n := 2) (by omega)
  rw [l0, w0] at l1
  rw [w0] at w1
  generalize putW (newW 4) 2 = W1 at *
  have b1 : W1.low < 4611686018427380000 := by omega
  have q1 : 1 ≤ W1.low + W1.width := by omega
  obtain ⟨h2, _, _, l2, w2⟩ := put_spec h1 b1 1 (by unfold two64; omega)
  have d2 := put_D h1 b1 q1
  rw [w1] at w2
  generalize putW W1 1 = W2 at *
  have D2 : ∀ x, W2.D x ↔ x ≤ 2 := fun x => by rw [d2, d1, new_D]; omega
  have low2 : W2.low = 2 := h2.low_eq (fun x hx => (D2 x).2 hx) (fun h => by have := (D2 _).1 h; omega)
  have b2 : W2.low < 4611686018427380000 := by omega
  obtain ⟨h3, _, _, l3, w3⟩ := put_spec h2 b2 4 (by unfold two64; omega)
  have d3 := put_D h2 b2 (n := 4) (by omega)
  rw [w2] at w3 l3
  generalize putW W2 4 = W3 at *
  have b3 : W3.low < 4611686018427380000 := by omega
  obtain ⟨h4, d4, _, l4, w4⟩ := skip_spec h3 b3 4 (by omega)
  generalize skipW W3 4 = W4 at *
  have D4 : ∀ x, W4.D x ↔ x ≤ 4 := fun x => by rw [d4, d3, D2]; omega
  have low4 : W4.low = 4 := h4.low_eq (fun x hx => (D4 x).2 hx) (fun h => by have := (D4 _).1 h; omega)
  exact ⟨h1, l1, w1, h3, by omega, w3, h2, low2, w2, h4, low4, w4.trans w3⟩
end Go.Proofs.Ythhmgbeigeagdaa
