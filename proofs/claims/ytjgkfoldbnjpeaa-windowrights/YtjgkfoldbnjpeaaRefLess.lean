/-
  CONTRACT of the reference's Less.
  No statement is proved here.
-/
import Derived.Test.YtjgkfoldbnjpeaaRefPlain
namespace Go.Proofs.Ytjgkfoldbnjpeaa
open Go.RowKit

/-! ### the mathematics of one pass -/
def cutR (x r : Rn) : List Rn :=
  if x.2 < r.1 ∨ r.2 < x.1 then [r] else (if r.1 < x.1 then [(r.1, x.1 - 1)] else []) ++ (if x.2 < r.2 then [(x.2 + 1, r.2)] else [])
theorem cutR_mem {x r : Rn} (hx : x.1 ≤ x.2) (y : Nat) : memR (cutR x r) y ↔ (r.1 ≤ y ∧ y ≤ r.2) ∧ ¬ (x.1 ≤ y ∧ y ≤ x.2) := by
  unfold cutR
  by_cases h1 : x.2 < r.1 ∨ r.2 < x.1
  · rw [if_pos h1, memR_one]
    omega
  · rw [if_neg h1, memR_app]
    by_cases h2 : r.1 < x.1
    · by_cases h3 : x.2 < r.2
      · rw [if_pos h2, if_pos h3, memR_one, memR_one]; simp only; omega
      · rw [if_pos h2, if_neg h3, memR_one]; simp only [memR_nil, or_false]; omega
    · by_cases h3 : x.2 < r.2
      · rw [if_neg h2, if_pos h3, memR_one]; simp only [memR_nil, false_or]; omega
      · rw [if_neg h2, if_neg h3]; simp only [memR_nil, or_false, false_iff]; omega
theorem cutR_in {x r q : Rn} (hr : r.1 ≤ r.2) (hq : q ∈ cutR x r) : r.1 ≤ q.1 ∧ q.1 ≤ q.2 ∧ q.2 ≤ r.2 := by
  unfold cutR at hq
  split at hq
  · rw [List.mem_singleton] at hq
    subst hq
    omega
  · rcases List.mem_append.1 hq with hq | hq
    · split at hq
      · rw [List.mem_singleton] at hq
        subst hq
        simp only
        omega
      · cases hq
    · split at hq
      · rw [List.mem_singleton] at hq
        subst hq
        simp only
        omega
      · cases hq
theorem cutR_can {x r : Rn} (hx : x.1 ≤ x.2) (hr : r.1 ≤ r.2) : Canon (cutR x r) := by
  refine ⟨?_, fun q hq => (cutR_in hr hq).2.1⟩
  unfold cutR
  split
  · exact List.pairwise_singleton _ _
  · by_cases h2 : r.1 < x.1 <;> by_cases h3 : x.2 < r.2 <;> simp [h2, h3] <;> omega
theorem cutR_len (x r : Rn) : (cutR x r).length ≤ 2 := by
  unfold cutR
  split
  · simp
  · split <;> split <;> simp
theorem app_can {L M : List Rn} (hL : Canon L) (hM : Canon M) (h : ∀ p ∈ L, ∀ q ∈ M, p.2 + 1 < q.1) : Canon (L ++ M) :=
  ⟨List.pairwise_append.2 ⟨hL.far, hM.far, h⟩, fun q hq => by
    rcases List.mem_append.1 hq with hq | hq
    · exact hL.ok q hq
    · exact hM.ok q hq⟩
def cutL (x : Rn) (P : List Rn) : List Rn := P.flatMap (cutR x)
theorem cutL_spec {x : Rn} (hx : x.1 ≤ x.2) : ∀ (P : List Rn), Canon P → Canon (cutL x P) ∧ (∀ y, memR (cutL x P) y ↔ memR P y ∧ ¬ (x.1 ≤ y ∧ y ≤ x.2)) ∧ ∀ q ∈ cutL x P, ∃ r ∈ P, r.1 ≤ q.1 ∧ q.1 ≤ q.2 ∧ q.2 ≤ r.2
  | [], _ => ⟨Canon.nil, fun y => by simp [cutL, memR_nil], fun q hq => (by cases hq)⟩
  | r :: P, h => by
    obtain ⟨h1, h2, h3⟩ := cutL_spec hx P h.tail
    have hr := h.ok r List.mem_cons_self
    have e : cutL x (r :: P) = cutR x r ++ cutL x P := rfl
    rw [e]
    refine ⟨app_can (cutR_can hx hr) h1 fun p hp q hq => ?_, fun y => ?_, fun q hq => ?_⟩
    · obtain ⟨k, hk, h4, _, _⟩ := h3 q hq
      have := (cutR_in hr hp).2.2
      have := (List.pairwise_cons.1 h.far).1 k hk
      omega
    · rw [memR_app, cutR_mem hx, h2, memR_cons]
      constructor
      · rintro (⟨h5, h6⟩ | ⟨h5, h6⟩)
        · exact ⟨.inl h5, h6⟩
        · exact ⟨.inr h5, h6⟩
      · rintro ⟨h5 | h5, h6⟩
        · exact .inl ⟨h5, h6⟩
        · exact .inr ⟨h5, h6⟩
    · rcases List.mem_append.1 hq with hq | hq
      · exact ⟨r, List.mem_cons_self, cutR_in hr hq⟩
      · obtain ⟨k, hk, h4⟩ := h3 q hq
        exact ⟨k, List.mem_cons_of_mem _ hk, h4⟩
theorem cutL_ok {x : Rn} (hx : x.1 ≤ x.2) {P : List Rn} (h : Okl P) : Okl (cutL x P) := by
  obtain ⟨h1, _, h3⟩ := cutL_spec hx P h.can
  refine ⟨h1, fun q hq => ?_⟩
  obtain ⟨r, hr, h4, h5, h6⟩ := h3 q hq
  have := h.lt r hr
  exact ⟨by omega, by omega⟩
/-- What is left behind the first k of what is taken away. -/
structure LeftSt (l m : List Rn) (k : Nat) (P : List Rn) : Prop where
  ok : Okl P
  mem : ∀ y, memR P y ↔ memR l y ∧ ¬ memR (m.take k) y
theorem LeftSt.start {l : List Rn} (m : List Rn) (h : ∀ q ∈ l, q.1 < two64 ∧ q.2 < two64) : LeftSt l m 0 (setL l) := by
  obtain ⟨h1, h2, _⟩ := set_spec l h
  exact ⟨h1, fun y => by rw [h2]; simp [memR_nil]⟩
theorem LeftSt.skip {l m P : List Rn} {k : Nat} {x : Rn} (h : LeftSt l m k P) (hx : m[k]? = some x) (hn : x.2 < x.1) : LeftSt l m (k + 1) P :=
  ⟨h.ok, fun y => by
    rw [h.mem, List.take_add_one, hx, memR_app]
    have : ¬ memR (some x).toList y := by
      rintro ⟨r, hr, h1, h2⟩
      simp at hr
      subst hr
      omega
    constructor
    · rintro ⟨h1, h2⟩
      exact ⟨h1, fun h => h.elim h2 this⟩
    · rintro ⟨h1, h2⟩
      exact ⟨h1, fun h => h2 (.inl h)⟩⟩
theorem LeftSt.cut {l m P : List Rn} {k : Nat} {x : Rn} (h : LeftSt l m k P) (hx : m[k]? = some x) (hle : x.1 ≤ x.2) : LeftSt l m (k + 1) (cutL x P) :=
  ⟨cutL_ok hle h.ok, fun y => by
    rw [(cutL_spec hle P h.ok.can).2.1, h.mem, List.take_add_one, hx, memR_app]
    have : memR (some x).toList y ↔ x.1 ≤ y ∧ y ≤ x.2 := memR_one
    rw [this]
    constructor
    · rintro ⟨⟨h1, h2⟩, h3⟩
      exact ⟨h1, fun h => h.elim h2 h3⟩
    · rintro ⟨h1, h2⟩
      exact ⟨⟨h1, fun h => h2 (.inl h)⟩, fun h => h2 (.inr h)⟩⟩
theorem LeftSt.done {l m P : List Rn} {k : Nat} (h : LeftSt l m k P) (hk : m.length ≤ k) (hl : ∀ q ∈ l, q.1 < two64 ∧ q.2 < two64) (hm : ∀ q ∈ m, q.1 < two64 ∧ q.2 < two64) : P = lessL (setL l) (setL m) := by
  obtain ⟨h1, h2, _⟩ := set_spec l hl
  obtain ⟨k1, k2, _⟩ := set_spec m hm
  refine okl_ext h.ok (less_ok h1 k1) fun y => ?_
  rw [h.mem, less_mem h1 k1, h2, k2, List.take_of_length_le hk]

/-! ### the walk -/
theorem rrun_src (w : World) (g : Nat) (hg : w.heap.size = g) (q : Rn) (x y : Int) (hx : x = (q.1 : Int)) (hy : y = (q.2 : Int)) :
    Src Try.prog 2 55 (.slice (some ⟨g, 0, none⟩) 1 1) 1 (rv q) (w.alloc (.cells #[.int .u64 x, .int .u64 y] 59)) := by
  subst hg hx hy
  exact (lit_sn w 59 (rv q) 1 2 rfl (by unfold maxLen; omega)).src Try.underlying55 (rv_one q)
/-- Within a round: what is gathered (a row of one's own), the run at hand in its cell X, nothing below base turned since w. -/
structure CutSt (w : World) (X base : Nat) (Al : Option Addr) (nl cl : Nat) (acc : List Rn) (r : Rn) (wr : World) : Prop where
  own : OwnP wr base Al nl cl acc
  far : Far X Al
  box : wr.heap[X]? = some (.cells #[.int .u64 (r.1 : Int), .int .u64 (r.2 : Int)] 59 (0, 0))
  bel : Below base w wr
  hX : base ≤ X
section
variable {w : World} {X base : Nat} {Al : Option Addr} {nl cl : Nat} {acc : List Rn} {r : Rn} {wr : World}
theorem CutSt.c0 (h : CutSt w X base Al nl cl acc r wr) : wr.cell? ⟨X, 0, none⟩ = some (.int .u64 (r.1 : Int)) := by rw [cell_of_row wr _ 0 _ _ _ h.box]; rfl
theorem CutSt.c1 (h : CutSt w X base Al nl cl acc r wr) : wr.cell? ⟨X, 1, none⟩ = some (.int .u64 (r.2 : Int)) := by rw [cell_of_row wr _ 1 _ _ _ h.box]; rfl
theorem CutSt.lt (h : CutSt w X base Al nl cl acc r wr) : X < wr.heap.size := World.block_lt_of_cell? wr _ h.c0
theorem CutSt.alloc (h : CutSt w X base Al nl cl acc r wr) (o : Obj) : CutSt w X base Al nl cl acc r (wr.alloc o) :=
  ⟨h.own.alloc o, h.far, ((below_box wr o).block _ h.lt).trans h.box, h.bel.trans ((below_box wr o).mono (Nat.le_trans h.hX (Nat.le_of_lt h.lt))), h.hX⟩
theorem CutSt.app {A3 : Option Addr} {c3 : Nat} {w3 : World} {q : Rn} (h : CutSt w X base Al nl cl acc r wr)
    (h2 : w3.ownsRow base 59 2 (.slice A3 (nl + 1) c3) (nl + 1) (rvs acc ++ rv q)) (h4 : Below base wr w3) (h5 : wr.grownBy w3 (if nl = cl then none else (Value.slice Al nl cl).ownBlock)) (h6 : A3 = Al ∨ ∃ b, A3 = some ⟨b, 0, none⟩ ∧ wr.heap.size ≤ b) :
    CutSt w X base A3 (nl + 1) c3 (acc ++ [q]) r w3 := by
  refine ⟨?_, h.far.app h.lt h6, (grown_keep h5 h.lt h.far).trans h.box, h.bel.trans h4, h.hX⟩
  rw [← rvs_one1, ← rvs_app] at h2
  exact h2
end
theorem cutL_succ {x r : Rn} {P : List Rn} {j : Nat} (h : P[j]? = some r) : cutL x (P.take (j + 1)) = cutL x (P.take j) ++ cutR x r := by
  unfold cutL
  rw [List.take_add_one, h, List.flatMap_append]
  simp
theorem cutL_len (x : Rn) (P : List Rn) (j : Nat) : (cutL x (P.take j)).length ≤ 2 * P.length := by
  have h : ∀ Q : List Rn, (cutL x Q).length ≤ 2 * Q.length := by
    intro Q
    induction Q with
    | nil => simp [cutL]
    | cons a Q ih =>
      have := cutR_len x a
      show (cutR x a ++ cutL x Q).length ≤ _
      rw [List.length_append, List.length_cons]
      omega
  have h1 := h (P.take j)
  rw [List.length_take] at h1
  omega
theorem LeftSt.len {l m P : List Rn} {k : Nat} (h : LeftSt l m k P) (hl : ∀ q ∈ l, q.1 < two64 ∧ q.2 < two64) (hm : ∀ q ∈ m, q.1 < two64 ∧ q.2 < two64) : P.length ≤ l.length + m.length := by
  obtain ⟨h1, h2, h3⟩ := set_spec l hl
  obtain ⟨k1, k2, k3⟩ := set_spec (m.take k) (fun q hq => hm q (List.mem_of_mem_take hq))
  have e : P = lessL (setL l) (setL (m.take k)) := okl_ext h.ok (less_ok h1 k1) fun y => by rw [h.mem, less_mem h1 k1, h2, k2]
  rw [e]
  have h4 := less_len (t := setL (m.take k)) h1
  rw [List.length_take] at k3
  omega
def RLessRel (w : World) (l m : List Rn) (gk : Nat) (vo vi : Value) (wr : World) : Prop :=
  ∃ (k : Nat) (A : Option Addr) (n c : Nat) (P : List Rn), gk + k = m.length ∧ vo = .slice A n c ∧ vi = .int .i64 (k : Int) ∧ Rs wr wr.heap.size A n c P ∧ LeftSt l m k P ∧ Below w.heap.size w wr
def RCutRel (w : World) (x : Rn) (P : List Rn) (gk : Nat) (vo vi : Value) (wr : World) : Prop :=
  ∃ (j : Nat) (A : Option Addr) (n c : Nat), gk + j = P.length ∧ vo = .slice A n c ∧ vi = .int .i64 (j : Int) ∧ OwnP wr w.heap.size A n c (cutL x (P.take j)) ∧ Below w.heap.size w wr
end Go.Proofs.Ytjgkfoldbnjpeaa
