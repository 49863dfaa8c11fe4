/-
  A BUNDLE of sets and cells that stay while calls only make new memory; CONTRACTS over it: Union, Less, Same, Below, From, Span, Has, Count, Runs.
  No statement is proved here.
-/
import Derived.Test.YthhmgbeigeagdaaRunsAwake
import Derived.Test.YthhmgbeigeagdaaRunsFacts
import Derived.Test.YthhmgbeigeagdaaRunsMake
namespace Go.Proofs.Ythhmgbeigeagdaa
open Go.RowKit

/-- A set: where its row lies, what it reads, a bound of its runs. -/
structure Sq where
  A : Option Addr
  n : Nat
  c : Nat
  L : List Rn
  m : Nat
def SqIn (w : World) (q : Sq) : Prop := St w w.heap.size q.A q.n q.c q.L ∧ Okl q.L ∧ q.n ≤ q.m
def RqIn (w : World) (q : Sq) : Prop := Rs w w.heap.size q.A q.n q.c q.L ∧ q.n ≤ q.m
/-- Cells (by their blocks), sets and rows of runs, in w; nothing below w0's size has turned since w0. -/
structure Bun (cs : List (Nat × Value)) (l r : List Sq) (w0 w : World) : Prop where
  cell : ∀ c ∈ cs, w.cell? ⟨c.1, 0, none⟩ = some c.2
  sets : ∀ q ∈ l, SqIn w q
  rows : ∀ q ∈ r, RqIn w q
  bel : Below w0.heap.size w0 w
section
variable {cs : List (Nat × Value)} {l r : List Sq} {w0 w w' : World}
theorem Bun.next (h : Bun cs l r w0 w) (hb : Below w.heap.size w w') : Bun cs l r w0 w' :=
  ⟨fun c hc => (hb.cell (p := ⟨c.1, 0, none⟩) (World.block_lt_of_cell? w _ (h.cell c hc))).trans (h.cell c hc), fun q hq => ⟨(h.sets q hq).1.on hb (Nat.le_refl _), (h.sets q hq).2⟩, fun q hq => ⟨(h.rows q hq).1.on hb (Nat.le_refl _), (h.rows q hq).2⟩, h.bel.trans (hb.mono h.bel.size)⟩
theorem Bun.drewN (h : Bun cs l r w0 w) (k : Nat) : Bun cs l r w0 (w.drewN k) := h.next (below_drewN (Below.refl _ _) k)
theorem Bun.add (h : Bun cs l r w0 w) {A : Option Addr} {n c m : Nat} {L : List Rn} (hs : St w w.heap.size A n c L) (hk : Okl L) (hn : n ≤ m) : Bun cs (⟨A, n, c, L, m⟩ :: l) r w0 w :=
  ⟨h.cell, fun q hq => by
    rcases List.mem_cons.1 hq with rfl | hq
    · exact ⟨hs, hk, hn⟩
    · exact h.sets q hq, h.rows, h.bel⟩
theorem Bun.addR (h : Bun cs l r w0 w) {A : Option Addr} {n c m : Nat} {L : List Rn} (hs : Rs w w.heap.size A n c L) (hn : n ≤ m) : Bun cs l (⟨A, n, c, L, m⟩ :: r) w0 w :=
  ⟨h.cell, h.sets, fun q hq => by
    rcases List.mem_cons.1 hq with rfl | hq
    · exact ⟨hs, hn⟩
    · exact h.rows q hq, h.bel⟩
theorem Bun.box (h : Bun cs l r w0 w) (v : Value) (t : TypeId) : Bun ((w.heap.size, v) :: cs) l r w0 (w.alloc (.cells #[v] t)) :=
  ⟨fun c hc => by
    rcases List.mem_cons.1 hc with rfl | hc
    · exact cell_last w _ _ _ 0 rfl
    · exact (h.next (below_box w _)).cell c hc, (h.next (below_box w _)).sets, (h.next (below_box w _)).rows, (h.next (below_box w _)).bel⟩
theorem Bun.start (w : World) : Bun [] [] [] w w := ⟨fun c hc => (by cases hc), fun q hq => (by cases hq), fun q hq => (by cases hq), Below.refl _ _⟩
end
/-- A set is handed back, and joins the bundle. -/
def GivesS (cs : List (Nat × Value)) (l r : List Sq) (w0 : World) (L : List Rn) (m : Nat) (e : Ending) (w' : World) : Prop :=
  ∃ A n c, e = .returned (.agg #[.slice A n c]) ∧ Bun cs (⟨A, n, c, L, m⟩ :: l) r w0 w'
/-- A row of runs is handed back, and joins the bundle. -/
def GivesR (cs : List (Nat × Value)) (l r : List Sq) (w0 : World) (L : List Rn) (m : Nat) (e : Ending) (w' : World) : Prop :=
  ∃ A n c, e = .returned (.slice A n c) ∧ Bun cs l (⟨A, n, c, L, m⟩ :: r) w0 w'
/-- A value is handed back; the bundle stays. -/
def Gives (cs : List (Nat × Value)) (l r : List Sq) (w0 : World) (v : Value) (e : Ending) (w' : World) : Prop := e = .returned v ∧ Bun cs l r w0 w'
section
variable {cs : List (Nat × Value)} {l r : List Sq} {w0 w : World} {A A' : Option Addr} {n c n' c' m m' : Nat} {L L' : List Rn}
theorem gives_of (h : Bun cs l r w0 w) {B : Nat} {e : Ending} {w' : World} (hs : SaysS w B L e w') (hk : Okl L) (hm : L.length ≤ m) : GivesS cs l r w0 L m e w' := by
  obtain ⟨A, n, c, he, hst, _, hb⟩ := hs
  exact ⟨A, n, c, he, (h.next hb).add hst hk (by rw [← hst.rs.len]; exact hm)⟩
theorem union_b (h : Bun cs l r w0 w) (hq : Sq.mk A n c L m ∈ l) (hq' : Sq.mk A' n' c' L' m' ∈ l) (hm : m + m' ≤ 900) :
    Calls Try.prog 44 #[.agg #[.slice A n c], .agg #[.slice A' n' c']] w (GivesS cs l r w0 (unionL L L') (m + m')) := by
  obtain ⟨h1, h2, h3⟩ := h.sets _ hq
  obtain ⟨k1, k2, k3⟩ := h.sets _ hq'
  simp only at h1 h2 h3 k1 k2 k3
  refine (union_any w A A' n c n' c' L L' h1.rs k1.rs (by omega)).mono fun e w' hs => gives_of h hs (union_ok h2 k2) ?_
  have := union_len h2 k2
  have := h1.rs.len
  have := k1.rs.len
  omega
theorem less_b (h : Bun cs l r w0 w) (hq : Sq.mk A n c L m ∈ l) (hq' : Sq.mk A' n' c' L' m' ∈ l) (hm : m ≤ 900) (hm' : m' ≤ 900) :
    Calls Try.prog 43 #[.agg #[.slice A n c], .agg #[.slice A' n' c']] w (GivesS cs l r w0 (lessL L L') (m + m')) := by
  obtain ⟨h1, h2, h3⟩ := h.sets _ hq
  obtain ⟨k1, k2, k3⟩ := h.sets _ hq'
  simp only at h1 h2 h3 k1 k2 k3
  refine (rless_any w A A' n c n' c' L L' h1.rs k1.rs h2 k2 (by omega) (by omega)).mono fun e w' hs => gives_of h hs (less_ok h2 k2) ?_
  have := less_len (t := L') h2
  have := h1.rs.len
  have := k1.rs.len
  omega
theorem same_b (h : Bun cs l r w0 w) (hq : Sq.mk A n c L m ∈ l) (hq' : Sq.mk A' n' c' L' m' ∈ l) :
    Calls Try.prog 34 #[.agg #[.slice A n c], .agg #[.slice A' n' c']] w (Gives cs l r w0 (.bool (sameR L L'))) :=
  (setSame_any w A A' n c n' c' L L' (h.sets _ hq).1.rs (h.sets _ hq').1.rs).mono fun _ _ ⟨he, hb⟩ => ⟨he, h.next hb⟩
theorem same_yes (h : Bun cs l r w0 w) (hq : Sq.mk A n c L m ∈ l) (hq' : Sq.mk A' n' c' L' m' ∈ l) (he : L = L') :
    Calls Try.prog 34 #[.agg #[.slice A n c], .agg #[.slice A' n' c']] w (Gives cs l r w0 (.bool true)) := by
  have := same_b h hq hq'
  rwa [show sameR L L' = true from by unfold sameR; rw [decide_eq_true_iff]; exact he] at this
theorem below_b (h : Bun cs l r w0 w) (hq : Sq.mk A n c L m ∈ l) (hm : m ≤ 900) (v : Nat) (hv : v < two64) :
    Calls Try.prog 39 #[.agg #[.slice A n c], .int .u64 (v : Int)] w (GivesS cs l r w0 (belowL L v) (m + 1)) := by
  obtain ⟨h1, h2, h3⟩ := h.sets _ hq
  simp only at h1 h2 h3
  refine (below_any w A n c v L h1.rs h2 (by omega) hv).mono fun e w' hs => gives_of h hs (below_ok h2 hv) ?_
  have := below_len h2 hv
  have := h1.rs.len
  omega
theorem from_b (h : Bun cs l r w0 w) (hq : Sq.mk A n c L m ∈ l) (hm : m ≤ 900) (v : Nat) (hv : v < two64) :
    Calls Try.prog 40 #[.agg #[.slice A n c], .int .u64 (v : Int)] w (GivesS cs l r w0 (fromL L v) (m + 1)) := by
  obtain ⟨h1, h2, h3⟩ := h.sets _ hq
  simp only at h1 h2 h3
  refine (from_any w A n c v L h1 h2 (by omega) hv).mono fun e w' hs => gives_of h hs (from_ok h2 hv) ?_
  have := from_len h2 hv
  have := h1.rs.len
  omega
theorem span_b (h : Bun cs l r w0 w) (hq : Sq.mk A n c L m ∈ l) (hm : m ≤ 500) (f t : Nat) (hf : f < two64) (ht : t < two64) :
    Calls Try.prog 33 #[.agg #[.slice A n c], .int .u64 (f : Int), .int .u64 (t : Int)] w (GivesS cs l r w0 (spanL L f t) (m + 1)) := by
  obtain ⟨h1, h2, h3⟩ := h.sets _ hq
  simp only at h1 h2 h3
  refine (span_any w w.heap.size A n c f t L h1 (Nat.le_refl _) hf ht (by omega)).mono fun e w' hs => gives_of h hs (span_ok h2 hf ht) ?_
  have := span_len h2 hf ht
  have := h1.rs.len
  omega
theorem add_b (h : Bun cs l r w0 w) (hq : Sq.mk A n c L m ∈ l) (hm : m ≤ 500) (f : Nat) (hf : f < two64) :
    Calls Try.prog 31 #[.agg #[.slice A n c], .int .u64 (f : Int)] w (GivesS cs l r w0 (spanL L f f) (m + 1)) := by
  obtain ⟨h1, h2, h3⟩ := h.sets _ hq
  simp only at h1 h2 h3
  refine (add_any w w.heap.size A n c f L h1 (Nat.le_refl _) hf (by omega)).mono fun e w' hs => gives_of h hs (span_ok h2 hf hf) ?_
  have := span_len h2 hf hf
  have := h1.rs.len
  omega
theorem has_b (h : Bun cs l r w0 w) (hq : Sq.mk A n c L m ∈ l) (hm : m ≤ 900) (v : Nat) :
    Calls Try.prog 28 #[.agg #[.slice A n c], .int .u64 (v : Int)] w (Gives cs l r w0 (.bool (hasL L v))) := by
  obtain ⟨h1, h2, h3⟩ := h.sets _ hq
  simp only at h1 h2 h3
  exact (has_any w A n c v L h1.rs h2.can (by omega)).mono fun _ _ ⟨he, hb⟩ => ⟨he, h.next hb⟩
theorem gap_b (h : Bun cs l r w0 w) (hq : Sq.mk A n c L m ∈ l) (hm : m ≤ 900) (v : Nat) :
    Calls Try.prog 42 #[.agg #[.slice A n c], .int .u64 (v : Int)] w (Gives cs l r w0 (.tuple #[.int .u64 ((gapL L v).1 : Int), .bool (gapL L v).2])) := by
  obtain ⟨h1, h2, h3⟩ := h.sets _ hq
  simp only at h1 h2 h3
  exact (gap_any w A n c v L h1.rs h2.can (by omega)).mono fun _ _ ⟨he, hb⟩ => ⟨he, h.next hb⟩
theorem count_b (h : Bun cs l r w0 w) (hq : Sq.mk A n c L m ∈ l) :
    Calls Try.prog 22 #[.agg #[.slice A n c]] w (Gives cs l r w0 (.int .u64 (cntL L : Int))) :=
  (count_any w A n c L (h.sets _ hq).1.rs (h.sets _ hq).2.1.can).mono fun _ _ ⟨he, hb⟩ => ⟨he, h.next hb⟩
/-! ### rows -/
theorem givesR_of (h : Bun cs l r w0 w) {e : Ending} {w' : World} (hs : SaysR w L e w') (hm : L.length ≤ m) : GivesR cs l r w0 L m e w' := by
  obtain ⟨A, n, c, he, hst, hb⟩ := hs
  exact ⟨A, n, c, he, (h.next hb).addR hst (by rw [← hst.len]; exact hm)⟩
theorem runs_b (h : Bun cs l r w0 w) (hq : Sq.mk A n c L m ∈ l) (hm : m ≤ 1000) : Calls Try.prog 24 #[.agg #[.slice A n c]] w (GivesR cs l r w0 L m) := by
  obtain ⟨h1, h2, h3⟩ := h.sets _ hq
  simp only at h1 h2 h3
  refine (runs_any w A n c L h1.rs (by omega)).mono ?_
  rintro e w' ⟨A', n', c', rfl, hown, hb⟩
  have hr := Rs.of_own hown h1.rs.lt
  exact ⟨A', n', c', rfl, (h.next hb).addR hr (by rw [← hr.len, h1.rs.len]; exact h3)⟩
/-- Make of runs that are a set's. -/
def GivesM (cs : List (Nat × Value)) (l r : List Sq) (w0 : World) (L : List Rn) (m : Nat) (e : Ending) (w' : World) : Prop :=
  ∃ A n c, e = .returned (.tuple #[.agg #[.slice A n c], .bool true]) ∧ Bun cs (⟨A, n, c, L, m⟩ :: l) r w0 w'
theorem Bun.few (h : Bun cs l r w0 w) (hq : Sq.mk A n c L m ∈ r) : Bun cs l (⟨A, min n 20, c, L.take (min n 20), 20⟩ :: r) w0 w := by
  obtain ⟨h1, _⟩ := h.rows _ hq
  simp only at h1
  have h2 := h1.sn.le
  exact h.addR (h1.take (m := min n 20) (d := c) (by omega) (by omega) (Nat.le_refl _)) (by omega)
theorem Bun.lt (h : Bun cs l r w0 w) (hq : Sq.mk A n c L m ∈ r) : ∀ q ∈ L, q.1 < two64 ∧ q.2 < two64 := (h.rows _ hq).1.lt
end
end Go.Proofs.Ythhmgbeigeagdaa
