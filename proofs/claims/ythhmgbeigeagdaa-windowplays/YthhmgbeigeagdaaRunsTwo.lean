/-
  TWO CELLS that are made, sets that are made, and stores into the cells, in whatever order; CONTRACTS over that: Below, From. A bundle's further contracts: the reference's Less.
  No statement is proved here.
-/
import Derived.Test.YthhmgbeigeagdaaRunsBun
namespace Go.Proofs.Ythhmgbeigeagdaa
open Go.RowKit

structure J2 (wz : World) (x1 x2 : Option (Nat × Value)) (qs : List Sq) (W : World) : Prop where
  bel : Below wz.heap.size wz W
  c1 : ∀ p, x1 = some p → W.heap[p.1]? = some (.cells #[p.2] 28 (0, 0)) ∧ wz.heap.size ≤ p.1
  c2 : ∀ p, x2 = some p → W.heap[p.1]? = some (.cells #[p.2] 28 (0, 0)) ∧ wz.heap.size ≤ p.1
  ne : ∀ p q, x1 = some p → x2 = some q → p.1 ≠ q.1
  sets : ∀ q ∈ qs, SqIn W q
  far1 : ∀ q ∈ qs, ∀ p, x1 = some p → ∀ b o, q.A = some ⟨b, o, none⟩ → b ≠ p.1
  far2 : ∀ q ∈ qs, ∀ p, x2 = some p → ∀ b o, q.A = some ⟨b, o, none⟩ → b ≠ p.1
section
variable {wz W W' : World} {x1 x2 : Option (Nat × Value)} {qs : List Sq}
theorem row_lt {W : World} {X : Nat} {o : Obj} (h : W.heap[X]? = some o) : X < W.heap.size := (Array.getElem?_eq_some_iff.1 h).1
theorem J2.start (wz : World) : J2 wz none none [] wz.drew :=
  ⟨(Below.refl _ _).drew, fun _ h => (by cases h), fun _ h => (by cases h), fun _ _ h => (by cases h), fun _ h => (by cases h), fun _ h => (by cases h), fun _ h => (by cases h)⟩
theorem J2.next (h : J2 wz x1 x2 qs W) (hb : Below W.heap.size W W') : J2 wz x1 x2 qs W' :=
  ⟨h.bel.trans (hb.mono h.bel.size), fun p hp => ⟨(hb.block _ (row_lt (h.c1 p hp).1)).trans (h.c1 p hp).1, (h.c1 p hp).2⟩, fun p hp => ⟨(hb.block _ (row_lt (h.c2 p hp).1)).trans (h.c2 p hp).1, (h.c2 p hp).2⟩, h.ne,
    fun q hq => ⟨(h.sets q hq).1.on hb (Nat.le_refl _), (h.sets q hq).2⟩, h.far1, h.far2⟩
theorem J2.alloc1 (h : J2 wz none x2 qs W) : J2 wz (some (W.heap.size, .slice none 0 0)) x2 qs (W.alloc (.cells #[.slice none 0 0] 28)) := by
  have h2 := h.next (below_box W (.cells #[.slice none 0 0] 28))
  refine ⟨h2.bel, fun p hp => ?_, h2.c2, fun p q hp hq => ?_, h2.sets, fun q hq p hp b o e => ?_, h2.far2⟩
  · injection hp with hp
    subst hp
    exact ⟨heap_alloc_new W _, h.bel.size⟩
  · injection hp with hp
    subst hp
    have := row_lt (h.c2 q hq).1
    show W.heap.size ≠ q.1
    omega
  · injection hp with hp
    subst hp
    have := (h.sets q hq).1.lies b o e
    show b ≠ W.heap.size
    omega
theorem J2.alloc2 (h : J2 wz x1 none qs W) : J2 wz x1 (some (W.heap.size, .slice none 0 0)) qs (W.alloc (.cells #[.slice none 0 0] 28)) := by
  have h2 := h.next (below_box W (.cells #[.slice none 0 0] 28))
  refine ⟨h2.bel, h2.c1, fun p hp => ?_, fun p q hp hq => ?_, h2.sets, h2.far1, fun q hq p hp b o e => ?_⟩
  · injection hp with hp
    subst hp
    exact ⟨heap_alloc_new W _, h.bel.size⟩
  · injection hq with hq
    subst hq
    have := row_lt (h.c1 p hp).1
    show p.1 ≠ W.heap.size
    omega
  · injection hp with hp
    subst hp
    have := (h.sets q hq).1.lies b o e
    show b ≠ W.heap.size
    omega
theorem J2.call (h : J2 wz x1 x2 qs W) {A : Option Addr} {n c m : Nat} {L : List Rn} (hs : St W' W'.heap.size A n c L) (hk : Okl L) (hn : n ≤ m) (hp : ∀ b o, A = some ⟨b, o, none⟩ → b < wz.heap.size ∨ W.heap.size ≤ b) (hb : Below W.heap.size W W') : J2 wz x1 x2 (⟨A, n, c, L, m⟩ :: qs) W' := by
  have h2 := h.next hb
  refine ⟨h2.bel, h2.c1, h2.c2, h2.ne, fun q hq => ?_, fun q hq p hpp b o e => ?_, fun q hq p hpp b o e => ?_⟩
  · rcases List.mem_cons.1 hq with rfl | hq
    · exact ⟨hs, hk, hn⟩
    · exact h2.sets q hq
  · rcases List.mem_cons.1 hq with rfl | hq
    · have h3 := hp b o e
      have h4 := (h.c1 p hpp).2
      have h5 := row_lt (h.c1 p hpp).1
      omega
    · exact h2.far1 q hq p hpp b o e
  · rcases List.mem_cons.1 hq with rfl | hq
    · have h3 := hp b o e
      have h4 := (h.c2 p hpp).2
      have h5 := row_lt (h.c2 p hpp).1
      omega
    · exact h2.far2 q hq p hpp b o e
theorem row_set {W : World} {X : Nat} {t : TypeId} {u : Value} (h : W.heap[X]? = some (.cells #[u] t (0, 0))) (v : Value) : (W.setCell ⟨X, 0, none⟩ v).heap[X]? = some (.cells #[v] t (0, 0)) := by
  simp [World.setCell, Array.getElem?_modify, h]
theorem row_off {W : World} {X Y : Nat} (v : Value) (h : Y ≠ X) : (W.setCell ⟨X, 0, none⟩ v).heap[Y]? = W.heap[Y]? := by
  simp [World.setCell, Array.getElem?_modify, Ne.symm h]
theorem sq_off {W : World} {X : Nat} {q : Sq} (h : SqIn W q) (hf : ∀ b o, q.A = some ⟨b, o, none⟩ → b ≠ X) (v : Value) : SqIn (W.setCell ⟨X, 0, none⟩ v) q := by
  have hz : W.heap.size ≤ (W.setCell ⟨X, 0, none⟩ v).heap.size := by simp [World.setCell]
  exact ⟨⟨(h.1.rs.off (p := ⟨X, 0, none⟩) hf _).more hz, fun b o e => Nat.lt_of_lt_of_le (h.1.lies b o e) hz⟩, h.2⟩
theorem J2.store1 {X : Nat} {u : Value} (h : J2 wz (some (X, u)) x2 qs W) (v : Value) : J2 wz (some (X, v)) x2 qs (W.setCell ⟨X, 0, none⟩ v) := by
  obtain ⟨h1, h2⟩ := h.c1 _ rfl
  refine ⟨h.bel.setCell h2 _, fun p hp => ?_, fun p hp => ?_, fun p q hp hq => ?_, fun q hq => sq_off (h.sets q hq) (h.far1 q hq _ rfl) v, fun q hq p hp => ?_, h.far2⟩
  · injection hp with hp
    subst hp
    exact ⟨row_set h1 v, h2⟩
  · exact ⟨(row_off v (Ne.symm (h.ne _ p rfl hp))).trans (h.c2 p hp).1, (h.c2 p hp).2⟩
  · injection hp with hp
    subst hp
    exact h.ne (X, u) q rfl hq
  · injection hp with hp
    subst hp
    exact h.far1 q hq (X, u) rfl
theorem J2.store2 {X : Nat} {u : Value} (h : J2 wz x1 (some (X, u)) qs W) (v : Value) : J2 wz x1 (some (X, v)) qs (W.setCell ⟨X, 0, none⟩ v) := by
  obtain ⟨h1, h2⟩ := h.c2 _ rfl
  refine ⟨h.bel.setCell h2 _, fun p hp => ?_, fun p hp => ?_, fun p q hp hq => ?_, fun q hq => sq_off (h.sets q hq) (h.far2 q hq _ rfl) v, h.far1, fun q hq p hp => ?_⟩
  · exact ⟨(row_off v (h.ne p _ hp rfl)).trans (h.c1 p hp).1, (h.c1 p hp).2⟩
  · injection hp with hp
    subst hp
    exact ⟨row_set h1 v, h2⟩
  · injection hq with hq
    subst hq
    exact h.ne p (X, u) hp rfl
  · injection hp with hp
    subst hp
    exact h.far2 q hq (X, u) rfl
theorem J2.cell1 {X : Nat} {u : Value} (h : J2 wz (some (X, u)) x2 qs W) : W.cell? ⟨X, 0, none⟩ = some u := by rw [cell_of_row W _ 0 _ _ _ (h.c1 _ rfl).1]; rfl
theorem J2.cell2 {X : Nat} {u : Value} (h : J2 wz x1 (some (X, u)) qs W) : W.cell? ⟨X, 0, none⟩ = some u := by rw [cell_of_row W _ 0 _ _ _ (h.c2 _ rfl).1]; rfl
theorem J2.frz1 {X : Nat} {u : Value} (h : J2 wz (some (X, u)) x2 qs W) : W.frozen? ⟨X, 0, none⟩ = false := frz_row (i := 0) (h.c1 _ rfl).1
theorem J2.frz2 {X : Nat} {u : Value} (h : J2 wz x1 (some (X, u)) qs W) : W.frozen? ⟨X, 0, none⟩ = false := frz_row (i := 0) (h.c2 _ rfl).1
theorem J2.old {X : Nat} {v : Value} (h : J2 wz x1 x2 qs W) (hc : wz.cell? ⟨X, 0, none⟩ = some v) : W.cell? ⟨X, 0, none⟩ = some v := (h.bel.cell (p := ⟨X, 0, none⟩) (World.block_lt_of_cell? wz _ hc)).trans hc
/-- A world is put aside for another that keeps as much. -/
theorem abs_K {K : Act → World → Prop} {t : Act} {W : World} {Q : World → Prop} (h : Q W) (k : ∀ wa, Q wa → K t wa) : K t W := k W h
theorem J2.bun {cs : List (Nat × Value)} {l r : List Sq} {w0 : World} {p q : Nat × Value} (h : J2 wz (some p) (some q) qs W) (hB : Bun cs l r w0 wz) : Bun (q :: p :: cs) (qs ++ l) r w0 W := by
  have h2 := hB.next h.bel
  refine ⟨fun c hc => ?_, fun s hs => ?_, h2.rows, h2.bel⟩
  · rcases List.mem_cons.1 hc with rfl | hc
    · exact h.cell2
    · rcases List.mem_cons.1 hc with rfl | hc
      · exact h.cell1
      · exact h2.cell c hc
  · rcases List.mem_append.1 hs with hs | hs
    · exact h.sets s hs
    · exact h2.sets s hs
end
/-- A set is handed back, and joins what was made. -/
def GivesJ (wz : World) (x1 x2 : Option (Nat × Value)) (qs : List Sq) (L : List Rn) (m : Nat) (e : Ending) (w' : World) : Prop :=
  ∃ A n c, e = .returned (.agg #[.slice A n c]) ∧ J2 wz x1 x2 (⟨A, n, c, L, m⟩ :: qs) w'
section
variable {cs : List (Nat × Value)} {l r : List Sq} {w0 wz W : World} {A A' : Option Addr} {n c n' c' m m' : Nat} {L L' : List Rn} {x1 x2 : Option (Nat × Value)} {qs : List Sq}
theorem below_j (h : Bun cs l r w0 wz) (hq : Sq.mk A n c L m ∈ l) (hJ : J2 wz x1 x2 qs W) (hm : m ≤ 900) (v : Nat) (hv : v < two64) :
    Calls Try.prog 39 #[.agg #[.slice A n c], .int .u64 (v : Int)] W (GivesJ wz x1 x2 qs (belowL L v) (m + 1)) := by
  obtain ⟨h1, h2, h3⟩ := (h.next hJ.bel).sets _ hq
  simp only at h1 h2 h3
  refine (below_any W A n c v L h1.rs h2 (by omega) hv).mono ?_
  rintro e w' ⟨A', n', c', rfl, hs, hp, hb⟩
  refine ⟨A', n', c', rfl, hJ.call hs (below_ok h2 hv) ?_ (fun b o e => (hp b o e).imp (fun h => by omega) id) hb⟩
  have := below_len h2 hv
  have := h1.rs.len
  have := hs.rs.len
  omega
theorem from_j (h : Bun cs l r w0 wz) (hq : Sq.mk A n c L m ∈ l) (hJ : J2 wz x1 x2 qs W) (hm : m ≤ 900) (v : Nat) (hv : v < two64) :
    Calls Try.prog 40 #[.agg #[.slice A n c], .int .u64 (v : Int)] W (GivesJ wz x1 x2 qs (fromL L v) (m + 1)) := by
  obtain ⟨h1, h2, h3⟩ := (h.next hJ.bel).sets _ hq
  obtain ⟨k1, _, _⟩ := h.sets _ hq
  simp only at h1 h2 h3 k1
  rcases v with _ | u
  · refine (from_any_zero W A n c).mono ?_
    rintro e w' ⟨rfl, hb⟩
    have hs := h1.on hb (Nat.le_refl _)
    exact ⟨A, n, c, rfl, hJ.call hs h2 (by omega) (fun b o e => .inl (k1.lies b o e)) hb⟩
  · refine (from_any_pos W A n c (u + 1) u L h1.rs h2 (by omega) hv rfl).mono ?_
    rintro e w' ⟨A', n', c', rfl, hs, hp, hb⟩
    refine ⟨A', n', c', rfl, hJ.call hs (from_ok h2 hv) ?_ (fun b o e => (hp b o e).imp (fun h => by omega) id) hb⟩
    have := from_len h2 hv
    have := h1.rs.len
    have := hs.rs.len
    omega
end
end Go.Proofs.Ythhmgbeigeagdaa
