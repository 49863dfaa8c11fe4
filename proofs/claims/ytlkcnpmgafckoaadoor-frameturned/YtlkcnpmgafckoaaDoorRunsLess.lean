/-
  CONTRACTS of outside, Less, Below, From.
  No statement is proved here.
-/
import Derived.Test.YtlkcnpmgafckoaaDoorRunsReach
namespace Go.Proofs.YtlkcnpmgafckoaaDoor
open Go.RowKit

/-- A row lies in another block than this. -/
def Far (X : Nat) (A : Option Addr) : Prop := ∀ p, A = some p → p.block ≠ X
theorem Far.app {w : World} {X : Nat} {A A' : Option Addr} (h : Far X A) (hX : X < w.heap.size) (hd : A' = A ∨ ∃ b, A' = some ⟨b, 0, none⟩ ∧ w.heap.size ≤ b) : Far X A' := by
  rcases hd with rfl | ⟨g, rfl, hg⟩
  · exact h
  · intro p e
    injection e with e
    subst e
    show g ≠ X
    omega
theorem Far.of_own {w : World} {base X : Nat} {A : Option Addr} {n c : Nat} {L : List Rn} (h : Own w base A n c L) (hX : w.heap.size ≤ X) : Far X A := by
  intro p e
  subst e
  rcases h.2 with ⟨hv, _⟩ | ⟨g', cap, cur, hv, hbg, hg, hnc, hcm, hcs, ht⟩
  · cases hv
  · have := (h.lt p.block (by simp [Value.ownBlock])).2
    omega
theorem Far.own {X : Nat} {A : Option Addr} {n c : Nat} (h : Far X A) : (Value.slice A n c).ownBlock = none ∨ (Value.slice A n c).ownBlock ≠ some X := by
  refine .inr fun hv => ?_
  rcases A with _ | p
  · simp [Value.ownBlock] at hv
  · exact h p rfl (by simpa [Value.ownBlock] using hv)
theorem pieces_nil (r : Rn) : piecesL r [] = [r] := rfl
theorem pieces_far {r h : Rn} {hs : List Rn} (h1 : r.2 < h.1) : piecesL r (h :: hs) = [r] := by rw [piecesL, if_pos h1]
theorem pieces_cut {r h : Rn} {hs : List Rn} (h1 : ¬ r.2 < h.1) (h2 : r.1 < h.1) (h3 : r.2 ≤ h.2) : piecesL r (h :: hs) = [(r.1, h.1 - 1)] := by rw [piecesL, if_neg h1, if_pos h2, if_pos h3]; rfl
theorem pieces_none {r h : Rn} {hs : List Rn} (h1 : ¬ r.2 < h.1) (h2 : ¬ r.1 < h.1) (h3 : r.2 ≤ h.2) : piecesL r (h :: hs) = [] := by rw [piecesL, if_neg h1, if_neg h2, if_pos h3]; rfl
theorem pieces_two {r h : Rn} {hs : List Rn} (h1 : ¬ r.2 < h.1) (h2 : r.1 < h.1) (h3 : ¬ r.2 ≤ h.2) : piecesL r (h :: hs) = [(r.1, h.1 - 1)] ++ piecesL (h.2 + 1, r.2) hs := by rw [piecesL, if_neg h1, if_pos h2, if_neg h3]
theorem pieces_on {r h : Rn} {hs : List Rn} (h1 : ¬ r.2 < h.1) (h2 : ¬ r.1 < h.1) (h3 : ¬ r.2 ≤ h.2) : piecesL r (h :: hs) = piecesL (h.2 + 1, r.2) hs := by rw [piecesL, if_neg h1, if_neg h2, if_neg h3]; rfl

theorem run_src (w : World) (g : Nat) (hg : w.heap.size = g) (q : Rn) (x y : Int) (hx : x = (q.1 : Int)) (hy : y = (q.2 : Int)) :
    Src Tryd.prog 2 23 (.slice (some ⟨g, 0, none⟩) 1 1) 1 (rv q) (w.alloc (.cells #[.int .u64 x, .int .u64 y] 77)) := by
  subst hg hx hy
  exact (lit_sn w 77 (rv q) 1 2 rfl (by unfold maxLen; omega)).src Tryd.underlying23 (rv_one q)
theorem grown_keep {w w3 : World} {X nl cl : Nat} {Al : Option Addr} (h5 : w.grownBy w3 (if nl = cl then none else (Value.slice Al nl cl).ownBlock)) (hX : X < w.heap.size) (hf : Far X Al) : w3.heap[X]? = w.heap[X]? := by
  refine h5.block X hX fun e => ?_
  split at e
  · cases e
  · rcases hf.own (n := nl) (c := cl) with hf | hf
    · rw [hf] at e; cases e
    · exact hf e.symm
structure OutSt (w : World) (X B base : Nat) (Ah : Option Addr) (nh ch : Nat) (H : List Rn) (Al : Option Addr) (nl cl : Nat) (acc : List Rn) (r : Rn) (wr : World) : Prop where
  own : Own wr base Al nl cl acc
  far : Far X Al
  box : wr.heap[X]? = some (.cells #[.int .u64 (r.1 : Int), .int .u64 (r.2 : Int)] 77 (0, 0))
  bel : Below base w wr
  rs : Rs wr B Ah nh ch H
  hB : B ≤ base
  hX : base ≤ X
section
variable {w : World} {X B base : Nat} {Ah : Option Addr} {nh ch : Nat} {H : List Rn} {Al : Option Addr} {nl cl : Nat} {acc : List Rn} {r : Rn} {wr : World}
theorem OutSt.c0 (h : OutSt w X B base Ah nh ch H Al nl cl acc r wr) : wr.cell? ⟨X, 0, none⟩ = some (.int .u64 (r.1 : Int)) := by rw [cell_of_row wr _ 0 _ _ _ h.box]; rfl
theorem OutSt.c1 (h : OutSt w X B base Ah nh ch H Al nl cl acc r wr) : wr.cell? ⟨X, 1, none⟩ = some (.int .u64 (r.2 : Int)) := by rw [cell_of_row wr _ 1 _ _ _ h.box]; rfl
theorem OutSt.lt (h : OutSt w X B base Ah nh ch H Al nl cl acc r wr) : X < wr.heap.size := World.block_lt_of_cell? wr _ h.c0
theorem OutSt.alloc (h : OutSt w X B base Ah nh ch H Al nl cl acc r wr) (o : Obj) : OutSt w X B base Ah nh ch H Al nl cl acc r (wr.alloc o) := by
  have hz : base ≤ wr.heap.size := Nat.le_trans h.hX (Nat.le_of_lt h.lt)
  have hb : Below base wr (wr.alloc o) := (below_box wr o).mono hz
  exact ⟨h.own.alloc o, h.far, ((below_box wr o).block _ h.lt).trans h.box, h.bel.trans hb, h.rs.below hb h.hB, h.hB, h.hX⟩
theorem OutSt.app {A3 : Option Addr} {c3 : Nat} {w3 : World} {q : Rn} (h : OutSt w X B base Ah nh ch H Al nl cl acc r wr)
    (h2 : w3.ownsRow base 77 2 (.slice A3 (nl + 1) c3) (nl + 1) (rvs acc ++ rv q)) (h4 : Below base wr w3) (h5 : wr.grownBy w3 (if nl = cl then none else (Value.slice Al nl cl).ownBlock)) (h6 : A3 = Al ∨ ∃ b, A3 = some ⟨b, 0, none⟩ ∧ wr.heap.size ≤ b) :
    OutSt w X B base Ah nh ch H A3 (nl + 1) c3 (acc ++ [q]) r w3 := by
  refine ⟨?_, h.far.app h.lt h6, ?_, h.bel.trans h4, h.rs.below h4 h.hB, h.hB, h.hX⟩
  · rw [← rvs_one1, ← rvs_app] at h2
    exact h2
  · exact (grown_keep h5 h.lt h.far).trans h.box
theorem OutSt.set (h : OutSt w X B base Ah nh ch H Al nl cl acc r wr) (v : Nat) : OutSt w X B base Ah nh ch H Al nl cl acc (v, r.2) (wr.setCell ⟨X, 0, none⟩ (.int .u64 (v : Int))) := by
  have hb : Below base wr (wr.setCell ⟨X, 0, none⟩ (.int .u64 (v : Int))) := (Below.refl base wr).setCell h.hX _
  refine ⟨h.own.kept (set_grown wr X 0 _) h.far.own, h.far, ?_, h.bel.trans hb, h.rs.below hb h.hB, h.hB, h.hX⟩
  simp [World.setCell, Array.getElem?_modify, h.box]
end
def OutRel (w : World) (X B base nh : Nat) (Ah : Option Addr) (ch : Nat) (H tot : List Rn) (gk : Nat) (vl vi : Value) (wr : World) : Prop :=
  ∃ (Al : Option Addr) (nl cl k : Nat) (acc : List Rn) (r : Rn), gk + k = nh ∧ vl = .slice Al nl cl ∧ vi = .int .i64 (k : Int) ∧ OutSt w X B base Ah nh ch H Al nl cl acc r wr ∧ tot = acc ++ piecesL r (H.drop k) ∧ r.1 < two64 ∧ r.2 < two64 ∧ nl ≤ 1000000 + k

/-! ### how many runs Less answers -/
theorem reachL_len (L : List Rn) (m : Nat) : (reachL L m).length ≤ L.length := by rw [reachL_drop, List.length_drop]; omega
theorem pieces_len2 (hs : List Rn) : ∀ (r : Rn) (m : Nat), r.2 < m → (piecesL r hs).length + (reachL hs m).length ≤ hs.length + 1 := by
  induction hs with
  | nil => intro r m _; simp [piecesL, reachL]
  | cons h hs ih =>
    intro r m hm
    have h1 := reachL_len (h :: hs) m
    have h2 := ih (h.2 + 1, r.2) m hm
    simp only [List.length_cons] at h1 ⊢
    rw [piecesL]
    by_cases ha : r.2 < h.1
    · rw [if_pos ha]; simp; omega
    · rw [if_neg ha, List.length_append]
      by_cases hb : r.2 ≤ h.2
      · rw [if_pos hb]; split <;> simp <;> omega
      · rw [if_neg hb, reachL_lo (by omega)]; split <;> simp <;> omega
theorem lessGo_len : ∀ (s hs acc : List Rn), Canon s → (lessGo acc s hs).length ≤ acc.length + s.length + (match s with | [] => 0 | r :: _ => (reachL hs r.1).length)
  | [], hs, acc, _ => by simp [lessGo]
  | r :: s, hs, acc, hc => by
    rw [lessGo]
    have ih := lessGo_len s (reachL hs r.1) (acc ++ piecesL r (reachL hs r.1)) hc.tail
    refine Nat.le_trans ih ?_
    simp only [List.length_append, List.length_cons]
    rcases s with _ | ⟨r', s⟩
    · have := pieces_len (reachL hs r.1) r
      simp only [List.length_nil]
      omega
    · have h1 := (List.pairwise_cons.1 hc.far).1 r' List.mem_cons_self
      have h2 := pieces_len2 (reachL hs r.1) r r'.1 (by omega)
      simp only [List.length_cons]
      omega
theorem less_len {s t : List Rn} (hs : Okl s) : (lessL s t).length ≤ s.length + t.length := by
  have h := lessGo_len s t [] hs.can
  unfold lessL
  rcases s with _ | ⟨r, s⟩
  · simp only [List.length_nil] at h ⊢; omega
  · have := reachL_len t r.1
    simp only [List.length_nil] at h
    omega

def LessRel (w : World) (B base n : Nat) (S tot : List Rn) (gk : Nat) (vl vh vi : Value) (wr : World) : Prop :=
  ∃ (Al Ah : Option Addr) (nl cl nh ch k : Nat) (acc H : List Rn), gk + k = n ∧ vl = .slice Al nl cl ∧ vh = .slice Ah nh ch ∧ vi = .int .i64 (k : Int) ∧ Own wr base Al nl cl acc ∧ Rs wr B Ah nh ch H ∧ Canon H ∧ nh ≤ 900 ∧
    tot = lessGo acc (S.drop k) H ∧ nl ≤ 1000 * k ∧ Below base w wr ∧ base ≤ wr.heap.size

end Go.Proofs.YtlkcnpmgafckoaaDoor
