/-
  ROWS OF ROWS that small makes: each one's own, all apart.
  No statement is proved here.
-/
import Derived.Test.YtfmfamnngfanfaaShareSmall
namespace Go.Proofs.Ytfmfamnngfanfaa
open Go.RowKit Go.Sort

def Ic.blk (x : Ic) : Option Nat := (icv x).ownBlock
/-- The weights first, then the queued: each a row of its own; q's row holds the queued. -/
structure Mx (w : World) (base qb K : Nat) (x0 : Ic) (R : List Ic) : Prop where
  own : ∀ x ∈ x0 :: R, w.ownsRow base 3 1 (icv x) x.n (ivs x.L)
  q : w.ownsRow base 22 1 (.slice (some ⟨qb, 0, none⟩) K K) K (icvs R)
  off : ∀ x ∈ x0 :: R, x.blk ≠ some qb
  sep : ∀ (i j : Nat) (x y : Ic), i ≠ j → (x0 :: R)[i]? = some x → (x0 :: R)[j]? = some y → x.blk = none ∨ x.blk ≠ y.blk
theorem icvs_set (R : List Ic) (i : Nat) (x : Ic) : (icvs R).set i (icv x) = icvs (R.set i x) := by simp [icvs, List.map_set]
theorem Mx.len {w : World} {base qb K : Nat} {x0 : Ic} {R : List Ic} (h : Mx w base qb K x0 R) : R.length = K := by have := h.q.1; rw [icvs_len] at this; omega
theorem Mx.put {w w2 : World} {base qb K i : Nat} {x0 x : Ic} {R : List Ic} {A2 : Option Addr} {c2 : Nat} {v : Int} (h : Mx w base qb K x0 R) (hx : R[i]? = some x)
    (ho : w2.ownsRow base 3 1 (.slice A2 (x.n + 1) c2) (x.n + 1) (ivs x.L ++ ivs [v])) (hg : w.grownBy w2 (if x.n = x.c then none else (Value.slice x.A x.n x.c).ownBlock)) (hn : Near w x.A A2) :
    w2.cell? ⟨qb, i, none⟩ = some (icv x) ∧ w2.frozen? ⟨qb, i, none⟩ = false ∧ Mx (w2.setCell ⟨qb, i, none⟩ (.slice A2 (x.n + 1) c2)) base qb K x0 (R.set i ⟨A2, x.n + 1, c2, x.L ++ [v]⟩) := by
  have hil : i < R.length := (List.getElem?_eq_some_iff.1 hx).1
  have hlen := h.len
  have hmem : x ∈ x0 :: R := List.mem_cons_of_mem _ (List.mem_of_getElem? hx)
  have hqlt := (h.q.lt qb rfl).2
  have hqne : some qb ≠ (if x.n = x.c then none else (Value.slice x.A x.n x.c).ownBlock) := by
    split
    · simp
    · exact fun e => h.off x hmem e.symm
  have hqb := hg.block qb hqlt hqne
  have hq2 : w2.ownsRow base 22 1 (.slice (some ⟨qb, 0, none⟩) K K) K (icvs R) := own_same h.q (fun b hb => by
    simp [Value.ownBlock] at hb; subst hb; exact hqb)
  have hst := hq2.stored i (.slice A2 (x.n + 1) c2)
  have hxb : (Value.slice A2 (x.n + 1) c2).ownBlock ≠ some qb ∧ ∀ y : Ic, (∀ b, y.blk = some b → b < w.heap.size) → (x.blk = none ∨ x.blk ≠ y.blk) → (Value.slice A2 (x.n + 1) c2).ownBlock = none ∨ (Value.slice A2 (x.n + 1) c2).ownBlock ≠ y.blk := by
    rcases hn with rfl | ⟨b, rfl, hb⟩
    · rw [own_block _ _ _ x.n x.c]
      exact ⟨h.off x hmem, fun y _ k => k⟩
    · refine ⟨fun e => ?_, fun y hy _ => .inr fun e => ?_⟩
      · simp [Value.ownBlock] at e; omega
      · have := hy b (by rw [← e]; rfl)
        omega
  have keep : ∀ y : Ic, w2.ownsRow base 3 1 (icv y) y.n (ivs y.L) → y.blk ≠ some qb → (w2.setCell ⟨qb, i, none⟩ (.slice A2 (x.n + 1) c2)).ownsRow base 3 1 (icv y) y.n (ivs y.L) := fun y hy hne =>
    own_same hy (fun b hb => RowKit.Below.heap_setCell w2 ⟨qb, i, none⟩ _ b (fun e => hne (by unfold Ic.blk; rw [hb, e])))
  have hsep : ∀ j y, j ≠ i + 1 → (x0 :: R)[j]? = some y → x.blk = none ∨ x.blk ≠ y.blk := fun j y hj hy => h.sep (i + 1) j x y (fun e => hj e.symm) (by simpa using hx) hy
  have hown2 : ∀ j y, j ≠ i + 1 → (x0 :: R)[j]? = some y → w2.ownsRow base 3 1 (icv y) y.n (ivs y.L) := fun j y hj hy => by
    have hoy := h.own y (List.mem_of_getElem? hy)
    refine own_same hoy (fun b hb => hg.block b (hoy.lt b hb).2 (fun e => ?_))
    split at e
    · cases e
    · rcases hsep j y hj hy with k | k
      · unfold Ic.blk icv at k; rw [k] at e; cases e
      · exact k (e.symm.trans hb.symm)
  have hgetR : ∀ j y, (x0 :: R.set i ⟨A2, x.n + 1, c2, x.L ++ [v]⟩)[j]? = some y → (j = i + 1 ∧ y = ⟨A2, x.n + 1, c2, x.L ++ [v]⟩) ∨ (j ≠ i + 1 ∧ (x0 :: R)[j]? = some y) := fun j y hy => by
    rcases j with _ | j
    · exact .inr ⟨by omega, by simpa using hy⟩
    · simp only [List.getElem?_cons_succ] at hy ⊢
      by_cases e : i = j
      · subst e
        rw [List.getElem?_set_self hil] at hy
        injection hy with hy
        exact .inl ⟨rfl, hy.symm⟩
      · rw [List.getElem?_set_ne e] at hy
        exact .inr ⟨by omega, hy⟩
  refine ⟨?_, hq2.frozenAt i, ⟨fun y hy => ?_, ?_, fun y hy => ?_, fun a b y z hab hy hz => ?_⟩⟩
  · rw [hq2.cellAt i (by omega)]
    simp [icvs, hx]
  · obtain ⟨j, hj, e⟩ := List.getElem_of_mem hy
    rcases hgetR j y (by rw [List.getElem?_eq_getElem hj, e]) with ⟨_, rfl⟩ | ⟨hne, hy2⟩
    · refine keep _ ?_ hxb.1
      rw [ivs_app]
      exact ho
    · exact keep y (hown2 j y hne hy2) (h.off y (List.mem_of_getElem? hy2))
  · have := hst.1
    rw [show (Value.slice A2 (x.n + 1) c2) = icv ⟨A2, x.n + 1, c2, x.L ++ [v]⟩ from rfl, icvs_set] at this
    exact this
  · obtain ⟨j, hj, e⟩ := List.getElem_of_mem hy
    rcases hgetR j y (by rw [List.getElem?_eq_getElem hj, e]) with ⟨_, rfl⟩ | ⟨hne, hy2⟩
    · exact hxb.1
    · exact h.off y (List.mem_of_getElem? hy2)
  · rcases hgetR a y hy with ⟨ha, rfl⟩ | ⟨ha, hy2⟩
    · rcases hgetR b z hz with ⟨hb, _⟩ | ⟨hb, hz2⟩
      · omega
      · exact hxb.2 z (fun r hr => ((h.own z (List.mem_of_getElem? hz2)).lt r hr).2) (hsep b z hb hz2)
    · rcases hgetR b z hz with ⟨hb, rfl⟩ | ⟨hb, hz2⟩
      · have k := hxb.2 y (fun r hr => ((h.own y (List.mem_of_getElem? hy2)).lt r hr).2) (hsep a y ha hy2)
        have e : Ic.blk ⟨A2, x.n + 1, c2, x.L ++ [v]⟩ = (Value.slice A2 (x.n + 1) c2).ownBlock := rfl
        rw [e]
        rcases k with k | k
        · rw [k]
          cases y.blk <;> simp
        · exact .inr (fun e2 => k e2.symm)
      · exact h.sep a b y z hab hy2 hz2
/-- How many each has: those behind i none, i itself at most k. -/
def Few (R : List Ic) (i k : Nat) : Prop := ∀ (j : Nat) (x : Ic), R[j]? = some x → (∀ s ∈ x.L, 0 ≤ s ∧ s ≤ 65535) ∧ x.n ≤ 30 ∧ (j = i → x.n ≤ k) ∧ (i < j → x.n = 0)
theorem Few.next {R : List Ic} {i k : Nat} (h : Few R i k) : Few R (i + 1) 0 := fun j x hx => by
  obtain ⟨h1, h2, h3, h4⟩ := h j x hx
  exact ⟨h1, h2, fun e => by have := h4 (by omega); omega, fun e => h4 (by omega)⟩
theorem Few.skip {R : List Ic} {i k : Nat} (h : Few R i k) : Few R i (k + 1) := fun j x hx => by
  obtain ⟨h1, h2, h3, h4⟩ := h j x hx
  exact ⟨h1, h2, fun e => by have := h3 e; omega, h4⟩
theorem Few.put {R : List Ic} {i k : Nat} {x : Ic} {A2 : Option Addr} {c2 : Nat} {v : Int} (h : Few R i k) (hx : R[i]? = some x) (hk : k < 30) (hv : 0 ≤ v ∧ v ≤ 65535) : Few (R.set i ⟨A2, x.n + 1, c2, x.L ++ [v]⟩) i (k + 1) := fun j y hy => by
  have hil : i < R.length := (List.getElem?_eq_some_iff.1 hx).1
  by_cases e : i = j
  · subst e
    rw [List.getElem?_set_self hil] at hy
    injection hy with hy
    subst hy
    obtain ⟨h1, h2, h3, h4⟩ := h i x hx
    have := h3 rfl
    refine ⟨fun s hs => ?_, by simp only; omega, fun _ => by simp only; omega, fun e => by omega⟩
    rcases List.mem_append.1 hs with hs | hs
    · exact h1 s hs
    · simp at hs; subst hs; exact hv
  · rw [List.getElem?_set_ne e] at hy
    obtain ⟨h1, h2, h3, h4⟩ := h j y hy
    exact ⟨h1, h2, fun e2 => by omega, h4⟩
end Go.Proofs.Ytfmfamnngfanfaa
