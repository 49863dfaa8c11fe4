/-
  CONTRACTS of join, slices.Grow, Union, Span.
  No statement is proved here.
-/
import Derived.Test.YtlkcnpmgafckoaaDoorRunsOne
import Derived.RegionTactic
import Derived.BigRegion
namespace Go.Proofs.YtlkcnpmgafckoaaDoor
open Go.RowKit

theorem run_info : (Tryd.prog.info? 77).map (fun i => (i.zero, i.size, i.bytes)) = some (some (.agg #[.int .u64 0, .int .u64 0]), 2, 16) := by kernel_rfl
/-- A row of runs of one's own. -/
def Own (w : World) (base : Nat) (A : Option Addr) (n c : Nat) (L : List Rn) : Prop := w.ownsRow base 77 2 (.slice A n c) n (rvs L)
def SaysOwn (w : World) (base : Nat) (L : List Rn) (e : Ending) (w' : World) : Prop := ∃ A n c, e = .returned (.slice A n c) ∧ Own w' base A n c L ∧ Below base w w'

theorem rv_one (r : Rn) : ∀ u ∈ rv r, u.oneCell' = true := by have := rvs_one [r]; rwa [rvs_one1] at this

theorem only_below' {a b : World} (h : Below a.heap.size a b) : a.grownBy b none := ⟨h.os, h.tape, h.output, h.size, fun i hi _ => h.block i hi⟩

theorem own_setN {w : World} {base g n c k : Nat} {e : TypeId} {xs : List Value} (h : w.ownsRow base e k (.slice (some ⟨g, 0, none⟩) n c) n xs) (j : Nat) (u : Value) :
    (w.setCell ⟨g, j, none⟩ u).ownsRow base e k (.slice (some ⟨g, 0, none⟩) n c) n (xs.set j u) := by
  refine ⟨by rw [List.length_set]; exact h.1, ?_⟩
  rcases h.2 with ⟨hv, _⟩ | ⟨g', cap, cur, hv, hbg, hg, hnc, hcm, hcs, ht⟩
  · cases hv
  · injection hv with e1 e2 e3
    injection e1 with e1
    injection e1 with e1
    subst e1 e3
    refine .inr ⟨g, c, cur.setIfInBounds j u, rfl, hbg, ?_, hnc, hcm, by simpa using hcs, ?_⟩
    · simp [World.setCell, Array.getElem?_modify, hg]
    · rw [Array.toList_setIfInBounds, List.take_set, ht]
theorem own_setTo {w : World} {base g m c : Nat} {M : List Rn} {l : Rn} (h : Own w base (some ⟨g, 0, none⟩) (m + 1) c (M ++ [l])) (hm : M.length = m) (v : Nat) :
    Own ((w.setCell ⟨g, m * 2 + 1, none⟩ (.int .u64 (v : Int))).drew) base (some ⟨g, 0, none⟩) (m + 1) c (M ++ [(l.1, v)]) := by
  have h1 := own_setN h (m * 2 + 1) (.int .u64 (v : Int))
  have e : (rvs (M ++ [l])).set (m * 2 + 1) (.int .u64 (v : Int)) = rvs (M ++ [(l.1, v)]) := by
    have hl := rvs_len M
    rw [rvs_app, rvs_app, rvs_one1, rvs_one1, List.set_append_right _ _ (by omega), hl, hm, show m * 2 + 1 - m * 2 = 1 from by omega]
    rfl
  rw [e] at h1
  exact h1

/-! ### slices.Grow -/
theorem run_append_zeros {P : Program} (w : World) (t tx ty e : TypeId) (k : IntKind) (i : TypeInfo) (z : Value) (ht : P.underlying t = some (.slice e)) (hx : P.underlying tx = some (.int k)) (hi : P.info? e = some i) (hz : i.zero = some z) (n : Nat) (hn : 0 < n) (hsz : 0 < i.size) (hb : n * i.bytes ≤ 140737488355328) (h63 : n ≤ 140737488355328) :
    (Builtin.append_ #[t, tx] ty #[.slice none 0 0, .int .i64 (n : Int)]).run P w =
      .ok (.slice (some ⟨w.heap.size, 0, none⟩) n (grownCap w n 0 e)) (w.drew.alloc (.cells (Builtin.zeroCells z.cells n ++ Builtin.zeroCells z.cells (grownCap w n 0 e - n)) e)) := by
  have hw : IntKind.i64.wrap (n : Int) = (n : Int) := by rw [IntKind.wrap_i64]; omega
  have h1 : ¬ ((n : Int) < 0) := by omega
  have h2 : ¬ (281474976710656 < (n : Int) * (i.bytes : Int)) := by
    have : (n : Int) * (i.bytes : Int) = ((n * i.bytes : Nat) : Int) := by simp
    rw [this]; omega
  have h3 : ¬ n ≤ 0 := by omega
  have h4 : ¬ (n = 0) := by omega
  have h5 : ¬ (n * i.size = 0) := by
    have := Nat.mul_pos hn hsz
    omega
  have h6 : ¬ (9223372036854775807 < (n : Int)) := by omega
  have h7 : Builtin.nextslicecap n 0 * i.bytes ≤ 281474976710656 := growslice_fits (by omega) hb
  have hmx : max (n : Int) 0 = (n : Int) := by omega
  have h8 : ¬ (281474976710656 < Builtin.nextslicecap n 0 * i.bytes) := by omega
  simp [Builtin.append_, run_underlying ht, run_underlying hx, sizeOf, typeInfo, zeroValue, hi, hz, hw, h2, h4, h5, h6, h8, asInt, asIntOf, hmx, Question.forced, Builtin.firstCells, newRow, grownCap]
  intro h
  omega

/-! ### Union -/
theorem frz_row {w : World} {r i : Nat} {cs : Array Value} {t : TypeId} (h : w.heap[r]? = some (.cells cs t (0, 0))) : w.frozen? ⟨r, i, none⟩ = false := by simp [World.frozen?, h]
theorem set_grown (w : World) (g i : Nat) (u : Value) : w.grownBy (w.setCell ⟨g, i, none⟩ u) (some g) :=
  ⟨rfl, rfl, rfl, by simp [World.setCell], fun k _ hne => Below.heap_setCell w ⟨g, i, none⟩ u k (fun e => hne (by rw [e]))⟩
theorem own_ne {w : World} {base : Nat} {e : TypeId} {k : Nat} {v : Value} {n g : Nat} {xs : List Value} (h : w.ownsRow base e k v n xs) (hg : g < base) : v.ownBlock = none ∨ v.ownBlock ≠ some g := by
  refine .inr fun hv => ?_
  have := (h.lt g hv).1
  omega
def UnionRel (w4 : World) (B base : Nat) (tot : List Rn) (gk : Nat) (a b l : Value) (wr : World) : Prop :=
  ∃ (Aa Ab Al : Option Addr) (na ca nb cb nl cl : Nat) (La Lb acc : List Rn), gk = na + nb ∧ a = .slice Aa na ca ∧ b = .slice Ab nb cb ∧ l = .slice Al nl cl ∧ Rs wr B Aa na ca La ∧ Rs wr B Ab nb cb Lb ∧ Own wr base Al nl cl acc ∧
    tot = unionGo acc La Lb ∧ (∀ q ∈ acc, q.1 < two64 ∧ q.2 < two64) ∧ nl + na + nb ≤ 2000 ∧ Below base w4 wr ∧ base ≤ wr.heap.size
theorem Rs.first {w : World} {B : Nat} {A : Option Addr} {n c : Nat} {L : List Rn} (h : Rs w B A n c L) (hn : 0 < n) :
    ∃ b o x X, A = some ⟨b, o, none⟩ ∧ b < B ∧ L = x :: X ∧ w.cell? ⟨b, o, none⟩ = some (.int .u64 (x.1 : Int)) ∧ w.cell? ⟨b, o + 1, none⟩ = some (.int .u64 (x.2 : Int)) ∧ x.1 < two64 ∧ x.2 < two64 := by
  obtain ⟨b, o, r, e, hb, hr, h0, h1, h2, h3⟩ := h.at_ hn
  rcases L with _ | ⟨x, X⟩
  · simp at hr
  · simp at hr
    subst hr
    exact ⟨b, o, x, X, e, hb, rfl, by simpa using h0, by simpa using h1, h2, h3⟩
theorem Rs.rest {w : World} {B b o n c : Nat} {x : Rn} {X : List Rn} (h : Rs w B (some ⟨b, o, none⟩) n c (x :: X)) (hn : 0 < n) (hc : c ≠ 1) : Rs w B (some ⟨b, o + 2, none⟩) (n - 1) (c - 1) X := by
  have := h.drop (m := 1) hn
  rw [if_neg hc] at this
  simpa [add_plain] using this
theorem Rs.rest1 {w : World} {B n : Nat} {A : Option Addr} {x : Rn} {X : List Rn} (h : Rs w B A n 1 (x :: X)) (hn : 0 < n) : Rs w B A (n - 1) 0 X := by
  have := h.drop (m := 1) hn
  rw [if_pos rfl] at this
  simpa using this

end Go.Proofs.YtlkcnpmgafckoaaDoor
