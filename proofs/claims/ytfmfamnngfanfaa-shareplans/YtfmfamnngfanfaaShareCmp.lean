/-
  WORDS for lines (of share's heap); CONTRACTS of cmp's isNaN, Compare, Or at ints; lines' Less.
  No statement is proved here.
-/
import Derived.Test.YtfmfamnngfanfaaShareThree
import Derived.Test.YtfmfamnngfanfaaHeapMath
import Derived.Test.YtfmfamnngfanfaaCmpInts
import Derived.Deep.RegionHeld3
namespace Go.Proofs.Ytfmfamnngfanfaa
open Go.RowKit Go.Sort

/-! ### Lines -/
structure Ln where
  cls : Nat
  plc : Nat
  A : Option Addr
  n : Nat
  c : Nat
  byt : Int
  exc : Int
instance : Inhabited Ln := ⟨⟨0, 0, none, 0, 0, 0, 0⟩⟩
def lv (x : Ln) : List Value := [.int .i64 (x.cls : Int), .int .i64 (x.plc : Int), .slice x.A x.n x.c, .int .i64 x.byt, .int .i64 x.exc]
def lvs (L : List Ln) : List Value := L.flatMap lv
theorem lvs_len (L : List Ln) : (lvs L).length = L.length * 5 := by
  induction L with
  | nil => rfl
  | cons a L ih => unfold lvs at *; rw [List.flatMap_cons, List.length_append, ih, List.length_cons]; simp [lv]; omega
theorem lvs_app (L M : List Ln) : lvs (L ++ M) = lvs L ++ lvs M := by unfold lvs; rw [List.flatMap_append]
theorem lvs_cons (a : Ln) (L : List Ln) : lvs (a :: L) = lv a ++ lvs L := rfl
theorem lvs_one1 (a : Ln) : lvs [a] = lv a := by simp [lvs]
theorem lv_one (x : Ln) : ∀ u ∈ lv x, u.oneCell' = true := by
  intro u h
  simp only [lv, List.mem_cons, List.not_mem_nil, or_false] at h
  rcases h with rfl | rfl | rfl | rfl | rfl <;> rfl
theorem lvs_one (L : List Ln) : ∀ u ∈ lvs L, u.oneCell' = true := by
  intro u hu
  obtain ⟨r, _, h⟩ := List.mem_flatMap.1 hu
  exact lv_one r u h
theorem lvs_at {L : List Ln} {j t : Nat} {x : Ln} (h : L[j]? = some x) (ht : t < 5) : (lvs L)[j * 5 + t]? = (lv x)[t]? := by
  induction L generalizing j with
  | nil => simp at h
  | cons a L ih =>
    have hl : (lv a).length = 5 := rfl
    rw [lvs_cons]
    rcases j with _ | j
    · simp at h
      subst h
      rw [List.getElem?_append_left (by omega)]
      congr 1
      omega
    · have := ih (j := j) (by simpa using h)
      rw [List.getElem?_append_right (by omega), show (j + 1) * 5 + t - (lv a).length = j * 5 + t from by omega]
      exact this
def lessL (a b : Ln) : Bool := decide (b.exc < a.exc) || (decide (b.exc = a.exc) && decide (a.cls < b.cls))
theorem lessL_wk : Wk lessL := by
  refine ⟨fun a b c => ?_, fun a b => ?_⟩
  · unfold lessL
    simp
    omega
  · unfold lessL
    simp
    omega
theorem less_is (a b : Ln) : decide (orI (cmpI b.exc a.exc) (cmpI a.cls b.cls) < 0) = lessL a b := by
  unfold orI cmpI lessL
  rw [Bool.eq_iff_iff]
  simp
  split <;> split <;> (try split) <;> (try split) <;> (try split) <;> omega
end Go.Proofs.Ytfmfamnngfanfaa
