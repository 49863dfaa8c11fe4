/-
  MATHEMATICS of runs: the algebra of sets.
  No statement is proved here.
-/
import Derived.Test.YtjgkfoldbnjpeaaRunsCard
namespace Go.Proofs.Ytjgkfoldbnjpeaa
section
variable {S T U : List Rn} (hS : Okl S) (hT : Okl T) (hU : Okl U)
include hS hT hU in
theorem alg1 : unionL (unionL S T) U = unionL (unionL U T) S :=
  okl_ext (union_ok (union_ok hS hT) hU) (union_ok (union_ok hU hT) hS) fun x => by
    rw [union_mem (union_ok hS hT) hU, union_mem hS hT, union_mem (union_ok hU hT) hS, union_mem hU hT]
    by_cases a : memR S x <;> by_cases b : memR T x <;> by_cases c : memR U x <;> simp [a, b, c]
include hS in
theorem alg2 : unionL S S = S :=
  okl_ext (union_ok hS hS) hS fun x => by rw [union_mem hS hS]; simp
include hS in
theorem alg3 : lessL S S = [] :=
  okl_ext (less_ok hS hS) Okl.nil fun x => by rw [less_mem hS hS]; simp [memR_nil]
include hS hT in
theorem alg4 : lessL S (lessL S T) = lessL T (lessL T S) :=
  okl_ext (less_ok hS (less_ok hS hT)) (less_ok hT (less_ok hT hS)) fun x => by
    rw [less_mem hS (less_ok hS hT), less_mem hS hT, less_mem hT (less_ok hT hS), less_mem hT hS]
    by_cases a : memR S x <;> by_cases b : memR T x <;> simp [a, b]
include hS hT hU in
theorem alg5 : lessL (lessL S T) U = lessL S (unionL U T) :=
  okl_ext (less_ok (less_ok hS hT) hU) (less_ok hS (union_ok hU hT)) fun x => by
    rw [less_mem (less_ok hS hT) hU, less_mem hS hT, less_mem hS (union_ok hU hT), union_mem hU hT]
    by_cases a : memR S x <;> by_cases b : memR T x <;> by_cases c : memR U x <;> simp [a, b, c]
include hS hT in
theorem alg6 : unionL (lessL S T) (lessL S (lessL S T)) = S :=
  okl_ext (union_ok (less_ok hS hT) (less_ok hS (less_ok hS hT))) hS fun x => by
    rw [union_mem (less_ok hS hT) (less_ok hS (less_ok hS hT)), less_mem hS hT, less_mem hS (less_ok hS hT), less_mem hS hT]
    by_cases a : memR S x <;> by_cases b : memR T x <;> simp [a, b]
include hS hT in
theorem alg7 : (cntL (lessL S T) + cntL (lessL S (lessL S T))) % two64 < cntL (lessL S T) ∨ cntL S = (cntL (lessL S T) + cntL (lessL S (lessL S T))) % two64 :=
  counts_add hS (less_ok hS hT) (less_ok hS (less_ok hS hT)) (T := T) (less_mem hS hT) fun x => by
    rw [less_mem hS (less_ok hS hT), less_mem hS hT]
    by_cases a : memR S x <;> by_cases b : memR T x <;> simp [a, b]
theorem cnt_lt {L : List Rn} (h : Okl L) : cntL L < two64 := by
  rw [cnt_card h]
  have := card_le h
  have : 0 < two64 := by unfold two64; omega
  split <;> omega
end
end Go.Proofs.Ytjgkfoldbnjpeaa
