/-
  CONTRACT of the laws' own awake (the document's example).
  No statement is proved here.
-/
import Derived.Test.YthhmgbeigeagdaaRunsOf
import Derived.Test.YthhmgbeigeagdaaRunsHelp
namespace Go.Proofs.Ythhmgbeigeagdaa
open Go.RowKit

theorem of_awake : ofL [1, 3, 2, 7] = [(1, 3), (7, 7)] := by
  refine canon_ext _ _ (of_ok (by decide)).can ⟨by simp, by simp⟩ fun x => ?_
  rw [of_mem, memR_cons, memR_one]
  simp
  omega
theorem lit_nums (w : World) (l : List Nat) (n : Nat) (hn : l.length = n) (hm : n ≤ maxLen) : Sn (w.alloc (.cells (nvs l).toArray 25)) (w.alloc (.cells (nvs l).toArray 25)).heap.size (some ⟨w.heap.size, 0, none⟩) n n 1 (nvs l) :=
  (lit_sn w 25 (nvs l) n 1 (by rw [nvs_len]; omega) hm).more (by simp)
theorem lit_runs (w : World) (l : List Rn) (n : Nat) (hn : l.length = n) (hm : n ≤ maxLen) (hl : ∀ q ∈ l, q.1 < two64 ∧ q.2 < two64) : Rs (w.alloc (.cells (rvs l).toArray 48)) (w.alloc (.cells (rvs l).toArray 48)).heap.size (some ⟨w.heap.size, 0, none⟩) n n l :=
  ⟨(lit_sn w 48 (rvs l) n 2 (by rw [rvs_len]; omega) hm).more (by simp), hl⟩
end Go.Proofs.Ythhmgbeigeagdaa
