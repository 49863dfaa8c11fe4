/-
  CONTRACT of the laws' own awake (the document's example).
  No statement is proved here.
-/
import Derived.Test.YtjgkfoldbnjpeaaRunsOf
import Derived.Test.YtjgkfoldbnjpeaaRunsHelp
namespace Go.Proofs.Ytjgkfoldbnjpeaa
open Go.RowKit

theorem of_awake : ofL [1, 3, 2, 7] = [(1, 3), (7, 7)] := by
  refine canon_ext _ _ (of_ok (by decide)).can ⟨by simp, by simp⟩ fun x => ?_
  rw [of_mem, memR_cons, memR_one]
  simp
  omega
theorem lit_nums (w : World) (l : List Nat) (n : Nat) (hn : l.length = n) (hm : n ≤ maxLen) : Sn (w.alloc (.cells (nvs l).toArray 25)) (w.alloc (.cells (nvs l).toArray 25)).heap.size (some ⟨w.heap.size, 0, none⟩) n n 1 (nvs l) :=
  (lit_sn w 25 (nvs l) n 1 (by rw [nvs_len]; omega) hm).more (by simp)
theorem lit_runs (w : World) (l : List Rn) (n : Nat) (hn : l.length = n) (hm : n ≤ maxLen) (hl : ∀ q ∈ l, q.1 < two64 ∧ q.2 < two64) : Rs (w.alloc (.cells (rvs l).toArray 57)) (w.alloc (.cells (rvs l).toArray 57)).heap.size (some ⟨w.heap.size, 0, none⟩) n n l :=
  ⟨(lit_sn w 57 (rvs l) n 2 (by rw [rvs_len]; omega) hm).more (by simp), hl⟩
set_option maxRecDepth 100000 in
set_option maxHeartbeats 400000 in
theorem awake3_any (w : World) : Calls Try.prog 14 #[] w (Says w (.bool true)) := by
  go_enter Try.func14, Try.ntmps14
  go_wp2_with fail
  refine (ofR_any _ _ 4 4 [1, 3, 2, 7] (lit_nums w [1, 3, 2, 7] 4 rfl (by unfold maxLen; omega)) (by decide) (by omega) (by omega)).mono ?_
  rintro e w1 ⟨A1, n1, c1, rfl, hs1, hp1, hb1⟩
  have hbw : Below w.heap.size w w1 := (below_box w _).trans (hb1.mono (by simp))
  clear hb1 hp1
  rw [of_awake] at hs1
  have HS1 := Lib.hid hs1
  have HN1 : Hid (n1 = 2) := hs1.rs.len.symm
  clear hs1
  go_wp2_with fail
  have hbx := below_box w1 (.cells #[.slice A1 n1 c1] 28)
  have hcx : (w1.alloc (.cells #[.slice A1 n1 c1] 28)).cell? ⟨w1.heap.size, 0, none⟩ = some (.slice A1 n1 c1) := cell_last w1 _ _ _ 0 rfl
  have hzx : w1.heap.size < (w1.alloc (.cells #[.slice A1 n1 c1] 28)).heap.size := by simp
  have HSX := Lib.hid (HS1.out.on hbx (Nat.le_refl _))
  have HBX : Hid (Below w.heap.size w (w1.alloc (.cells #[.slice A1 n1 c1] 28))) := hbw.trans (hbx.mono hbw.size)
  clear hbw hbx
  generalize w1.alloc (.cells #[.slice A1 n1 c1] 28) = w2 at *
  have hgap := gap_any w2 A1 n1 c1 1 [(1, 3), (7, 7)] HSX.out.rs ⟨by simp, by simp⟩ (by have := HN1.out; omega)
  rw [show gapL [(1, 3), (7, 7)] 1 = (4, true) from by decide +kernel] at hgap
  refine hgap.mono ?_
  rintro e w3 ⟨rfl, hb3⟩
  have hcx3 := (hb3.cell (p := ⟨w1.heap.size, 0, none⟩) hzx).trans hcx
  have HS3 := Lib.hid (HSX.out.on hb3 (Nat.le_refl _))
  have HB3 : Hid (Below w.heap.size w w3) := HBX.out.trans (hb3.mono HBX.out.size)
  clear hgap hb3 hcx
  go_wp2_with fail
  refine (runs_any w3 A1 n1 c1 [(1, 3), (7, 7)] HS3.out.rs (by have := HN1.out; omega)).mono ?_
  rintro e w4 ⟨A4, n4, c4, rfl, hown4, hb4⟩
  have HR4 := Lib.hid (Rs.of_own hown4 (fun q hq => HS3.out.rs.lt q hq))
  have HB4 : Hid (Below w.heap.size w w4) := HB3.out.trans (hb4.mono HB3.out.size)
  clear hown4 hb4
  go_wp2_with fail
  have heq := eqR_any (w4.alloc (.cells #[.int .u64 1, .int .u64 3, .int .u64 7, .int .u64 7] 57)) _ A4 (some ⟨w4.heap.size, 0, none⟩) n4 c4 2 2 [(1, 3), (7, 7)] [(1, 3), (7, 7)] (HR4.out.onA _) (lit_runs w4 [(1, 3), (7, 7)] 2 rfl (by unfold maxLen; omega) (by decide))
  rw [show sameR [(1, 3), (7, 7)] [(1, 3), (7, 7)] = true from by simp [sameR]] at heq
  refine heq.mono ?_
  rintro e w5 ⟨rfl, q, rfl⟩
  clear heq
  go_wp2
  go_ret
  exact ⟨rfl, below_drewN (HB4.out.trans ((below_box w4 _).mono HB4.out.size)) q⟩
end Go.Proofs.Ytjgkfoldbnjpeaa
