/-
  WALKS of layer 12's awake, AlarmNil.
-/
import Derived.Test.YtfmfamnngfanfaaEqNums
namespace Go.Proofs.Ytfmfamnngfanfaa
open Go.RowKit Go.Sort

theorem Only.toBelow {S : Nat → Prop} {B : Nat} {a b : World} (h : Only S a b) (hS : ∀ k, S k → B ≤ k) (hB : B ≤ a.heap.size) : RowKit.Below B a b :=
  ⟨h.os, h.tape, h.output, h.size, fun k hk => h.block k (by omega) (fun hs => by have := hS k hs; omega)⟩
set_option maxRecDepth 100000 in
set_option maxHeartbeats 4000000 in
theorem awake12_any (w : World) : Calls Try.prog 38 #[] w (Says w (.bool true)) := by
  go_enter Try.func38, Try.ntmps38
  go_wp2_with fail
  refine (anew_any w).mono ?_
  rintro e w1 ⟨a, S1, rfl, h1, hb1⟩
  have H1 := Lib.hid h1
  have HB1 := Lib.hid hb1
  clear h1 hb1
  go_wp2_with fail
  have hs2 := aset_any w1 S1 w.heap.size a 5 9 [] H1.out (by omega) (by simp)
  refine hs2.mono ?_
  clear hs2
  rintro e w2 ⟨rfl, S2, h2, ho2, hk2⟩
  have H2 := Lib.hid h2
  have HB2 := Lib.hid (HB1.out.trans (ho2.toBelow (fun k hk => (H1.out.sl k hk).1) HB1.out.size))
  clear h2 ho2 hk2
  go_wp2_with fail
  have hs3 := aset_any w2 S2 w.heap.size a 3 9 _ H2.out (by omega) (by decide)
  refine hs3.mono ?_
  clear hs3
  rintro e w3 ⟨rfl, S3, h3, ho3, hk3⟩
  have H3 := Lib.hid h3
  have HB3 := Lib.hid (HB2.out.trans (ho3.toBelow (fun k hk => (H2.out.sl k hk).1) HB2.out.size))
  clear h3 ho3 hk3
  go_wp2_with fail
  have hs4 := aset_any w3 S3 w.heap.size a 5 2 _ H3.out (by omega) (by decide)
  refine hs4.mono ?_
  clear hs4
  rintro e w4 ⟨rfl, S4, h4, ho4, hk4⟩
  have e4 : setE 5 2 (setE 3 9 (setE 5 9 [])) = [(5, 2), (3, 9)] := by decide
  rw [e4] at h4
  have H4 := Lib.hid h4
  have HB4 := Lib.hid (HB3.out.trans (ho4.toBelow (fun k hk => (H3.out.sl k hk).1) HB3.out.size))
  clear h4 ho4 hk4 e4
  go_wp2_with fail
  have hs5 := adue_any w4 S4 w.heap.size a 9 [(5, 2), (3, 9)] H4.out ⟨by unfold SortE; decide, by decide⟩ (by decide)
  refine hs5.mono ?_
  clear hs5
  rintro e w5 ⟨A, n, c, rfl, hown, h5, ho5⟩
  have e5 : ids (dueE 9 [(5, 2), (3, 9)]) = [5, 3] := by decide
  have e6 : restE 9 [(5, 2), (3, 9)] = [] := by decide
  rw [e5] at hown
  rw [e6] at h5
  have HOWN := Lib.hid (Sn.of_own hown)
  have H5 := Lib.hid h5
  have HB5 := Lib.hid (HB4.out.trans (ho5.toBelow (fun k hk => (H4.out.sl k hk).1) HB4.out.size))
  clear h5 ho5 hown e5 e6
  have HL6 : Hid (Sn (w5.alloc (.cells #[.int .u64 5, .int .u64 3] 47)) (w5.heap.size + 1) (some ⟨w5.heap.size, 0, none⟩) 2 2 1 (unvs [5, 3])) := lit_sn w5 47 (unvs [5, 3]) 2 1 rfl (by unfold maxLen; omega)
  have HZ : Hid ((w5.alloc (.cells #[.int .u64 5, .int .u64 3] 47)).heap.size = w5.heap.size + 1) := by show _ = _; simp
  have H6 := Lib.hid (H5.out.below (below_box w5 (.cells #[.int .u64 5, .int .u64 3] 47)))
  have HB6 := Lib.hid (HB5.out.trans ((below_box w5 (.cells #[.int .u64 5, .int .u64 3] 47)).mono HB5.out.size))
  go_wp2_with fail
  have hq := eqn_any (w5.alloc (.cells #[.int .u64 5, .int .u64 3] 47)) A (some ⟨w5.heap.size, 0, none⟩) n c 2 2 [5, 3] [5, 3] ((HOWN.out.onA (.cells #[.int .u64 5, .int .u64 3] 47)).more (by rw [HZ.out]; omega)) (HL6.out.more (by rw [HZ.out]; exact Nat.le_refl _))
  have HQ := Lib.hid hq
  clear hq
  refine HQ.out.mono ?_
  rintro e w7 ⟨rfl, hb7⟩
  have H7 := Lib.hid (H6.out.below hb7)
  have HB7 := Lib.hid (HB6.out.trans (hb7.mono HB6.out.size))
  clear hb7
  have hdt : decide (([5, 3] : List Nat) = [5, 3]) = true := by decide
  rw [hdt]
  clear hdt
  go_wp2_with fail
  refine (alen2_any w7 S4 w.heap.size a [] H7.out).mono ?_
  rintro e w8 ⟨rfl, rfl⟩
  go_wp2_with fail
  go_ret
  exact ⟨rfl, HB7.out⟩
set_option maxRecDepth 100000 in
set_option maxHeartbeats 4000000 in
theorem alarmNil_law (w : World) (id : Int) (_hid : 0 ≤ id ∧ id ≤ 18446744073709551615) (at_ : Int) (_hat : -9223372036854775808 ≤ at_ ∧ at_ ≤ 9223372036854775807) :
    Calls Try.prog 11 #[.int .u64 id, .int .i64 at_] w (Says w (.bool true)) := by

  go_enter Try.func11, Try.ntmps11
  go_wp2_with fail
  refine (awake12_any w).mono ?_
  rintro e w1 ⟨rfl, hb1⟩
  have HB1 := Lib.hid hb1
  clear hb1
  go_wp2_with fail
  refine (aset_nil w1 id at_).mono ?_
  rintro e w2 ⟨rfl, rfl⟩
  go_wp2_with fail
  refine (awhen_nil w1 id).mono ?_
  rintro e w2 ⟨rfl, rfl⟩
  go_wp2_with fail
  refine (anext_nil w1).mono ?_
  rintro e w2 ⟨rfl, rfl⟩
  go_wp2_with fail
  refine (aclear_nil w1 id).mono ?_
  rintro e w2 ⟨rfl, rfl⟩
  go_wp2_with fail
  refine (adue_nil w1 at_).mono ?_
  rintro e w2 ⟨rfl, rfl⟩
  go_wp2_with fail
  refine (alen_nil w1).mono ?_
  rintro e w2 ⟨rfl, rfl⟩
  go_wp2_with fail
  go_ret
  exact ⟨rfl, HB1.out⟩
end Go.Proofs.Ytfmfamnngfanfaa
