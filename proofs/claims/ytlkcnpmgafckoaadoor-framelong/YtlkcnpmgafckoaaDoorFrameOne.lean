/-
  CONTRACTS of layer 5: which frames may be: the parts of Right.
  No statement is proved here.
-/
import Derived.Test.YtlkcnpmgafckoaaDoorFrameMath
namespace Go.Proofs.YtlkcnpmgafckoaaDoor
open Go.RowKit
/-- A frame's cells, boxed. -/
abbrev Fv.box (f : Fv) : Obj := .cells #[.int .u8 (f.kd : Int), .int .i64 f.ag, .int .u64 (f.ep : Int), .int .u64 (f.ic : Int), .int .u64 (f.ba : Int), .int .u64 (f.cu : Int), .int .u64 (f.li : Int), .slice f.Ar f.nr f.cr, .slice f.Ai f.ni f.ci] 26

theorem ret_b {b b' : Bool} (h : b = b') : Ending.returned (.bool b) = .returned (.bool b') := by rw [h]

set_option maxHeartbeats 400000 in
theorem tells_any (w : World) (f : Fv) (h : FrAt w f) :
    Calls Tryd.prog 77 #[f.v] w (Says w (.bool (decP (NoAnsP f.m)))) := by
  unfold Fv.v
  have h0 := h.runs0
  have hN : NoAnsP f.m ↔ f.cu = 0 ∧ f.li = 0 ∧ f.nr = 0 := by unfold NoAnsP; rw [← h0]; rfl
  rw [decP_congr hN]
  clear hN h0
  go_enter Tryd.func77, Tryd.ntmps77
  go_wp2
  all_goals (go_ret; refine ⟨congrArg (fun b => Ending.returned (.bool b)) (eq_decP ?_), below_box w _⟩; simp; try omega)

set_option maxHeartbeats 400000 in
theorem rightHello_any (w : World) (f : Fv) (h : FrAt w f) :
    Calls Tryd.prog 50 #[f.v] w (Says w (.bool (decP (HelloP f.m)))) := by
  have h0 := h.items0
  have hN : HelloP f.m ↔ 1 ≤ f.ba ∧ f.ic = 0 ∧ f.ni = 0 ∧ NoAnsP f.m := by unfold HelloP; rw [← h0]; rfl
  obtain ⟨b, HB⟩ : ∃ b, Hid (b = decP (HelloP f.m)) := ⟨_, rfl⟩
  rw [← HB.out]
  have HF := Lib.hid h
  have HN := Lib.hid hN
  unfold Fv.v
  clear hN h0 h
  by_cases h1 : 1 ≤ f.ba
  · have h1I : (1 : Int) ≤ (f.ba : Int) := by omega
    have Hh1 := Lib.hid h1; clear h1
    by_cases h2 : f.ic = 0
    · have h2I : ((f.ic : Int) == 0) = true := by simp [h2]
      have Hh2 := Lib.hid h2; clear h2
      by_cases h3 : f.ni = 0
      · have h3I : ((f.ni : Int) == 0) = true := by simp [h3]
        have Hh3 := Lib.hid h3; clear h3
        go_enter Tryd.func50, Tryd.ntmps50
        go_wp2_with fail
        refine (tells_any (w.alloc f.box) f (HF.out.onA _)).mono ?_
        rintro e w' ⟨rfl, hb⟩
        go_wp2
        go_ret
        refine ⟨ret_b ?_, (below_box w f.box).trans (hb.mono (by simp))⟩
        rw [HB.out, decP_congr HN.out]
        exact decP_congr ⟨fun x => ⟨Hh1.out, Hh2.out, Hh3.out, x⟩, fun x => x.2.2.2⟩
      · have h3I : ((f.ni : Int) == 0) = false := by simp [h3]
        have Hh3 := Lib.hid h3; clear h3
        go_enter Tryd.func50, Tryd.ntmps50
        go_wp2
        go_ret
        refine ⟨ret_b ?_, below_box w _⟩
        rw [HB.out, decP_congr HN.out, decP_no (fun x => Hh3.out (by first | exact x.1 | exact x.2.1 | exact x.2.2.1))]
    · have h2I : ((f.ic : Int) == 0) = false := by simp [h2]
      have Hh2 := Lib.hid h2; clear h2
      go_enter Tryd.func50, Tryd.ntmps50
      go_wp2
      go_ret
      refine ⟨ret_b ?_, below_box w _⟩
      rw [HB.out, decP_congr HN.out, decP_no (fun x => Hh2.out (by first | exact x.1 | exact x.2.1 | exact x.2.2.1))]
  · have h1I : ¬ (1 : Int) ≤ (f.ba : Int) := by omega
    have Hh1 := Lib.hid h1; clear h1
    go_enter Tryd.func50, Tryd.ntmps50
    go_wp2
    go_ret
    refine ⟨ret_b ?_, below_box w _⟩
    rw [HB.out, decP_congr HN.out, decP_no (fun x => Hh1.out (by first | exact x.1 | exact x.2.1 | exact x.2.2.1))]

end Go.Proofs.YtlkcnpmgafckoaaDoor
