/-
  CONTRACT of the reference's Right (layer 5): all kinds.
  No statement is proved here.
-/
import Derived.Test.YtlkcnpmgafckoaaDoorRefRightB
import Derived.Test.YtlkcnpmgafckoaaDoorRefRightC
namespace Go.Proofs.YtlkcnpmgafckoaaDoor
open Go.RowKit

set_option maxRecDepth 100000 in
set_option maxHeartbeats 1000000 in
theorem refRight0_any (w : World) (f : Fv) (hk : ¬ (f.kd = 1 ∨ f.kd = 2 ∨ f.kd = 3 ∨ f.kd = 4)) :
    Calls Tryd.prog 13 #[f.r] w (Says w (.bool (decP (RightP f.m)))) := by
  rw [decP_no (p := RightP f.m) (fun x => by
    rcases x.2.2.2 with h4 | h4 | h4
    · exact hk (.inl h4.1)
    · rcases h4.1 with h5 | h5
      · exact hk (.inr (.inl h5))
      · exact hk (.inr (.inr (.inr h5)))
    · exact hk (.inr (.inr (.inl h4.1))))]
  unfold Fv.r
  by_cases h0 : f.kd = 0
  · have n1 : decide ((f.kd : Int) < 1) = true := by simp; omega
    have n1I : decide (f.kd < 1) = true := by simp; omega
    have H0 := Lib.hid h0
    clear h0 hk
    go_enter Tryd.func13, Tryd.ntmps13
    go_wp2
    all_goals (go_ret; exact ⟨rfl, below_box w _⟩)
  · have n1 : decide ((f.kd : Int) < 1) = false := by simp; omega
    have n1I : decide (f.kd < 1) = false := by simp; omega
    have n4 : decide ((4 : Int) < (f.kd : Int)) = true := by simp; omega
    have n4I : decide (4 < f.kd) = true := by simp; omega
    clear h0 hk
    go_enter Tryd.func13, Tryd.ntmps13
    go_wp2
    all_goals (go_ret; exact ⟨rfl, below_box w _⟩)
/-- The reference's Right. -/
theorem refRightF_any (w : World) (f : Fv) (h : FrAt w f) (hsr : f.nr ≤ 40) (hsi : f.ni ≤ 70) : Calls Tryd.prog 13 #[f.r] w (Says w (.bool (decP (RightP f.m)))) := by
  by_cases h1 : f.kd = 1
  · exact refRight1_any w f h h1 hsr hsi
  by_cases h2 : f.kd = 2
  · exact refRight2_any w f h h2 hsr hsi
  by_cases h3 : f.kd = 3
  · exact refRight3_any w f h h3 hsr hsi
  by_cases h4 : f.kd = 4
  · exact refRight4_any w f h h4 hsr hsi
  exact refRight0_any w f (by omega)
end Go.Proofs.YtlkcnpmgafckoaaDoor
