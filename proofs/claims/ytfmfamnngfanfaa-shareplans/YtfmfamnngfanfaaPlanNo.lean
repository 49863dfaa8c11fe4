/-
  CONTRACT of share.Plan when it can't be asked.
  No statement is proved here.
-/
import Derived.Test.YtfmfamnngfanfaaPlanBox
namespace Go.Proofs.Ytfmfamnngfanfaa
open Go.RowKit Go.Sort

set_option maxRecDepth 100000 in
set_option maxHeartbeats 4000000 in
theorem plan_no (w : World) (cap : Int) (Aw : Option Addr) (nw cw : Nat) (W : List Int) (Aq : Option Addr) (nq cq : Nat) (Q : List Ic) (cls size : Int) (hw : Is w w.heap.size Aw nw cw W) (hq : Iss w w.heap.size Aq nq cq Q) (hc : qcnt Q ≤ 1000000) (hf : fitsB cap W nq nw Q cls size = false) :
    Calls Try.prog 15 #[.int .i64 cap, .slice Aw nw cw, .slice Aq nq cq, .int .i64 cls, .int .i64 size] w (fun e w' => e = .returned (.tuple #[.slice none 0 0, .bool false]) ∧ w = w') := by
  have HW := Lib.hid hw
  have H := Lib.hid hq
  clear hw hq
  by_cases hr : rightW W = true
  · have HR := Lib.hid hr
    by_cases he : nq = nw
    · obtain rfl : nw = nq := by omega
      have heI : ((nw : Int) != (nw : Int)) = false := by simp
      clear he
      by_cases hk : 0 ≤ cls ∧ cls < (nw : Int)
      · have HH : Hid ((decide (0 ≤ cls) && decide (cls < (nw : Int))) = true) := Lib.hid (by simp [hk.1, hk.2])
        by_cases h5 : 0 ≤ size
        · have g5 : ¬ size < 0 := by omega
          by_cases h6 : size ≤ 1048576
          · have g6 : ¬ 1048576 < size := by omega
            by_cases h7 : size ≤ cap
            · have g7 : ¬ cap < size := by omega
              by_cases h8 : cap ≤ 1099511627776
              · have g8 : ¬ 1099511627776 < cap := by omega
                have HB : Hid (bndQ Q = false) := Lib.hid (by
                  cases hb : bndQ Q
                  · rfl
                  · have := (fits_iff cap W nw nw Q cls size).2 ⟨hr, rfl, hk.1, hk.2, h5, h6, h7, h8, hb⟩
                    rw [hf] at this
                    cases this)
                clear hr
                go_enter Try.func15, Try.ntmps15
                go_wp2_with fail
                refine (shRight_any w Aw nw cw W HW.out).mono ?_
                rintro e w1 ⟨rfl, rfl⟩
                rw [HR.out]
                go_wp2_with fail
                refine (has_any w Aw nw cw cls).mono ?_
                rintro e w1 ⟨rfl, rfl⟩
                rw [HH.out]
                go_wp2_with fail
                refine (bounded_any w Aq nw cq Q H.out (by omega)).mono ?_
                rintro e w1 ⟨rfl, rfl⟩
                rw [HB.out]
                go_wp2_with fail
                go_ret2
                exact ⟨rfl, rfl⟩
              · have g8 : 1099511627776 < cap := by omega
                clear hr
                go_enter Try.func15, Try.ntmps15
                go_wp2_with fail
                refine (shRight_any w Aw nw cw W HW.out).mono ?_
                rintro e w1 ⟨rfl, rfl⟩
                rw [HR.out]
                go_wp2_with fail
                refine (has_any w Aw nw cw cls).mono ?_
                rintro e w1 ⟨rfl, rfl⟩
                rw [HH.out]
                go_wp2_with fail
                go_ret2
                exact ⟨rfl, rfl⟩
            · have g7 : cap < size := by omega
              clear hr
              go_enter Try.func15, Try.ntmps15
              go_wp2_with fail
              refine (shRight_any w Aw nw cw W HW.out).mono ?_
              rintro e w1 ⟨rfl, rfl⟩
              rw [HR.out]
              go_wp2_with fail
              refine (has_any w Aw nw cw cls).mono ?_
              rintro e w1 ⟨rfl, rfl⟩
              rw [HH.out]
              go_wp2_with fail
              go_ret2
              exact ⟨rfl, rfl⟩
          · have g6 : 1048576 < size := by omega
            clear hr
            go_enter Try.func15, Try.ntmps15
            go_wp2_with fail
            refine (shRight_any w Aw nw cw W HW.out).mono ?_
            rintro e w1 ⟨rfl, rfl⟩
            rw [HR.out]
            go_wp2_with fail
            refine (has_any w Aw nw cw cls).mono ?_
            rintro e w1 ⟨rfl, rfl⟩
            rw [HH.out]
            go_wp2_with fail
            go_ret2
            exact ⟨rfl, rfl⟩
        · have g5 : size < 0 := by omega
          clear hr
          go_enter Try.func15, Try.ntmps15
          go_wp2_with fail
          refine (shRight_any w Aw nw cw W HW.out).mono ?_
          rintro e w1 ⟨rfl, rfl⟩
          rw [HR.out]
          go_wp2_with fail
          refine (has_any w Aw nw cw cls).mono ?_
          rintro e w1 ⟨rfl, rfl⟩
          rw [HH.out]
          go_wp2_with fail
          go_ret2
          exact ⟨rfl, rfl⟩
      · have HH : Hid ((decide (0 ≤ cls) && decide (cls < (nw : Int))) = false) := Lib.hid (by simp; omega)
        clear hr
        go_enter Try.func15, Try.ntmps15
        go_wp2_with fail
        refine (shRight_any w Aw nw cw W HW.out).mono ?_
        rintro e w1 ⟨rfl, rfl⟩
        rw [HR.out]
        go_wp2_with fail
        refine (has_any w Aw nw cw cls).mono ?_
        rintro e w1 ⟨rfl, rfl⟩
        rw [HH.out]
        go_wp2_with fail
        go_ret2
        exact ⟨rfl, rfl⟩
    · have heI : ((nq : Int) != (nw : Int)) = true := by simp; omega
      clear hr
      go_enter Try.func15, Try.ntmps15
      go_wp2_with fail
      refine (shRight_any w Aw nw cw W HW.out).mono ?_
      rintro e w1 ⟨rfl, rfl⟩
      rw [HR.out]
      go_wp2_with fail
      go_ret2
      exact ⟨rfl, rfl⟩
  · have hr2 : rightW W = false := by simpa using hr
    have HR := Lib.hid hr2
    clear hr2 hr
    go_enter Try.func15, Try.ntmps15
    go_wp2_with fail
    refine (shRight_any w Aw nw cw W HW.out).mono ?_
    rintro e w1 ⟨rfl, rfl⟩
    rw [HR.out]
    go_wp2_with fail
    go_ret2
    exact ⟨rfl, rfl⟩
end Go.Proofs.Ytfmfamnngfanfaa
