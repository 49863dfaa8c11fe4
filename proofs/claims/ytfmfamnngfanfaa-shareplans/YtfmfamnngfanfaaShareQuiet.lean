/-
  CONTRACTS of Excess, the program's and the reference's, once more: they only draw.
  No statement is proved here.
-/
import Derived.Test.YtfmfamnngfanfaaLawEnough
namespace Go.Proofs.Ytfmfamnngfanfaa
open Go.RowKit

set_option maxRecDepth 100000 in
set_option maxHeartbeats 1000000 in
theorem exc_q (w : World) (cap : Int) (A : Option Addr) (n c : Nat) (L : List Int) (k b : Int) (h : Is w w.heap.size A n c L) (hcap : -281474976710656 ≤ cap ∧ cap ≤ 281474976710656) (hb : -281474976710656 ≤ b ∧ b ≤ 281474976710656) :
    Calls Try.prog 78 #[.int .i64 cap, .slice A n c, .int .i64 k, .int .i64 b] w (fun e w' => e = .returned (.int .i64 (excW cap L k b)) ∧ ∃ q, w' = w.drewN q) := by
  have H := Lib.hid h
  have HL := Lib.hid h.len
  clear h
  by_cases hr : rightW L = true
  · have HF := Lib.hid (right_facts hr)
    by_cases hk : 0 ≤ k ∧ k < (n : Int)
    · obtain ⟨hk0, hk1⟩ := hk
      have hd : (decide (0 ≤ k) && decide (k < (n : Int))) = true := by simp [hk0, hk1]
      obtain ⟨j, rfl⟩ := Int.eq_ofNat_of_zero_le hk0
      obtain ⟨blk, o, x, rfl, hbl, hx, hc, hxr⟩ := H.out.at_ (j := j) (by omega)
      have hxx := HF.out.2.2.1 x (List.mem_of_getElem? hx)
      have he : excW cap L j b = b * isum L - cap * x := by
        unfold excW
        rw [if_pos ⟨hr, by omega, by have := HL.out; omega⟩]
        simp [hx]
      have HE := Lib.hid he
      have HR := Lib.hid hr
      have HD := Lib.hid hd
      have hS := HF.out.2.2.2.1
      have hS2 := HF.out.2.2.2.2
      have hS3 := isum_nn hS.nn
      have HS := Lib.hid hS
      clear he hr hd hx hS
      go_enter Try.func78, Try.ntmps78
      go_wp2_with fail
      refine (shRight_any w _ n c L H.out).mono ?_
      rintro e w1 ⟨rfl, rfl⟩
      rw [HR.out]
      go_wp2_with fail
      refine (has_any w _ n c j).mono ?_
      rintro e w1 ⟨rfl, rfl⟩
      rw [HD.out]
      go_wp2_with fail
      go_quiet (first | (go_at_call 79; exact Calls.quiet_of_same ((sum_any _ _ n c L (H.out.drewN _) HS.out).mono fun _ _ h => ⟨h.1, h.2.symm⟩)) | (go_at_call 96; exact Calls.quiet_of_same ((diff_any _ _ _ _ _ hb (And.intro hS3 hS2) hcap (And.intro (by omega) hxx.2)).mono fun _ _ h => ⟨h.1, h.2.symm⟩)))
      go_wp2_with fail
      go_ret
      exact ⟨by rw [HE.out]; rfl, _, rfl⟩
    · have hd : (decide (0 ≤ k) && decide (k < (n : Int))) = false := by simp; omega
      have he : excW cap L k b = 0 := by
        unfold excW
        rw [if_neg (fun h => hk ⟨h.2.1, by have := HL.out; omega⟩)]
      have HE := Lib.hid he
      have HR := Lib.hid hr
      have HD := Lib.hid hd
      clear he hr hd
      go_enter Try.func78, Try.ntmps78
      go_wp2_with fail
      refine (shRight_any w A n c L H.out).mono ?_
      rintro e w1 ⟨rfl, rfl⟩
      rw [HR.out]
      go_wp2_with fail
      refine (has_any w A n c k).mono ?_
      rintro e w1 ⟨rfl, rfl⟩
      rw [HD.out]
      go_wp2_with fail
      go_ret
      exact ⟨by rw [HE.out]; rfl, 0, rfl⟩
  · have hr2 : rightW L = false := by simpa using hr
    have he : excW cap L k b = 0 := by
      unfold excW
      rw [if_neg (fun h => hr h.1)]
    have HE := Lib.hid he
    have HR := Lib.hid hr2
    clear he hr hr2
    go_enter Try.func78, Try.ntmps78
    go_wp2_with fail
    refine (shRight_any w A n c L H.out).mono ?_
    rintro e w1 ⟨rfl, rfl⟩
    rw [HR.out]
    go_wp2_with fail
    go_ret
    exact ⟨by rw [HE.out]; rfl, 0, rfl⟩
set_option maxRecDepth 100000 in
set_option maxHeartbeats 1000000 in
theorem refExc_q (w : World) (cap : Int) (A : Option Addr) (n c : Nat) (L : List Int) (k b : Int) (h : Is w w.heap.size A n c L) (hcap : -281474976710656 ≤ cap ∧ cap ≤ 281474976710656) (hb : -281474976710656 ≤ b ∧ b ≤ 281474976710656) :
    Calls Try.prog 56 #[.int .i64 cap, .slice A n c, .int .i64 k, .int .i64 b] w (fun e w' => e = .returned (.int .i64 (excW cap L k b)) ∧ ∃ q, w' = w.drewN q) := by
  have H := Lib.hid h
  have HL := Lib.hid h.len
  have hnM : n ≤ 9223372036854775807 := Nat.le_trans h.sn.le h.sn.max
  clear h
  by_cases hr : rightW L = true
  · have HF := Lib.hid (right_facts hr)
    have HR := Lib.hid hr
    clear hr
    by_cases hk0 : 0 ≤ k
    · by_cases hk1 : k < (n : Int)
      · obtain ⟨j, rfl⟩ := Int.eq_ofNat_of_zero_le hk0
        obtain ⟨blk, o, x, rfl, hbl, hx, hc, hxr⟩ := H.out.at_ (j := j) (by omega)
        have hxx := HF.out.2.2.1 x (List.mem_of_getElem? hx)
        have he : excW cap L j b = b * isum L - cap * x := by
          unfold excW
          rw [if_pos ⟨HR.out, by omega, by have := HL.out; omega⟩]
          simp [hx]
        have hS := HF.out.2.2.2.1
        have hS2 := HF.out.2.2.2.2
        have hS3 := isum_nn hS.nn
        have m1 := mul_in (x := b) (m := isum L) (X := 281474976710656) (M := 8000) (by omega) ⟨hS3, hS2⟩ (by omega)
        have m2 := mul_in (x := cap) (m := x) (X := 281474976710656) (M := 1000) (by omega) ⟨by omega, hxx.2⟩ (by omega)
        have w1 : wrap64 (b * isum L) = b * isum L := w64 (by omega)
        have w2 : wrap64 (cap * x) = cap * x := w64 (by omega)
        have w3 : wrap64 (b * isum L - cap * x) = b * isum L - cap * x := w64 (by omega)
        have HS := Lib.hid hS
        have HE := Lib.hid he
        have HW := Lib.hid (And.intro w1 (And.intro w2 w3))
        clear he hx hS m1 m2 w1 w2 w3 hcap hb
        go_enter Try.func56, Try.ntmps56
        go_wp2_with fail
        refine (refRight8_any w _ n c L H.out).mono ?_
        rintro e w1 ⟨rfl, rfl⟩
        rw [HR.out]
        go_wp2_with fail
        go_quiet (first | (go_at_call 55; exact Calls.quiet_of_same ((refSum_any _ _ n c L (H.out.drewN _) HS.out).mono fun _ _ h => ⟨h.1, h.2.symm⟩)))
        go_wp2_with fail
        go_ret
        refine ⟨?_, _, rfl⟩
        have h1 := HW.out
        show Ending.returned (.int .i64 (wrap64 (wrap64 (b * isum L) - wrap64 (cap * x)))) = _
        rw [h1.1, h1.2.1, h1.2.2, HE.out]
      · have HE : Hid (excW cap L k b = 0) := by
          show _ = _
          unfold excW
          rw [if_neg (fun h => hk1 (by have := h.2.2; have := HL.out; omega))]
        go_enter Try.func56, Try.ntmps56
        go_wp2_with fail
        refine (refRight8_any w A n c L H.out).mono ?_
        rintro e w1 ⟨rfl, rfl⟩
        rw [HR.out]
        go_wp2_with fail
        go_ret
        exact ⟨by rw [HE.out]; rfl, 0, rfl⟩
    · have HE : Hid (excW cap L k b = 0) := by
        show _ = _
        unfold excW
        rw [if_neg (fun h => hk0 h.2.1)]
      go_enter Try.func56, Try.ntmps56
      go_wp2_with fail
      refine (refRight8_any w A n c L H.out).mono ?_
      rintro e w1 ⟨rfl, rfl⟩
      rw [HR.out]
      go_wp2_with fail
      go_ret
      exact ⟨by rw [HE.out]; rfl, 0, rfl⟩
  · have hr2 : rightW L = false := by simpa using hr
    have HE : Hid (excW cap L k b = 0) := by
      show _ = _
      unfold excW
      rw [if_neg (fun h => hr h.1)]
    have HR := Lib.hid hr2
    clear hr hr2
    go_enter Try.func56, Try.ntmps56
    go_wp2_with fail
    refine (refRight8_any w A n c L H.out).mono ?_
    rintro e w1 ⟨rfl, rfl⟩
    rw [HR.out]
    go_wp2_with fail
    go_ret
    exact ⟨by rw [HE.out]; rfl, 0, rfl⟩
end Go.Proofs.Ytfmfamnngfanfaa
