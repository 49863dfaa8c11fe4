/-
  WALK of BoardNil.
-/
import Derived.Test.YtbnhemmklbbnmaaBdLot23
import Derived.Test.YtbnhemmklbbnmaaBdLot21
import Derived.Test.YtbnhemmklbbnmaaBdLot11
namespace Go.Proofs.Ytbnhemmklbbnmaa
open Go.RowKit Go.Sort Go.Maps

theorem right_nat {F M : Int} (h : rightI F M = true) : ∃ f m : Nat, F = (f : Int) ∧ M = (m : Int) ∧ Pr f m := by
  unfold rightI at h
  simp only [Bool.and_eq_true, decide_eq_true_iff] at h
  exact ⟨F.toNat, M.toNat, by omega, by omega, ⟨by omega, by omega, by omega⟩⟩
/-- What New answers, whatever it is given. -/
def BNewAny (w : World) (F M : Int) (e : Ending) (w' : World) : Prop :=
  ∃ p : Option Addr, e = .returned (.tuple #[.pointer p, .int .i64 (if rightI F M then 0 else 1)]) ∧ p.isNone = !rightI F M ∧ RowKit.Below w.heap.size w w'
theorem bnew_any (w : World) (F M : Int) : Calls Try.prog 10 #[.agg #[.int .i64 F, .int .i64 M]] w (BNewAny w F M) := by
  cases h : rightI F M with
  | true =>
    obtain ⟨f, m, rfl, rfl, hp⟩ := right_nat h
    refine (bnewD w f m hp).mono ?_
    rintro e w' ⟨bd, S, rfl, _, hb⟩
    exact ⟨_, by rw [h]; rfl, by rw [h]; rfl, hb⟩
  | false =>
    refine (bnew_no w F M h).mono ?_
    rintro e w' ⟨rfl, hb⟩
    exact ⟨none, by rw [h]; rfl, by rw [h]; rfl, hb⟩
set_option maxRecDepth 100000 in
set_option maxHeartbeats 4000000 in
theorem boardNil_law (w : World) (F M : Int) (q : Int) (hq : 0 ≤ q ∧ q ≤ 18446744073709551615) (now : Int) (_hnow : -9223372036854775808 ≤ now ∧ now ≤ 9223372036854775807) :
    Calls Try.prog 6 #[prv F M, .int .u64 q, .int .i64 now] w (Says w (.bool true)) := by
  obtain ⟨k, rfl⟩ : ∃ k : Nat, q = (k : Int) := ⟨q.toNat, by omega⟩
  have hk : k < two64 := by unfold two64; omega
  clear hq
  unfold prv
  go_enter Try.func6, Try.ntmps6
  go_wp2_with fail
  refine (awake13_any _).mono ?_
  rintro e w1 ⟨rfl, hb1⟩
  have hb0 := below_box w (.cells #[.int .i64 F, .int .i64 M] 26)
  have hz0 : (w.alloc (.cells #[.int .i64 F, .int .i64 M] 26)).heap.size = w.heap.size + 1 := by simp
  have c0 : w1.cell? ⟨w.heap.size, 0, none⟩ = some (.int .i64 F) := (hb1.cell (p := ⟨w.heap.size, 0, none⟩) (show w.heap.size < _ by omega)).trans (cell_last w _ _ _ 0 rfl)
  have c1 : w1.cell? ⟨w.heap.size, 1, none⟩ = some (.int .i64 M) := (hb1.cell (p := ⟨w.heap.size, 1, none⟩) (show w.heap.size < _ by omega)).trans (cell_last w _ _ _ 1 rfl)
  have HB1 : Hid (RowKit.Below w.heap.size w w1) := hb0.trans (hb1.mono hb0.size)
  have hx1 : w.heap.size < w1.heap.size := by have := hb1.size; omega
  clear hb1 hb0 hz0
  obtain ⟨X, HX⟩ : ∃ X, Hid (X = w.heap.size) := ⟨_, rfl⟩
  rw [← HX.out] at c0 c1 hx1 ⊢
  go_wp2_with fail
  refine (bnew_any w1 F M).mono ?_
  rintro e w2 ⟨p, rfl, hp, hb2⟩
  have d0 := (hb2.cell (p := ⟨X, 0, none⟩) hx1).trans c0
  have d1 := (hb2.cell (p := ⟨X, 1, none⟩) hx1).trans c1
  have HB2 : Hid (RowKit.Below w.heap.size w w2) := HB1.out.trans (hb2.mono HB1.out.size)
  clear c0 c1 hb2 HB1 hx1
  obtain ⟨r, HR⟩ : ∃ r, Hid (r = rightI F M) := ⟨_, rfl⟩
  rw [← HR.out] at hp ⊢
  have HRA : Hid (Calls Try.prog 31 #[.agg #[.int .i64 F, .int .i64 M]] w2 (Ans w2 (.bool r))) := by
    rw [HR.out]
    exact right_any w2 F M
  cases r
  · obtain rfl : p = none := by simpa using hp
    clear hp
    simp only [Bool.false_eq_true, if_false]
    go_wp2_with fail
    refine (bclear_nil w2).mono ?_
    rintro e w3 ⟨rfl, rfl⟩
    go_wp2_with fail
    refine (bnext_nil w2).mono ?_
    rintro e w3 ⟨rfl, rfl⟩
    go_wp2_with fail
    refine HRA.out.mono ?_
    rintro e w3 ⟨rfl, hb3⟩
    have HB3 : Hid (RowKit.Below w.heap.size w w3) := HB2.out.trans (hb3.mono HB2.out.size)
    clear hb3 d0 d1 HRA HB2
    go_wp2_with fail
    have HB4 : Hid (RowKit.Below w.heap.size w (w3.alloc (.cells #[.int .u64 (k : Int)] 34))) := HB3.out.trans ((below_box w3 _).mono HB3.out.size)
    generalize w3.alloc (.cells #[.int .u64 (k : Int)] 34) = w4 at *
    refine (bsend_nil w4 now _ _ _).mono ?_
    rintro e w5 ⟨rfl, rfl⟩
    go_wp2_with fail
    have HB5 : Hid (RowKit.Below w.heap.size w (w4.alloc (.cells #[.int .u64 (k : Int)] 34))) := HB4.out.trans ((below_box w4 _).mono HB4.out.size)
    have hsn : Sn (w4.alloc (.cells #[.int .u64 (k : Int)] 34)) (w4.alloc (.cells #[.int .u64 (k : Int)] 34)).heap.size (some ⟨w4.heap.size, 0, none⟩) 1 1 1 (nvs [k]) := lit_nvs w4 [k] 1 rfl (by unfold maxLen; omega)
    have HO := Lib.hid (ofA_any _ _ 1 1 [k] hsn (fun x hx => by rw [List.mem_singleton] at hx; subst hx; exact hk) (by omega))
    clear hsn HB3 HB4
    refine HO.out.mono ?_
    rintro e w6 ⟨Ar, rn, rc, rfl, hst, hne, hb6⟩
    have HB6 : Hid (RowKit.Below w.heap.size w w6) := HB5.out.trans (hb6.mono HB5.out.size)
    clear hst hne hb6 HB5 HO
    go_wp2_with fail
    refine (btake_nil w6 Ar rn rc).mono ?_
    rintro e w7 ⟨rfl, hb7⟩
    have HB7 : Hid (RowKit.Below w.heap.size w w7) := HB6.out.trans (hb7.mono HB6.out.size)
    clear hb7 HB6
    go_wp2_with fail
    refine (bdue_nil w7 now).mono ?_
    rintro e w8 ⟨rfl, rfl⟩
    go_wp2_with fail
    refine (bhas_of w7 none (k : Int) 0 (btries_nil w7 (k : Int))).mono ?_
    rintro e w8 ⟨rfl, rfl⟩
    go_wp2_with fail
    refine (bflight_nil w7).mono ?_
    rintro e w8 ⟨A8, n8, c8, rfl, hst8, hne8, hb8⟩
    have HB8 : Hid (RowKit.Below w.heap.size w w8) := HB7.out.trans (hb8.mono HB7.out.size)
    have HSM := Lib.hid (setSame_any w8 A8 none n8 c8 0 0 [] [] hst8.rs (Rs.nil_ w8 _ none 0 (Nat.zero_le _)))
    clear hst8 hne8 hb8 HB7
    go_wp2_with fail
    refine HSM.out.mono ?_
    rintro e w9 ⟨rfl, hb9⟩
    have HB9 : Hid (RowKit.Below w.heap.size w w9) := HB8.out.trans (hb9.mono HB8.out.size)
    clear hb9 HB8 HSM
    rw [show sameR [] [] = true from rfl]
    go_wp2_with fail
    refine (bcount_nil w9).mono ?_
    rintro e w10 ⟨rfl, rfl⟩
    go_wp2_with fail
    refine (btries_nil w9 (k : Int)).mono ?_
    rintro e w10 ⟨rfl, rfl⟩
    go_wp2_with fail
    go_ret
    exact ⟨rfl, HB9.out⟩
  · obtain ⟨a, rfl⟩ : ∃ a, p = some a := by
      cases p with
      | none => simp at hp
      | some a => exact ⟨a, rfl⟩
    clear hp
    simp only [if_true]
    go_wp2_with fail
    refine (bclear_nil w2).mono ?_
    rintro e w3 ⟨rfl, rfl⟩
    go_wp2_with fail
    refine (bnext_nil w2).mono ?_
    rintro e w3 ⟨rfl, rfl⟩
    go_wp2_with fail
    refine HRA.out.mono ?_
    rintro e w3 ⟨rfl, hb3⟩
    have HB3 : Hid (RowKit.Below w.heap.size w w3) := HB2.out.trans (hb3.mono HB2.out.size)
    clear hb3 d0 d1 HRA HB2
    go_wp2_with fail
    have HB4 : Hid (RowKit.Below w.heap.size w (w3.alloc (.cells #[.int .u64 (k : Int)] 34))) := HB3.out.trans ((below_box w3 _).mono HB3.out.size)
    generalize w3.alloc (.cells #[.int .u64 (k : Int)] 34) = w4 at *
    refine (bsend_nil w4 now _ _ _).mono ?_
    rintro e w5 ⟨rfl, rfl⟩
    go_wp2_with fail
    have HB5 : Hid (RowKit.Below w.heap.size w (w4.alloc (.cells #[.int .u64 (k : Int)] 34))) := HB4.out.trans ((below_box w4 _).mono HB4.out.size)
    have hsn : Sn (w4.alloc (.cells #[.int .u64 (k : Int)] 34)) (w4.alloc (.cells #[.int .u64 (k : Int)] 34)).heap.size (some ⟨w4.heap.size, 0, none⟩) 1 1 1 (nvs [k]) := lit_nvs w4 [k] 1 rfl (by unfold maxLen; omega)
    have HO := Lib.hid (ofA_any _ _ 1 1 [k] hsn (fun x hx => by rw [List.mem_singleton] at hx; subst hx; exact hk) (by omega))
    clear hsn HB3 HB4
    refine HO.out.mono ?_
    rintro e w6 ⟨Ar, rn, rc, rfl, hst, hne, hb6⟩
    have HB6 : Hid (RowKit.Below w.heap.size w w6) := HB5.out.trans (hb6.mono HB5.out.size)
    clear hst hne hb6 HB5 HO
    go_wp2_with fail
    refine (btake_nil w6 Ar rn rc).mono ?_
    rintro e w7 ⟨rfl, hb7⟩
    have HB7 : Hid (RowKit.Below w.heap.size w w7) := HB6.out.trans (hb7.mono HB6.out.size)
    clear hb7 HB6
    go_wp2_with fail
    refine (bdue_nil w7 now).mono ?_
    rintro e w8 ⟨rfl, rfl⟩
    go_wp2_with fail
    refine (bhas_of w7 none (k : Int) 0 (btries_nil w7 (k : Int))).mono ?_
    rintro e w8 ⟨rfl, rfl⟩
    go_wp2_with fail
    refine (bflight_nil w7).mono ?_
    rintro e w8 ⟨A8, n8, c8, rfl, hst8, hne8, hb8⟩
    have HB8 : Hid (RowKit.Below w.heap.size w w8) := HB7.out.trans (hb8.mono HB7.out.size)
    have HSM := Lib.hid (setSame_any w8 A8 none n8 c8 0 0 [] [] hst8.rs (Rs.nil_ w8 _ none 0 (Nat.zero_le _)))
    clear hst8 hne8 hb8 HB7
    go_wp2_with fail
    refine HSM.out.mono ?_
    rintro e w9 ⟨rfl, hb9⟩
    have HB9 : Hid (RowKit.Below w.heap.size w w9) := HB8.out.trans (hb9.mono HB8.out.size)
    clear hb9 HB8 HSM
    rw [show sameR [] [] = true from rfl]
    go_wp2_with fail
    refine (bcount_nil w9).mono ?_
    rintro e w10 ⟨rfl, rfl⟩
    go_wp2_with fail
    refine (btries_nil w9 (k : Int)).mono ?_
    rintro e w10 ⟨rfl, rfl⟩
    go_wp2_with fail
    go_ret
    exact ⟨rfl, HB9.out⟩
end Go.Proofs.Ytbnhemmklbbnmaa
