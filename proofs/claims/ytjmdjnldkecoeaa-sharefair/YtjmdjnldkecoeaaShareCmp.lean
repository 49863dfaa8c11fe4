/-
  WORDS for lines (of share's heap); CONTRACTS of cmp's isNaN, Compare, Or at ints; lines' Less.
  No statement is proved here.
-/
import Derived.Test.YtjmdjnldkecoeaaShareThree
import Derived.Test.YtjmdjnldkecoeaaHeapMath
import Derived.Deep.RegionHeld3
namespace Go.Proofs.Ytjmdjnldkecoeaa
open Go.RowKit Go.Sort

/-- The world put aside: what is left of it is Q. -/
theorem absW {K : Act → World → Prop} {t : Act} {W : World} {Q : World → Prop} (hq : Q W) (k : ∀ wa, Q wa → K t wa) : K t W := k W hq

theorem nan64_any (w : World) (x : Int) : Calls Try.prog 127 #[.int .i64 x] w fun e w' => e = .returned (.bool false) ∧ w = w' := by
  go_enter Try.func127, Try.ntmps127
  go_wp2
  go_ret
  exact ⟨rfl, rfl⟩
theorem nanI_any (w : World) (x : Int) : Calls Try.prog 128 #[.int .i64 x] w fun e w' => e = .returned (.bool false) ∧ w = w' := by
  go_enter Try.func128, Try.ntmps128
  go_wp2
  go_ret
  exact ⟨rfl, rfl⟩
def cmpI (x y : Int) : Int := if x < y then -1 else if y < x then 1 else 0
set_option maxRecDepth 100000 in
theorem cmp64_any (w : World) (x y : Int) : Calls Try.prog 125 #[.int .i64 x, .int .i64 y] w fun e w' => e = .returned (.int .i64 (cmpI x y)) ∧ w = w' := by
  by_cases h1 : x < y
  · have HE : Hid (cmpI x y = -1) := if_pos h1
    go_enter Try.func125, Try.ntmps125
    go_wp2_with (go_at_call 127; refine (nan64_any _ _).mono ?_; rintro e w1 ⟨rfl, rfl⟩)
    go_ret
    exact ⟨by rw [HE.out]; rfl, rfl⟩
  · by_cases h2 : y < x
    · have HE : Hid (cmpI x y = 1) := by show _ = _; unfold cmpI; rw [if_neg h1, if_pos h2]
      go_enter Try.func125, Try.ntmps125
      go_wp2_with (go_at_call 127; refine (nan64_any _ _).mono ?_; rintro e w1 ⟨rfl, rfl⟩)
      go_ret
      exact ⟨by rw [HE.out]; rfl, rfl⟩
    · have HE : Hid (cmpI x y = 0) := by show _ = _; unfold cmpI; rw [if_neg h1, if_neg h2]
      go_enter Try.func125, Try.ntmps125
      go_wp2_with (go_at_call 127; refine (nan64_any _ _).mono ?_; rintro e w1 ⟨rfl, rfl⟩)
      go_ret
      exact ⟨by rw [HE.out]; rfl, rfl⟩
set_option maxRecDepth 100000 in
theorem cmpInt_any (w : World) (x y : Int) : Calls Try.prog 126 #[.int .i64 x, .int .i64 y] w fun e w' => e = .returned (.int .i64 (cmpI x y)) ∧ w = w' := by
  by_cases h1 : x < y
  · have HE : Hid (cmpI x y = -1) := if_pos h1
    go_enter Try.func126, Try.ntmps126
    go_wp2_with (go_at_call 128; refine (nanI_any _ _).mono ?_; rintro e w1 ⟨rfl, rfl⟩)
    go_ret
    exact ⟨by rw [HE.out]; rfl, rfl⟩
  · by_cases h2 : y < x
    · have HE : Hid (cmpI x y = 1) := by show _ = _; unfold cmpI; rw [if_neg h1, if_pos h2]
      go_enter Try.func126, Try.ntmps126
      go_wp2_with (go_at_call 128; refine (nanI_any _ _).mono ?_; rintro e w1 ⟨rfl, rfl⟩)
      go_ret
      exact ⟨by rw [HE.out]; rfl, rfl⟩
    · have HE : Hid (cmpI x y = 0) := by show _ = _; unfold cmpI; rw [if_neg h1, if_neg h2]
      go_enter Try.func126, Try.ntmps126
      go_wp2_with (go_at_call 128; refine (nanI_any _ _).mono ?_; rintro e w1 ⟨rfl, rfl⟩)
      go_ret
      exact ⟨by rw [HE.out]; rfl, rfl⟩
def orI (a b : Int) : Int := if a = 0 then b else a
def OrRel (w : World) (a b : Int) (gk : Nat) (vi : Value) (wr : World) : Prop :=
  ∃ k, gk + k = 2 ∧ vi = .int .i64 (k : Int) ∧ (1 ≤ k → a = 0) ∧ (2 ≤ k → b = 0) ∧ w = wr
set_option maxRecDepth 100000 in
set_option maxHeartbeats 1000000 in
theorem or_any (w : World) (blk : Nat) (a b : Int) (c0 : w.cell? ⟨blk, 0, none⟩ = some (.int .i64 a)) (c1 : w.cell? ⟨blk, 1, none⟩ = some (.int .i64 b)) :
    Calls Try.prog 124 #[.slice (some ⟨blk, 0, none⟩) 2 2] w fun e w' => e = .returned (.int .i64 (orI a b)) ∧ w = w' := by
  go_enter Try.func124, Try.ntmps124
  go_wp2_with fail
  go_loopg [8] 2 (fun gk vi wr => OrRel w a b gk vi wr)
  case atStart => exact ⟨0, rfl, rfl, by omega, by omega, rfl⟩
  case round =>
    obtain ⟨k, hk, rfl, ha, hb, rfl⟩ := hrel
    rcases k with _ | _ | k
    · by_cases h : a = 0
      · have hB : (a != 0) = false := by simp [h]
        have HA := Lib.hid h
        clear ha hb h
        go_wp2_with fail
        go_roundg (gk - 1)
        case measure => omega
        case rel => exact ⟨1, by omega, by go_num, fun _ => HA.out, by omega, rfl⟩
      · have hB : (a != 0) = true := by simp [h]
        have HE : Hid (orI a b = a) := if_neg h
        clear ha hb h
        go_wp2_with fail
        go_ret
        exact ⟨by rw [HE.out]; rfl, rfl⟩
    · have HA := Lib.hid (ha (by omega))
      by_cases h : b = 0
      · have hB : (b != 0) = false := by simp [h]
        have HB := Lib.hid h
        clear ha hb h
        go_wp2_with fail
        go_roundg (gk - 1)
        case measure => omega
        case rel => exact ⟨2, by omega, by go_num, fun _ => HA.out, fun _ => HB.out, rfl⟩
      · have hB : (b != 0) = true := by simp [h]
        have HE : Hid (orI a b = b) := by show _ = _; unfold orI; rw [if_pos HA.out]
        clear ha hb h
        go_wp2_with fail
        go_ret
        exact ⟨by rw [HE.out]; rfl, rfl⟩
    · have HE : Hid (orI a b = 0) := by show _ = _; unfold orI; rw [if_pos (ha (by omega)), hb (by omega)]
      have hn : ¬ ((k + 1 + 1 : Nat) : Int) < 2 := by omega
      clear ha hb
      go_wp2_with fail
      go_ret
      exact ⟨by rw [HE.out]; rfl, rfl⟩

/-! ### Lines -/
structure Ln where
  cls : Nat
  plc : Nat
  A : Option Addr
  n : Nat
  c : Nat
  byt : Int
  exc : Int
instance : Inhabited Ln := ⟨⟨0, 0, none, 0, 0, 0, 0⟩⟩
def lv (x : Ln) : List Value := [.int .i64 (x.cls : Int), .int .i64 (x.plc : Int), .slice x.A x.n x.c, .int .i64 x.byt, .int .i64 x.exc]
def lvs (L : List Ln) : List Value := L.flatMap lv
theorem lvs_len (L : List Ln) : (lvs L).length = L.length * 5 := by
  induction L with
  | nil => rfl
  | cons a L ih => unfold lvs at *; rw [List.flatMap_cons, List.length_append, ih, List.length_cons]; simp [lv]; omega
theorem lvs_app (L M : List Ln) : lvs (L ++ M) = lvs L ++ lvs M := by unfold lvs; rw [List.flatMap_append]
theorem lvs_cons (a : Ln) (L : List Ln) : lvs (a :: L) = lv a ++ lvs L := rfl
theorem lvs_one1 (a : Ln) : lvs [a] = lv a := by simp [lvs]
theorem lv_one (x : Ln) : ∀ u ∈ lv x, u.oneCell' = true := by
  intro u h
  simp only [lv, List.mem_cons, List.not_mem_nil, or_false] at h
  rcases h with rfl | rfl | rfl | rfl | rfl <;> rfl
theorem lvs_one (L : List Ln) : ∀ u ∈ lvs L, u.oneCell' = true := by
  intro u hu
  obtain ⟨r, _, h⟩ := List.mem_flatMap.1 hu
  exact lv_one r u h
theorem lvs_at {L : List Ln} {j t : Nat} {x : Ln} (h : L[j]? = some x) (ht : t < 5) : (lvs L)[j * 5 + t]? = (lv x)[t]? := by
  induction L generalizing j with
  | nil => simp at h
  | cons a L ih =>
    have hl : (lv a).length = 5 := rfl
    rw [lvs_cons]
    rcases j with _ | j
    · simp at h
      subst h
      rw [List.getElem?_append_left (by omega)]
      congr 1
      omega
    · have := ih (j := j) (by simpa using h)
      rw [List.getElem?_append_right (by omega), show (j + 1) * 5 + t - (lv a).length = j * 5 + t from by omega]
      exact this
def lessL (a b : Ln) : Bool := decide (b.exc < a.exc) || (decide (b.exc = a.exc) && decide (a.cls < b.cls))
theorem lessL_wk : Wk lessL := by
  refine ⟨fun a b c => ?_, fun a b => ?_⟩
  · unfold lessL
    simp
    omega
  · unfold lessL
    simp
    omega
theorem less_is (a b : Ln) : decide (orI (cmpI b.exc a.exc) (cmpI a.cls b.cls) < 0) = lessL a b := by
  unfold orI cmpI lessL
  rw [Bool.eq_iff_iff]
  simp
  split <;> split <;> (try split) <;> (try split) <;> (try split) <;> omega
end Go.Proofs.Ytjmdjnldkecoeaa
