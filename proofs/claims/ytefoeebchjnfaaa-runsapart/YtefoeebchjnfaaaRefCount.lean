/-
  CONTRACTS of the reference's Gap and Count.
  No statement is proved here.
-/
import Derived.Test.YtefoeebchjnfaaaRefPlain
namespace Go.Proofs.Ytefoeebchjnfaaa
open Go.RowKit

theorem gap_skip {r : Rn} {s : List Rn} (h : Canon (r :: s)) {v : Nat} (hv : ¬ (r.1 ≤ v ∧ v ≤ r.2)) : gapL (r :: s) v = gapL s v := by
  unfold gapL
  by_cases h1 : r.2 < v
  · rw [reachL_lo h1]
  · rw [reachL_hi h1]
    have h2 : v < r.1 := by omega
    simp only [if_pos h2]
    have h3 := h.ok r List.mem_cons_self
    cases s with
    | nil => rfl
    | cons q s =>
      have h4 := (List.pairwise_cons.1 h.far).1 q List.mem_cons_self
      have h5 := h.ok q (List.mem_cons_of_mem _ List.mem_cons_self)
      rw [reachL_hi (by omega)]
      simp only [if_pos (show v < q.1 by omega)]
theorem gap_hit {r : Rn} {s : List Rn} {v : Nat} (h1 : r.1 ≤ v) (h2 : v ≤ r.2) : gapL (r :: s) v = if r.2 = two64 - 1 then (0, false) else (r.2 + 1, true) := by
  unfold gapL
  rw [reachL_hi (by omega)]
  simp only [if_neg (show ¬ v < r.1 by omega)]
theorem canon_drop {L : List Rn} (h : Canon L) (k : Nat) : Canon (L.drop k) := ⟨List.Pairwise.sublist (List.drop_sublist _ _) h.far, fun q hq => h.ok q (List.mem_of_mem_drop hq)⟩
def GapRel (w : World) (P : List Rn) (v gk : Nat) (vi : Value) (wr : World) : Prop :=
  ∃ k : Nat, gk + k = P.length ∧ vi = .int .i64 (k : Int) ∧ gapL P v = gapL (P.drop k) v ∧ Below w.heap.size w wr
set_option maxRecDepth 100000 in
set_option maxHeartbeats 1000000 in
theorem refGap_any (w : World) (A : Option Addr) (n c v : Nat) (l : List Rn) (hs : Rs w w.heap.size A n c l) (hn : n ≤ 100000) :
    Calls Try.prog 22 #[.slice A n c, .int .u64 (v : Int)] w (Says w (.tuple #[.int .u64 ((gapL (setL l) v).1 : Int), .bool (gapL (setL l) v).2])) := by
  have H := Lib.hid hs
  have HOK := Lib.hid (set_spec l hs.lt).1
  obtain ⟨R, HR⟩ : ∃ R, Hid (R = gapL (setL l) v) := ⟨_, rfl⟩
  rw [← HR.out]
  clear hs
  go_enter Try.func22, Try.ntmps22
  go_wp2_with fail
  refine (plain_any w A n c l H.out hn).mono ?_
  rintro e w1 ⟨A1, n1, c1, rfl, hs1, hb1⟩
  have HS1 := Lib.hid hs1
  have HB1 := Lib.hid hb1
  have HLEN : Hid ((setL l).length = n1) := hs1.len
  have hmax := hs1.sn.max
  have hle := hs1.sn.le
  unfold maxLen at hmax
  clear hs1 hb1
  generalize setL l = P at *
  go_wp2
  go_loopg [11] n1 (fun gk vi wr => GapRel w1 P v gk vi wr)
  case atStart => exact ⟨0, by have := HLEN.out; omega, rfl, rfl, Below.refl _ _⟩
  case round =>
    obtain ⟨k, hg, rfl, hm, hbel⟩ := hrel
    have HG := Lib.hid hg
    have HM := Lib.hid hm
    clear hg hm
    have hsr := HS1.out.below hbel (Nat.le_refl _)
    have HBW : Hid (Below w.heap.size w wr) := HB1.out.trans (hbel.mono HB1.out.size)
    by_cases hk : k < n1
    · have hkI : (k : Int) < (n1 : Int) := by omega
      have hk0 : (0 : Int) ≤ (k : Int) := by omega
      obtain ⟨b, o, r, rfl, hbB, hx, hq0, hq1, h1, h2⟩ := hsr.at_ hk
      have HDR := Lib.hid (drop_at hx)
      have HCD : Hid (Canon (r :: P.drop (k + 1))) := by rw [← HDR.out]; exact canon_drop HOK.out.can k
      unfold two64 at h1 h2
      clear hx hsr
      have HSK : Hid (¬ (r.1 ≤ v ∧ v ≤ r.2) → gapL P v = gapL (P.drop (k + 1)) v) := fun h => by rw [HM.out, HDR.out, gap_skip HCD.out h]
      by_cases h3 : r.1 ≤ v
      · have h3I : (r.1 : Int) ≤ (v : Int) := by omega
        by_cases h4 : v ≤ r.2
        · have h4I : (v : Int) ≤ (r.2 : Int) := by omega
          have HV : Hid (R = if r.2 = two64 - 1 then (0, false) else (r.2 + 1, true)) := by show _ = _; rw [HR.out, HM.out, HDR.out, gap_hit h3 h4]
          have HBX : Hid (Below w.heap.size w (wr.alloc (.cells #[.int .u64 (r.1 : Int), .int .u64 (r.2 : Int)] 49))) := HBW.out.trans ((below_box wr _).mono HBW.out.size)
          by_cases h5 : r.2 = 18446744073709551615
          · have h5I : ¬ (r.2 : Int) < 18446744073709551615 := by omega
            have HV2 : Hid (R = (0, false)) := by show _ = _; rw [HV.out]; unfold two64; rw [if_pos (by omega)]
            have hw : IntKind.u64.wrap ((r.2 : Int) + 1) = 0 := by rw [IntKind.wrap_u64]; omega
            have h5D : decide ((r.2 : Int) < 18446744073709551615) = false := by simp; omega
            clear h5
            go_wp2_with fail
            go_quiet (fail)
            go_wp2
            go_ret2
            exact ⟨by rw [HV2.out]; rfl, below_drewN HBX.out _⟩
          · have h5I : (r.2 : Int) < 18446744073709551615 := by omega
            have HV2 : Hid (R = (r.2 + 1, true)) := by show _ = _; rw [HV.out]; unfold two64; rw [if_neg (by omega)]
            have hw : IntKind.u64.wrap ((r.2 : Int) + 1) = (r.2 : Int) + 1 := by rw [IntKind.wrap_u64]; omega
            clear h5
            go_wp2_with fail
            go_quiet (fail)
            go_wp2
            go_ret2
            exact ⟨by rw [HV2.out]; simp, below_drewN HBX.out _⟩
        · have h4I : ¬ (v : Int) ≤ (r.2 : Int) := by omega
          go_wp2
          go_roundg (gk - 1)
          case measure => have := HG.out; have := HLEN.out; omega
          case rel => exact ⟨k + 1, by have := HG.out; have := HLEN.out; omega, by go_num, HSK.out (fun h => h4 h.2), hbel.trans ((below_box wr _).mono hbel.size)⟩
      · have h3I : ¬ (r.1 : Int) ≤ (v : Int) := by omega
        go_wp2
        go_roundg (gk - 1)
        case measure => have := HG.out; have := HLEN.out; omega
        case rel => exact ⟨k + 1, by have := HG.out; have := HLEN.out; omega, by go_num, HSK.out (fun h => h3 h.1), hbel.trans ((below_box wr _).mono hbel.size)⟩
    · have hkI : ¬ (k : Int) < (n1 : Int) := by omega
      have HV : Hid (R = (v, true)) := by show _ = _; rw [HR.out, HM.out, List.drop_eq_nil_of_le (by have := HLEN.out; omega)]; rfl
      clear hsr
      go_wp2
      go_ret2
      exact ⟨by rw [HV.out]; rfl, HBW.out⟩

/-! ### Count -/
theorem card_app (L M : List Rn) : cardL (L ++ M) = cardL L + cardL M := by
  induction L with
  | nil => simp [cardL]
  | cons r s ih => rw [List.cons_append, cardL, cardL, ih]; omega
def CouRel (w : World) (P : List Rn) (gk : Nat) (vc vi : Value) (wr : World) : Prop :=
  ∃ k a : Nat, gk + k = P.length ∧ vc = .int .u64 (a : Int) ∧ vi = .int .i64 (k : Int) ∧ a + cardL (P.drop k) = cardL P ∧ a < two64 ∧ Below w.heap.size w wr
set_option maxRecDepth 100000 in
set_option maxHeartbeats 1000000 in
theorem refCount_any (w : World) (A : Option Addr) (n c : Nat) (l : List Rn) (hs : Rs w w.heap.size A n c l) (hn : n ≤ 100000) :
    Calls Try.prog 28 #[.slice A n c] w (Says w (.int .u64 (cntL (setL l) : Int))) := by
  have H := Lib.hid hs
  have HOK := Lib.hid (set_spec l hs.lt).1
  obtain ⟨R, HR⟩ : ∃ R, Hid (R = cntL (setL l)) := ⟨_, rfl⟩
  rw [← HR.out]
  clear hs
  go_enter Try.func28, Try.ntmps28
  go_wp2_with fail
  refine (plain_any w A n c l H.out hn).mono ?_
  rintro e w1 ⟨A1, n1, c1, rfl, hs1, hb1⟩
  have HS1 := Lib.hid hs1
  have HB1 := Lib.hid hb1
  have HLEN : Hid ((setL l).length = n1) := hs1.len
  have hmax := hs1.sn.max
  have hle := hs1.sn.le
  unfold maxLen at hmax
  clear hs1 hb1
  generalize setL l = P at *
  have HCC : Hid (R = if cardL P = two64 then two64 - 1 else cardL P) := by show _ = _; rw [HR.out]; exact cnt_card HOK.out
  have HCL := Lib.hid (card_le HOK.out)
  go_wp2
  go_loopg [3, 10] n1 (fun gk vc vi wr => CouRel w1 P gk vc vi wr)
  case atStart => exact ⟨0, 0, by have := HLEN.out; omega, rfl, rfl, by rw [Nat.zero_add]; rfl, by unfold two64; omega, Below.refl _ _⟩
  case round =>
    obtain ⟨k, a, hg, rfl, rfl, hm, ha, hbel⟩ := hrel
    have HG := Lib.hid hg
    have HM := Lib.hid hm
    have HA := Lib.hid ha
    clear hg hm ha
    have hsr := HS1.out.below hbel (Nat.le_refl _)
    have HBW : Hid (Below w.heap.size w wr) := HB1.out.trans (hbel.mono HB1.out.size)
    by_cases hk : k < n1
    · have hkI : (k : Int) < (n1 : Int) := by omega
      have hk0 : (0 : Int) ≤ (k : Int) := by omega
      obtain ⟨b, o, r, rfl, hbB, hx, hq0, hq1, h1, h2⟩ := hsr.at_ hk
      have hrr := HOK.out.can.ok r (List.mem_of_getElem? hx)
      have HDR := Lib.hid (drop_at hx)
      clear hx hsr
      obtain ⟨d, hd⟩ : ∃ d, d = r.2 - r.1 := ⟨_, rfl⟩
      have hrI : (r.1 : Int) ≤ (r.2 : Int) := by omega
      have hdI : (r.2 : Int) - (r.1 : Int) = (d : Int) := by omega
      have HMD : Hid (a + (d + 1) + cardL (P.drop (k + 1)) = cardL P) := by have := HM.out; rw [HDR.out, cardL] at this; show _ = _; omega
      have HBX : Hid (Below w1.heap.size w1 (wr.alloc (.cells #[.int .u64 (r.1 : Int), .int .u64 (r.2 : Int)] 49))) := hbel.trans ((below_box wr _).mono hbel.size)
      have HBY : Hid (Below w.heap.size w (wr.alloc (.cells #[.int .u64 (r.1 : Int), .int .u64 (r.2 : Int)] 49))) := HBW.out.trans ((below_box wr _).mono HBW.out.size)
      unfold two64 at h1 h2
      have hd64 : d < 18446744073709551616 := by omega
      clear hd
      have HMAX : Hid (18446744073709551616 ≤ a + (d + 1) → R = 18446744073709551615) := fun h => by
        have h3 := HMD.out
        have h4 := HCL.out
        rw [HCC.out]
        unfold two64 at h4 ⊢
        rw [if_pos (by omega)]
      by_cases h5 : d = 18446744073709551615
      · have h5I : ((d : Int) == 18446744073709551615) = true := by simp; omega
        have HV := Lib.hid (HMAX.out (by omega))
        clear h5
        go_wp2
        go_ret
        exact ⟨by rw [HV.out]; rfl, HBY.out⟩
      · have h5I : ((d : Int) == 18446744073709551615) = false := by simp; omega
        by_cases h6 : 18446744073709551616 ≤ a + (d + 1)
        · have HV := Lib.hid (HMAX.out h6)
          have hle := HA.out
          unfold two64 at hle
          have hsum : a + (d + 1) = 18446744073709551616 := by
            have h3 := HMD.out
            have h4 := HCL.out
            unfold two64 at h4
            omega
          have hw1 : (a : Int) + (d : Int) < 18446744073709551616 := by omega
          have hw2 : IntKind.u64.wrap ((a : Int) + (d : Int) + 1) = 0 := by rw [IntKind.wrap_u64]; omega
          have ha0 : (0 : Int) < (a : Int) := by omega
          have ha0N : 0 < a := by omega
          clear h5 h6 hsum
          go_wp2
          go_ret
          exact ⟨by rw [HV.out]; rfl, HBY.out⟩
        · have hw1 : (a : Int) + (d : Int) + 1 < 18446744073709551616 := by omega
          have hw0 : (a : Int) + (d : Int) < 18446744073709551616 := by omega
          have hw3 : (d : Int) + 1 < 18446744073709551616 := by omega
          have hw4 : (a : Int) + ((d : Int) + 1) < 18446744073709551616 := by omega
          have hn0 : ((a : Int) + (d : Int) + 1 == 0) = false := by simp; omega
          have hna : ¬ (a : Int) + (d : Int) + 1 < (a : Int) := by omega
          have HA2 : Hid (a + (d + 1) < two64) := by show _ < _; unfold two64; omega
          clear h5 h6
          go_wp2
          go_roundg (gk - 1)
          case measure => have := HG.out; have := HLEN.out; omega
          case rel => exact ⟨k + 1, a + (d + 1), by have := HG.out; have := HLEN.out; omega, by go_num, by go_num, HMD.out, HA2.out, HBX.out⟩
    · have hkI : ¬ (k : Int) < (n1 : Int) := by omega
      have HV : Hid (R = a) := by
        have h3 := HM.out
        rw [List.drop_eq_nil_of_le (by have := HLEN.out; omega), cardL] at h3
        have h4 := HA.out
        show _ = _
        rw [HCC.out, if_neg (by omega)]
        omega
      clear hsr
      go_wp2
      go_ret
      exact ⟨by rw [HV.out]; rfl, HBW.out⟩
end Go.Proofs.Ytefoeebchjnfaaa
