/-
  CONTRACTS of sort.Search with reach's own test, reach, Has, Gap.
  No statement is proved here.
-/
import Derived.Test.YthhmgbeigeagdaaRunsSpan
namespace Go.Proofs.Ythhmgbeigeagdaa
open Go.RowKit

set_option maxHeartbeats 400000 in
theorem test_any (w : World) (X Y B : Nat) (A : Option Addr) (n c i v : Nat) (L : List Rn) (r : Rn) (hx : w.cell? ⟨X, 0, none⟩ = some (.slice A n c)) (hy : w.cell? ⟨Y, 0, none⟩ = some (.int .u64 (v : Int))) (h : Rs w B A n c L) (hi : i < n) (hr : L[i]? = some r) :
    Calls Try.prog 50 #[.int .i64 (i : Int), .pointer (some ⟨X, 0, none⟩), .pointer (some ⟨Y, 0, none⟩)] w fun e w' => e = .returned (.bool (decide (v ≤ r.2))) ∧ ∃ q, w' = w.drewN q := by
  obtain ⟨b, o, r', rfl, _, hr', h0, h1, _, _⟩ := h.at_ hi
  rw [hr] at hr'
  injection hr' with hr'
  subst hr'
  have hi0 : (0 : Int) ≤ (i : Int) := by omega
  have hi1 : (i : Int) < (n : Int) := by omega
  clear h hr
  go_enter Try.func50, Try.ntmps50
  go_wp2
  go_quiet (fail)
  go_wp2
  go_ret
  exact ⟨by simp, _, rfl⟩

def SearchRel (w : World) (k n gk : Nat) (vi vj : Value) (wr : World) : Prop :=
  ∃ i j q : Nat, gk + i = j ∧ i ≤ k ∧ k ≤ j ∧ j ≤ n ∧ vi = .int .i64 (i : Int) ∧ vj = .int .i64 (j : Int) ∧ wr = w.drewN q
set_option maxRecDepth 100000 in
set_option maxHeartbeats 400000 in
theorem search_any (w : World) (X Y B : Nat) (A : Option Addr) (n c v : Nat) (L : List Rn) (hx : w.cell? ⟨X, 0, none⟩ = some (.slice A n c)) (hy : w.cell? ⟨Y, 0, none⟩ = some (.int .u64 (v : Int))) (h : Rs w B A n c L) (hL : Canon L) (hn : n ≤ 1000) :
    Calls Try.prog 49 #[.int .i64 (n : Int), .func (.func 50) #[] #[.pointer (some ⟨X, 0, none⟩), .pointer (some ⟨Y, 0, none⟩)]] w fun e w' => e = .returned (.int .i64 (lowC L v : Int)) ∧ ∃ q, w' = w.drewN q := by
  have H := Lib.hid h
  have HL := Lib.hid hL
  have HX := Lib.hid hx
  have HY := Lib.hid hy
  have HK : Hid (lowC L v ≤ n) := by show _ ≤ _; rw [← h.len]; exact lowC_le L v
  have HLT : Hid (∀ j r, L[j]? = some r → (j < lowC L v ↔ r.2 < v)) := fun j r hr => lowC_iff hL hr
  generalize lowC L v = k at *
  clear h hL hx hy
  go_enter Try.func49, Try.ntmps49
  go_wp2
  go_loopg [5, 6] n (fun gk vi vj wr => SearchRel w k n gk vi vj wr)
  case atStart => exact ⟨0, n, 0, by omega, Nat.zero_le _, HK.out, Nat.le_refl _, rfl, rfl, rfl⟩
  case round =>
    obtain ⟨i, j, q, hg, hik, hkj, hjn, rfl, rfl, rfl⟩ := hrel
    have HG := Lib.hid hg
    clear hg
    by_cases hlt : i < j
    · obtain ⟨m, hm⟩ : ∃ m, (i + j) / 2 = m := ⟨_, rfl⟩
      have hmI : ((i : Int) + (j : Int)) / 2 = (m : Int) := by omega
      have him : i ≤ m := by omega
      have hmj : m < j := by omega
      obtain ⟨r, hr⟩ : ∃ r, L[m]? = some r := ⟨_, List.getElem?_eq_getElem (by have := H.out.len; omega)⟩
      have ht := test_any (w.drewN q) X Y B A n c m v L r HX.out HY.out (H.out.drewN q) (by omega) hr
      have HT := Lib.hid ht
      have hlk := HLT.out m r hr
      clear ht hm hr
      by_cases hv : v ≤ r.2
      · rw [decide_eq_true hv] at HT
        go_wp2_with fail
        refine HT.out.mono ?_
        rintro e w2 ⟨rfl, q2, rfl⟩
        go_wp2
        go_roundg (m - i)
        case measure => have := HG.out; omega
        case rel => exact ⟨i, m, q + q2, by omega, hik, by omega, by omega, rfl, rfl, rfl⟩
      · rw [decide_eq_false hv] at HT
        go_wp2_with fail
        refine HT.out.mono ?_
        rintro e w2 ⟨rfl, q2, rfl⟩
        go_wp2
        go_roundg (j - (m + 1))
        case measure => have := HG.out; omega
        case rel => exact ⟨m + 1, j, q + q2, by omega, by omega, hkj, hjn, by go_num, rfl, rfl⟩
    · have hki : i = k := by omega
      have HKI := Lib.hid hki
      have hnlt : ¬ (i : Int) < (j : Int) := by omega
      clear hki
      go_wp2
      go_ret
      exact ⟨by rw [HKI.out]; rfl, q, rfl⟩

set_option maxRecDepth 100000 in
set_option maxHeartbeats 400000 in
theorem reach_any (w : World) (B : Nat) (A : Option Addr) (n c v : Nat) (L : List Rn) (h : Rs w B A n c L) (hB : B ≤ w.heap.size) (hL : Canon L) (hn : n ≤ 1000) :
    Calls Try.prog 41 #[.slice A n c, .int .u64 (v : Int)] w fun e w' => ∃ A' n' c', e = .returned (.slice A' n' c') ∧ Rs w' B A' n' c' (reachL L v) ∧ Below w.heap.size w w' := by
  have hk : lowC L v ≤ n := by rw [← h.len]; exact lowC_le L v
  have hcn := h.sn.le
  have hcm := h.sn.max
  unfold maxLen at hcm
  have H := Lib.hid h
  have HL := Lib.hid hL
  obtain ⟨R, HR⟩ : ∃ R, Hid (R = reachL L v) := ⟨_, rfl⟩
  have HD := Lib.hid (h.drop hk)
  rw [← reachL_drop, ← HR.out] at HD
  rw [← HR.out]
  clear h hL
  go_enter Try.func41, Try.ntmps41
  go_wp2_with fail
  have hcx : ((w.alloc (Obj.cells #[.slice A n c] 26)).alloc (Obj.cells #[.int .u64 (v : Int)] 25)).cell? ⟨w.heap.size, 0, none⟩ = some (.slice A n c) := (World.cell?_alloc_lt _ _ ⟨w.heap.size, 0, none⟩ (by simp)).trans (cell_last w _ _ _ 0 rfl)
  have hcy : ((w.alloc (Obj.cells #[.slice A n c] 26)).alloc (Obj.cells #[.int .u64 (v : Int)] 25)).cell? ⟨w.heap.size + 1, 0, none⟩ = some (.int .u64 (v : Int)) := cell_last _ _ _ _ 0 (by simp)
  have hb2 : Below w.heap.size w ((w.alloc (Obj.cells #[.slice A n c] 26)).alloc (Obj.cells #[.int .u64 (v : Int)] 25)) := (below_box w _).alloc (by simp) _
  generalize ((w.alloc (Obj.cells #[.slice A n c] 26)).alloc (Obj.cells #[.int .u64 (v : Int)] 25)) = w2 at *
  have HS := Lib.hid (search_any w2.drew w.heap.size (w.heap.size + 1) B A n c v L hcx hcy ((H.out.below hb2 hB).drewN 1) HL.out hn)
  have hkI : (0 : Int) ≤ (lowC L v : Int) := by omega
  have hkN : (lowC L v : Int) ≤ (n : Int) := by omega
  generalize lowC L v = k at *
  have hck : ∀ q, (w2.drew.drewN q).cell? ⟨w.heap.size, 0, none⟩ = some (.slice A n c) := fun q => hcx
  by_cases hc1 : c = k
  · subst hc1
    rw [if_pos rfl, Nat.sub_self, show n - c = 0 from by omega] at HD
    go_region_held3 (fun w' => w'.cell? ⟨w.heap.size, 0, none⟩ = some (.slice A n c)) (first | exact hcx | exact hck _) (first
      | (go_at_call 49; refine HS.out.mono ?_; rintro e w3 ⟨rfl, q, rfl⟩))
    go_wp2
    go_ret
    exact ⟨_, _, _, rfl, HD.out.below (below_drewN hb2 (1 + q)) hB, below_drewN hb2 (1 + q)⟩
  · rw [if_neg hc1] at HD
    go_region_held3 (fun w' => w'.cell? ⟨w.heap.size, 0, none⟩ = some (.slice A n c)) (first | exact hcx | exact hck _) (first
      | (go_at_call 49; refine HS.out.mono ?_; rintro e w3 ⟨rfl, q, rfl⟩))
    go_wp2
    go_ret
    exact ⟨_, _, _, rfl, HD.out.below (below_drewN hb2 (1 + q)) hB, below_drewN hb2 (1 + q)⟩

/-! ### Has, Gap -/
set_option maxRecDepth 100000 in
set_option maxHeartbeats 400000 in
theorem has_any (w : World) (A : Option Addr) (n c v : Nat) (L : List Rn) (h : Rs w w.heap.size A n c L) (hL : Canon L) (hn : n ≤ 1000) :
    Calls Try.prog 28 #[.agg #[.slice A n c], .int .u64 (v : Int)] w (Says w (.bool (hasL L v))) := by
  have H := Lib.hid h
  have HL := Lib.hid hL
  obtain ⟨b, HB⟩ : ∃ b, Hid (b = hasL L v) := ⟨_, rfl⟩
  rw [← HB.out]
  clear h hL
  go_enter Try.func28, Try.ntmps28
  go_wp2_with fail
  refine (reach_any _ w.heap.size A n c v L (H.out.alloc (Nat.le_refl _) _) (by simp) HL.out hn).mono ?_
  rintro e w2 ⟨A2, n2, c2, rfl, hs2, hb2⟩
  have hbw : Below w.heap.size w w2 := (below_box w _).trans (hb2.mono (by simp))
  clear hb2
  rcases Nat.eq_zero_or_pos n2 with h0 | h0
  · subst h0
    have hnil : reachL L v = [] := List.eq_nil_of_length_eq_zero hs2.len
    have hb : b = false := by rw [HB.out]; unfold hasL; rw [hnil]
    subst hb
    clear hs2 hnil
    go_wp2
    go_ret
    exact ⟨rfl, hbw⟩
  · obtain ⟨bb, o, x, X, rfl, _, hx, h1, h2, hx1, hx2⟩ := hs2.first h0
    have hb : b = decide (x.1 ≤ v) := by rw [HB.out]; unfold hasL; rw [hx]
    have h0I : (0 : Int) < (n2 : Int) := by omega
    have h0D : decide (0 < n2) = true := by simp; omega
    have HBB := Lib.hid hb
    clear hs2 hx hb
    go_wp2
    go_ret
    exact ⟨by rw [HBB.out]; simp, hbw⟩
set_option maxRecDepth 100000 in
set_option maxHeartbeats 400000 in
theorem gap_any (w : World) (A : Option Addr) (n c v : Nat) (L : List Rn) (h : Rs w w.heap.size A n c L) (hL : Canon L) (hn : n ≤ 1000) :
    Calls Try.prog 42 #[.agg #[.slice A n c], .int .u64 (v : Int)] w (Says w (.tuple #[.int .u64 ((gapL L v).1 : Int), .bool (gapL L v).2])) := by
  have H := Lib.hid h
  have HL := Lib.hid hL
  obtain ⟨b, HB⟩ : ∃ b, Hid (b = gapL L v) := ⟨_, rfl⟩
  rw [← HB.out]
  clear h hL
  go_enter Try.func42, Try.ntmps42
  go_wp2_with fail
  refine (reach_any _ w.heap.size A n c v L (H.out.alloc (Nat.le_refl _) _) (by simp) HL.out hn).mono ?_
  rintro e w2 ⟨A2, n2, c2, rfl, hs2, hb2⟩
  have hbw : Below w.heap.size w w2 := (below_box w _).trans (hb2.mono (by simp))
  clear hb2
  rcases Nat.eq_zero_or_pos n2 with h0 | h0
  · subst h0
    have hnil : reachL L v = [] := List.eq_nil_of_length_eq_zero hs2.len
    have hb : b = (v, true) := by rw [HB.out]; unfold gapL; rw [hnil]
    subst hb
    clear hs2 hnil
    go_wp2
    go_ret2
    exact ⟨rfl, hbw⟩
  · obtain ⟨bb, o, x, X, rfl, _, hx, h1, h2, hx1, hx2⟩ := hs2.first h0
    have hb : b = if v < x.1 then (v, true) else if x.2 = two64 - 1 then (0, false) else (x.2 + 1, true) := by rw [HB.out]; unfold gapL; rw [hx]
    have h0I : ((n2 : Int) == 0) = false := by simp; omega
    have h0J : (0 : Int) < (n2 : Int) := by omega
    unfold two64 at hx1 hx2 hb
    clear hs2 hx
    by_cases hvx : v < x.1
    · rw [if_pos hvx] at hb
      subst hb
      have hvI : (v : Int) < (x.1 : Int) := by omega
      go_wp2
      go_ret2
      exact ⟨rfl, hbw⟩
    · rw [if_neg hvx] at hb
      have hvI : ¬ (v : Int) < (x.1 : Int) := by omega
      by_cases hm : x.2 = 18446744073709551616 - 1
      · rw [if_pos hm] at hb
        subst hb
        have hmI : ((x.2 : Int) == 18446744073709551615) = true := by simp; omega
        clear hm
        go_wp2
        go_ret2
        exact ⟨rfl, hbw⟩
      · rw [if_neg hm] at hb
        subst hb
        have hmI : ((x.2 : Int) == 18446744073709551615) = false := by simp; omega
        have hmb : x.2 + 1 < 18446744073709551616 := by omega
        clear hm
        go_wp2
        go_ret2
        exact ⟨by simp, hbw⟩
end Go.Proofs.Ythhmgbeigeagdaa
