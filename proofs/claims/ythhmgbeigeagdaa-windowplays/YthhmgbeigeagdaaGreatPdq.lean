/-
  CONTRACT of pdqsortOrdered at uint64 (fewer than 30000 numbers).
  No statement is proved here.
-/
import Derived.Test.YthhmgbeigeagdaaGreatRounds
import Derived.Test.YthhmgbeigeagdaaGreatIns
namespace Go.Proofs.Ythhmgbeigeagdaa
open Go.RowKit Go.Sort

def SortsTo (w0 : World) (blk off a b : Nat) (d : Array Nat) (e : Ending) (w' : World) : Prop :=
  e = .returned (.tuple #[]) ∧ ∃ d' : Array Nat, PermIn a b d d' ∧ SortedIn ltB a b d' ∧ Srt w0 blk off d' w'
/-- What is left to do: whatever sorted row comes of [a1, b1) of dk, the whole is sorted. -/
def Rest (a b : Nat) (d : Array Nat) (a1 b1 : Nat) (dk : Array Nat) : Prop := ∀ R, PermIn a1 b1 dk R → SortedIn ltB a1 b1 R → PermIn a b d R ∧ SortedIn ltB a b R
theorem Rest.perm {a b a1 b1 : Nat} {d dk dl : Array Nat} (h : Rest a b d a1 b1 dk) (hp : PermIn a1 b1 dk dl) : Rest a b d a1 b1 dl := fun R hR hs => h R (permIn_trans _ _ _ _ _ hp hR) hs
def PdqRel (w0 : World) (blk off N a b : Nat) (d : Array Nat) (gk : Nat) (v1 v2 v3 v8 v9 : Value) (wr : World) : Prop :=
  ∃ (a1 b1 l : Nat) (wb wp : Bool) (dk : Array Nat), v1 = .int .i64 (a1 : Int) ∧ v2 = .int .i64 (b1 : Int) ∧ v3 = .int .i64 (l : Int) ∧ v8 = .bool wb ∧ v9 = .bool wp ∧
    b1 - a1 ≤ gk ∧ b1 - a1 ≤ b - a ∧ a1 ≤ b1 ∧ b1 ≤ N ∧ l ≤ 64 ∧ dk.size = N ∧ Srt w0 blk off dk wr ∧ Below ltB a1 b1 dk ∧ Rest a b d a1 b1 dk
theorem mirror {a1 b1 p : Nat} (h1 : a1 ≤ p) (h2 : p < b1) : ∃ p2 : Nat, (b1 : Int) - 1 - ((p : Int) - (a1 : Int)) = (p2 : Int) ∧ a1 ≤ p2 ∧ p2 < b1 := ⟨b1 - 1 - (p - a1), by omega, by omega, by omega⟩
set_option maxRecDepth 100000 in
set_option maxHeartbeats 40000000 in
theorem pdq_s {w0 : World} {blk off cap N : Nat} (hsz : N < 30000) : ∀ (n : Nat) {W : World} {a b l : Nat} {d : Array Nat}, b - a = n → a ≤ b → b ≤ N → Srt w0 blk off d W → d.size = N → Below ltB a b d → l ≤ 64 →
    Calls Try.prog 46 #[.slice (some ⟨blk, off, none⟩) N cap, .int .i64 a, .int .i64 b, .int .i64 l] W (SortsTo w0 blk off a b d) := by
  intro n
  induction n using Nat.strongRecOn with
  | _ n ih =>
  intro W a b l d hn hab hb h hN hB hl
  have IH := Lib.hid ih
  have HN0 := Lib.hid hn
  have H := Lib.hid h
  have HN := Lib.hid hN
  have HB0 := Lib.hid hB
  have HL0 := Lib.hid hl
  clear ih hn h hN hB hl
  go_enter Try.func46, Try.ntmps46
  go_wp2_with fail
  go_loopg [1, 2, 3, 8, 9] (b - a) (fun gk v1 v2 v3 v8 v9 wr => PdqRel w0 blk off N a b d gk v1 v2 v3 v8 v9 wr)
  case atStart => exact ⟨a, b, l, true, true, d, rfl, rfl, rfl, rfl, rfl, Nat.le_refl _, Nat.le_refl _, hab, hb, HL0.out, HN.out, H.out, HB0.out, fun R h1 h2 => ⟨h1, h2⟩⟩
  case round =>
    clear H HN HB0 HL0
    obtain ⟨a1, b1, l1, wb, wp, dk, rfl, rfl, rfl, rfl, rfl, hg, hgb, hab1, hbN, hl64, hs, hS, hBl, hRs⟩ := hrel
    have HGB : Hid (b1 - a1 ≤ gk ∧ b1 - a1 ≤ n) := by have := HN0.out; exact ⟨hg, by omega⟩
    have HSK := Lib.hid hs
    have HS := Lib.hid hS
    have HB := Lib.hid hBl
    have HR := Lib.hid hRs
    have HL := Lib.hid hl64
    clear hg hgb hs hS hBl hRs
    obtain ⟨m, hm⟩ : ∃ m, b1 = a1 + m := ⟨b1 - a1, by omega⟩
    have hmI : (b1 : Int) - (a1 : Int) = (m : Int) := by omega
    have hm50 : m < 30000 := by omega
    have HM := Lib.hid hm
    by_cases h12 : m ≤ 12
    · have h12I : (m : Int) ≤ 12 := by omega
      clear hm
      go_wp2_with fail
      refine (insertion_s HS.out HSK.out hab1 hbN (by omega)).mono ?_
      rintro e w1 ⟨rfl, hS1⟩
      have HS1 := Lib.hid hS1
      have HE := Lib.hid (insertionSort_holds swo_ltB dk a1 b1 hab1 (by rw [HSK.out]; exact hbN))
      clear hS1
      go_wp2
      go_end0
      exact ⟨rfl, _, (HR.out _ HE.out.1 HE.out.2).1, (HR.out _ HE.out.1 HE.out.2).2, HS1.out⟩
    · have h12I : ¬ (m : Int) ≤ 12 := by omega
      have H13 : Hid (a1 + 12 < b1) := by show _ < _; omega
      clear hm
      by_cases hl0 : l1 = 0
      · subst hl0
        go_wp2_with fail
        refine (heap_s HS.out HSK.out (by have := H13.out; omega) hbN hsz).mono ?_
        rintro e w1 ⟨rfl, hS1⟩
        have HS1 := Lib.hid hS1
        have HE := Lib.hid (heapSort_holds swo_ltB dk a1 b1 hab1 (by rw [HSK.out]; exact hbN))
        clear hS1
        go_wp2
        go_end0
        exact ⟨rfl, _, (HR.out _ HE.out.1 HE.out.2).1, (HR.out _ HE.out.1 HE.out.2).2, HS1.out⟩
      · have hl0B : ((l1 : Int) == 0) = false := by simp; omega
        cases wb
        · obtain ⟨l2, hl2'⟩ : ∃ c, l1 = c + 1 := ⟨l1 - 1, by omega⟩
          have hl2I : (l1 : Int) - 1 = (l2 : Int) := by omega
          have HL2l : Hid (l2 ≤ 64) := by show _ ≤ _; omega
          have hwl2 : wrap64 (l2 : Int) = (l2 : Int) := by unfold wrap64; omega
          have hwl3 : IntKind.i64.wrap (l2 : Int) = (l2 : Int) := by rw [IntKind.wrap_i64]; omega
          clear hl2' hl0
          go_wp2_with fail
          refine (break_s HS.out HSK.out hbN hsz (by have := H13.out; omega)).mono ?_
          rintro e w1 ⟨rfl, dk, hPv, hs1, hS1⟩
          have HS3 := Lib.hid hS1
          have HB2 := Lib.hid (HB.out.perm (by rw [HSK.out]; exact hbN) hPv)
          have HR2 := Lib.hid (HR.out.perm hPv)
          have HSK2 := Lib.hid hs1
          clear HB HR HSK HS hPv hs1 hS1 HL hl64
          have HB := Lib.hid HB2.out
          have HR := Lib.hid HR2.out
          have HSK := Lib.hid HSK2.out
          have HS := Lib.hid HS3.out
          have HL := Lib.hid HL2l.out
          clear HB2 HR2 HSK2 HS3 HL2l
          go_wp2_with fail
          refine (pivot_s HS.out HSK.out hbN hsz (by have := H13.out; omega)).mono ?_
          rintro e w2 ⟨p, q, rfl, hp1, hp2, hq, hS2⟩
          have HS2 := Lib.hid hS2
          have HP := Lib.hid (And.intro hp1 hp2)
          clear hS2 HS
          obtain rfl | rfl | rfl : q = 0 ∨ q = 1 ∨ q = 2 := by omega
          · as_aux_lemma =>
              have HS := Lib.hid HS2.out
              clear HS2 hq hp1 hp2
              go_wp2_with fail
              by_cases ha0 : a1 = 0
              · have ha0I : decide ((0 : Int) < (a1 : Int)) = false := by simp; omega
                have ha0N : decide (0 < a1) = false := by simp; omega
                clear ha0
                go_quiet (fail)
                have HS5 := Lib.hid (HS.out.drewN nq)
                clear HS
                go_wp2_with fail
                have HS := Lib.hid HS5.out
                refine (part_s HS.out HSK.out hbN hsz (by have := H13.out; omega) HP.out.1 HP.out.2).mono ?_
                rintro e w5 ⟨mid, r, d4, rfl, hPd, hS4⟩
                have hmid1 := hPd.am
                have hmid2 := hPd.mb
                have HPR := Lib.hid (part_round hPd (by rw [HSK.out]; exact hbN) HB.out)
                have HS4 := Lib.hid hS4
                have HSK4 := Lib.hid hPd.size
                clear hPd hS4
                obtain ⟨le, hle⟩ : ∃ c, mid = a1 + c := ⟨mid - a1, by omega⟩
                obtain ⟨ri, hri⟩ : ∃ c, b1 = mid + c := ⟨b1 - mid, by omega⟩
                have hleI : (mid : Int) - (a1 : Int) = (le : Int) := by omega
                have hriI : (b1 : Int) - (mid : Int) = (ri : Int) := by omega
                have HLR : Hid (mid = a1 + le ∧ b1 = mid + ri ∧ b1 = a1 + m ∧ 1 ≤ ri) := by have := HM.out; exact ⟨hle, hri, by omega, by omega⟩
                clear hle hri
                by_cases hlr : le < ri
                · have hlrI : (le : Int) < (ri : Int) := by omega
                  go_wp2_with fail
                  refine (IH.out le (by have := HLR.out; have := HGB.out; have := HN0.out; omega) (W := w5) (d := d4) (a := a1) (b := mid) (l := l2) (by have := HLR.out; omega) (by omega) (by omega) HS4.out HSK4.out HPR.out.1 (by have := HL.out; omega)).mono ?_
                  rintro e w6 ⟨rfl, L, hL1, hL2, hS6⟩
                  have HS6 := Lib.hid hS6
                  have HL6 := Lib.hid (HPR.out.2.2.1 L hL1 hL2)
                  have HSZ : Hid (L.size = N) := by show _ = _; rw [hL1.1]; exact HSK4.out
                  clear hL1 hL2 hS6
                  go_wp2_with fail
                  go_roundg (gk - 1)
                  case measure => have := HLR.out; have := HGB.out; have := H13.out; omega
                  case rel => exact ⟨mid + 1, b1, l2, _, r, L, by go_num, rfl, rfl, rfl, rfl, by have := HLR.out; have := HGB.out; have := HN0.out; omega, by have := HLR.out; have := HGB.out; have := HN0.out; omega, by have := HLR.out; omega, hbN, by have := HL.out; omega, HSZ.out, HS6.out, HL6.out.1, fun R hR hs => have hh := HL6.out.2 R hR hs; HR.out R hh.1 hh.2⟩
                · have hlrI : ¬ (le : Int) < (ri : Int) := by omega
                  obtain ⟨m1, hm1⟩ : ∃ c, c = mid + 1 := ⟨_, rfl⟩
                  have hm1I : (mid : Int) + 1 = (m1 : Int) := by omega
                  have HM1 := Lib.hid hm1
                  rw [← hm1] at HPR
                  clear hm1
                  go_wp2_with fail
                  refine (IH.out (ri - 1) (by have := HLR.out; have := HGB.out; have := HN0.out; omega) (W := w5) (d := d4) (a := m1) (b := b1) (l := l2) (by have := HLR.out; have := HM1.out; omega) (by have := HM1.out; omega) hbN HS4.out HSK4.out HPR.out.2.1 (by have := HL.out; omega)).mono ?_
                  rintro e w6 ⟨rfl, L, hL1, hL2, hS6⟩
                  have HS6 := Lib.hid hS6
                  have HL6 := Lib.hid (HPR.out.2.2.2 L hL1 hL2)
                  have HSZ : Hid (L.size = N) := by show _ = _; rw [hL1.1]; exact HSK4.out
                  clear hL1 hL2 hS6
                  go_wp2_with fail
                  go_roundg (gk - 1)
                  case measure => have := HLR.out; have := HGB.out; have := H13.out; omega
                  case rel => exact ⟨a1, mid, l2, _, r, L, rfl, rfl, rfl, rfl, rfl, by have := HLR.out; have := HGB.out; have := HN0.out; omega, by have := HLR.out; have := HGB.out; have := HN0.out; omega, by omega, by omega, by have := HL.out; omega, HSZ.out, HS6.out, HL6.out.1, fun R hR hs => have hh := HL6.out.2 R hR hs; HR.out R hh.1 hh.2⟩
              · have ha0I : (0 : Int) < (a1 : Int) := by omega
                have ha0P : 0 < a1 := by omega
                have ha0D : decide (0 < a1) = true := by simp; omega
                have ha0E : decide ((0 : Int) < (a1 : Int)) = true := by simp; omega
                obtain ⟨a0, ha0'⟩ : ∃ c, a1 = c + 1 := ⟨a1 - 1, by omega⟩
                have ha0J : (a1 : Int) - 1 = (a0 : Int) := by omega
                have hwa0 : IntKind.i64.wrap (a0 : Int) = (a0 : Int) := by rw [IntKind.wrap_i64]; omega
                have h00 : (0 : Int) ≤ (a0 : Int) := by omega
                have ha0N : (a0 : Int) < (N : Int) := by omega
                have hpN : (p : Int) < (N : Int) := by have := HP.out; omega
                have hp0 : (0 : Int) ≤ (p : Int) := by omega
                have hc0 := HS.out.cell (t := a0) (by rw [HSK.out]; omega)
                have hcp := HS.out.cell (t := p) (by rw [HSK.out]; have := HP.out; omega)
                have HA0 : Hid (a1 - 1 = a0 ∧ 0 < a1) := by exact ⟨by omega, by omega⟩
                cases hl2 : ltB dk[a0]! dk[p]!
                · have HL2 := Lib.hid hl2
                  clear hl2 ha0 ha0'
                  have HL2' := Lib.hid HL2.out
                  generalize dk[a0]! = x at hc0 HL2
                  generalize dk[p]! = y at hcp HL2
                  go_quiet (first | (go_at_call 59; refine Calls.quiet_of_same (cmpLess_is _ _ _ _ HL2.out)))
                  have HS5 := Lib.hid (HS.out.drewN nq)
                  clear HS hc0 hcp
                  go_wp2_with fail
                  refine (equal_s HS5.out HSK.out hbN hsz (by have := H13.out; omega) HP.out.1 HP.out.2).mono ?_
                  rintro e w5 ⟨mid, d4, rfl, hPE, hS4⟩
                  have hmid1 := hPE.am
                  have hmid2 := hPE.mb
                  have HER := Lib.hid (equal_round hPE HA0.out.2 (by rw [HSK.out]; exact hbN) HB.out (by rw [HA0.out.1]; exact HL2'.out))
                  have HS4 := Lib.hid hS4
                  have HSK4 := Lib.hid hPE.size
                  clear hPE hS4
                  go_wp2_with fail
                  go_roundg (gk - 1)
                  case measure => have := HGB.out; have := H13.out; omega
                  case rel => exact ⟨mid, b1, l2, false, wp, d4, rfl, rfl, rfl, rfl, rfl, by have := HGB.out; have := HN0.out; omega, by have := HGB.out; have := HN0.out; omega, by omega, hbN, by have := HL.out; omega, HSK4.out, HS4.out, HER.out.1, fun R hR hs => have hh := HER.out.2 R hR hs; HR.out R hh.1 hh.2⟩
                · have HL2 := Lib.hid hl2
                  clear hl2 ha0 ha0'
                  generalize dk[a0]! = x at hc0 HL2
                  generalize dk[p]! = y at hcp HL2
                  go_quiet (first | (go_at_call 59; refine Calls.quiet_of_same (cmpLess_is _ _ _ _ HL2.out)))
                  have HS5 := Lib.hid (HS.out.drewN nq)
                  clear HS hc0 hcp
                  go_wp2_with fail
                  have HS := Lib.hid HS5.out
                  refine (part_s HS.out HSK.out hbN hsz (by have := H13.out; omega) HP.out.1 HP.out.2).mono ?_
                  rintro e w5 ⟨mid, r, d4, rfl, hPd, hS4⟩
                  have hmid1 := hPd.am
                  have hmid2 := hPd.mb
                  have HPR := Lib.hid (part_round hPd (by rw [HSK.out]; exact hbN) HB.out)
                  have HS4 := Lib.hid hS4
                  have HSK4 := Lib.hid hPd.size
                  clear hPd hS4
                  obtain ⟨le, hle⟩ : ∃ c, mid = a1 + c := ⟨mid - a1, by omega⟩
                  obtain ⟨ri, hri⟩ : ∃ c, b1 = mid + c := ⟨b1 - mid, by omega⟩
                  have hleI : (mid : Int) - (a1 : Int) = (le : Int) := by omega
                  have hriI : (b1 : Int) - (mid : Int) = (ri : Int) := by omega
                  have HLR : Hid (mid = a1 + le ∧ b1 = mid + ri ∧ b1 = a1 + m ∧ 1 ≤ ri) := by have := HM.out; exact ⟨hle, hri, by omega, by omega⟩
                  clear hle hri
                  by_cases hlr : le < ri
                  · have hlrI : (le : Int) < (ri : Int) := by omega
                    go_wp2_with fail
                    refine (IH.out le (by have := HLR.out; have := HGB.out; have := HN0.out; omega) (W := w5) (d := d4) (a := a1) (b := mid) (l := l2) (by have := HLR.out; omega) (by omega) (by omega) HS4.out HSK4.out HPR.out.1 (by have := HL.out; omega)).mono ?_
                    rintro e w6 ⟨rfl, L, hL1, hL2, hS6⟩
                    have HS6 := Lib.hid hS6
                    have HL6 := Lib.hid (HPR.out.2.2.1 L hL1 hL2)
                    have HSZ : Hid (L.size = N) := by show _ = _; rw [hL1.1]; exact HSK4.out
                    clear hL1 hL2 hS6
                    go_wp2_with fail
                    go_roundg (gk - 1)
                    case measure => have := HLR.out; have := HGB.out; have := H13.out; omega
                    case rel => exact ⟨mid + 1, b1, l2, _, r, L, by go_num, rfl, rfl, rfl, rfl, by have := HLR.out; have := HGB.out; have := HN0.out; omega, by have := HLR.out; have := HGB.out; have := HN0.out; omega, by have := HLR.out; omega, hbN, by have := HL.out; omega, HSZ.out, HS6.out, HL6.out.1, fun R hR hs => have hh := HL6.out.2 R hR hs; HR.out R hh.1 hh.2⟩
                  · have hlrI : ¬ (le : Int) < (ri : Int) := by omega
                    obtain ⟨m1, hm1⟩ : ∃ c, c = mid + 1 := ⟨_, rfl⟩
                    have hm1I : (mid : Int) + 1 = (m1 : Int) := by omega
                    have HM1 := Lib.hid hm1
                    rw [← hm1] at HPR
                    clear hm1
                    go_wp2_with fail
                    refine (IH.out (ri - 1) (by have := HLR.out; have := HGB.out; have := HN0.out; omega) (W := w5) (d := d4) (a := m1) (b := b1) (l := l2) (by have := HLR.out; have := HM1.out; omega) (by have := HM1.out; omega) hbN HS4.out HSK4.out HPR.out.2.1 (by have := HL.out; omega)).mono ?_
                    rintro e w6 ⟨rfl, L, hL1, hL2, hS6⟩
                    have HS6 := Lib.hid hS6
                    have HL6 := Lib.hid (HPR.out.2.2.2 L hL1 hL2)
                    have HSZ : Hid (L.size = N) := by show _ = _; rw [hL1.1]; exact HSK4.out
                    clear hL1 hL2 hS6
                    go_wp2_with fail
                    go_roundg (gk - 1)
                    case measure => have := HLR.out; have := HGB.out; have := H13.out; omega
                    case rel => exact ⟨a1, mid, l2, _, r, L, rfl, rfl, rfl, rfl, rfl, by have := HLR.out; have := HGB.out; have := HN0.out; omega, by have := HLR.out; have := HGB.out; have := HN0.out; omega, by omega, by omega, by have := HL.out; omega, HSZ.out, HS6.out, HL6.out.1, fun R hR hs => have hh := HL6.out.2 R hR hs; HR.out R hh.1 hh.2⟩
          · as_aux_lemma =>
              have HS := Lib.hid HS2.out
              clear HS2 hq hp1 hp2
              go_wp2_with fail
              by_cases ha0 : a1 = 0
              · have ha0I : decide ((0 : Int) < (a1 : Int)) = false := by simp; omega
                have ha0N : decide (0 < a1) = false := by simp; omega
                clear ha0
                go_quiet (fail)
                have HS5 := Lib.hid (HS.out.drewN nq)
                clear HS
                go_wp2_with fail
                have HS := Lib.hid HS5.out
                refine (part_s HS.out HSK.out hbN hsz (by have := H13.out; omega) HP.out.1 HP.out.2).mono ?_
                rintro e w5 ⟨mid, r, d4, rfl, hPd, hS4⟩
                have hmid1 := hPd.am
                have hmid2 := hPd.mb
                have HPR := Lib.hid (part_round hPd (by rw [HSK.out]; exact hbN) HB.out)
                have HS4 := Lib.hid hS4
                have HSK4 := Lib.hid hPd.size
                clear hPd hS4
                obtain ⟨le, hle⟩ : ∃ c, mid = a1 + c := ⟨mid - a1, by omega⟩
                obtain ⟨ri, hri⟩ : ∃ c, b1 = mid + c := ⟨b1 - mid, by omega⟩
                have hleI : (mid : Int) - (a1 : Int) = (le : Int) := by omega
                have hriI : (b1 : Int) - (mid : Int) = (ri : Int) := by omega
                have HLR : Hid (mid = a1 + le ∧ b1 = mid + ri ∧ b1 = a1 + m ∧ 1 ≤ ri) := by have := HM.out; exact ⟨hle, hri, by omega, by omega⟩
                clear hle hri
                by_cases hlr : le < ri
                · have hlrI : (le : Int) < (ri : Int) := by omega
                  go_wp2_with fail
                  refine (IH.out le (by have := HLR.out; have := HGB.out; have := HN0.out; omega) (W := w5) (d := d4) (a := a1) (b := mid) (l := l2) (by have := HLR.out; omega) (by omega) (by omega) HS4.out HSK4.out HPR.out.1 (by have := HL.out; omega)).mono ?_
                  rintro e w6 ⟨rfl, L, hL1, hL2, hS6⟩
                  have HS6 := Lib.hid hS6
                  have HL6 := Lib.hid (HPR.out.2.2.1 L hL1 hL2)
                  have HSZ : Hid (L.size = N) := by show _ = _; rw [hL1.1]; exact HSK4.out
                  clear hL1 hL2 hS6
                  go_wp2_with fail
                  go_roundg (gk - 1)
                  case measure => have := HLR.out; have := HGB.out; have := H13.out; omega
                  case rel => exact ⟨mid + 1, b1, l2, _, r, L, by go_num, rfl, rfl, rfl, rfl, by have := HLR.out; have := HGB.out; have := HN0.out; omega, by have := HLR.out; have := HGB.out; have := HN0.out; omega, by have := HLR.out; omega, hbN, by have := HL.out; omega, HSZ.out, HS6.out, HL6.out.1, fun R hR hs => have hh := HL6.out.2 R hR hs; HR.out R hh.1 hh.2⟩
                · have hlrI : ¬ (le : Int) < (ri : Int) := by omega
                  obtain ⟨m1, hm1⟩ : ∃ c, c = mid + 1 := ⟨_, rfl⟩
                  have hm1I : (mid : Int) + 1 = (m1 : Int) := by omega
                  have HM1 := Lib.hid hm1
                  rw [← hm1] at HPR
                  clear hm1
                  go_wp2_with fail
                  refine (IH.out (ri - 1) (by have := HLR.out; have := HGB.out; have := HN0.out; omega) (W := w5) (d := d4) (a := m1) (b := b1) (l := l2) (by have := HLR.out; have := HM1.out; omega) (by have := HM1.out; omega) hbN HS4.out HSK4.out HPR.out.2.1 (by have := HL.out; omega)).mono ?_
                  rintro e w6 ⟨rfl, L, hL1, hL2, hS6⟩
                  have HS6 := Lib.hid hS6
                  have HL6 := Lib.hid (HPR.out.2.2.2 L hL1 hL2)
                  have HSZ : Hid (L.size = N) := by show _ = _; rw [hL1.1]; exact HSK4.out
                  clear hL1 hL2 hS6
                  go_wp2_with fail
                  go_roundg (gk - 1)
                  case measure => have := HLR.out; have := HGB.out; have := H13.out; omega
                  case rel => exact ⟨a1, mid, l2, _, r, L, rfl, rfl, rfl, rfl, rfl, by have := HLR.out; have := HGB.out; have := HN0.out; omega, by have := HLR.out; have := HGB.out; have := HN0.out; omega, by omega, by omega, by have := HL.out; omega, HSZ.out, HS6.out, HL6.out.1, fun R hR hs => have hh := HL6.out.2 R hR hs; HR.out R hh.1 hh.2⟩
              · have ha0I : (0 : Int) < (a1 : Int) := by omega
                have ha0P : 0 < a1 := by omega
                have ha0D : decide (0 < a1) = true := by simp; omega
                have ha0E : decide ((0 : Int) < (a1 : Int)) = true := by simp; omega
                obtain ⟨a0, ha0'⟩ : ∃ c, a1 = c + 1 := ⟨a1 - 1, by omega⟩
                have ha0J : (a1 : Int) - 1 = (a0 : Int) := by omega
                have hwa0 : IntKind.i64.wrap (a0 : Int) = (a0 : Int) := by rw [IntKind.wrap_i64]; omega
                have h00 : (0 : Int) ≤ (a0 : Int) := by omega
                have ha0N : (a0 : Int) < (N : Int) := by omega
                have hpN : (p : Int) < (N : Int) := by have := HP.out; omega
                have hp0 : (0 : Int) ≤ (p : Int) := by omega
                have hc0 := HS.out.cell (t := a0) (by rw [HSK.out]; omega)
                have hcp := HS.out.cell (t := p) (by rw [HSK.out]; have := HP.out; omega)
                have HA0 : Hid (a1 - 1 = a0 ∧ 0 < a1) := by exact ⟨by omega, by omega⟩
                cases hl2 : ltB dk[a0]! dk[p]!
                · have HL2 := Lib.hid hl2
                  clear hl2 ha0 ha0'
                  have HL2' := Lib.hid HL2.out
                  generalize dk[a0]! = x at hc0 HL2
                  generalize dk[p]! = y at hcp HL2
                  go_quiet (first | (go_at_call 59; refine Calls.quiet_of_same (cmpLess_is _ _ _ _ HL2.out)))
                  have HS5 := Lib.hid (HS.out.drewN nq)
                  clear HS hc0 hcp
                  go_wp2_with fail
                  refine (equal_s HS5.out HSK.out hbN hsz (by have := H13.out; omega) HP.out.1 HP.out.2).mono ?_
                  rintro e w5 ⟨mid, d4, rfl, hPE, hS4⟩
                  have hmid1 := hPE.am
                  have hmid2 := hPE.mb
                  have HER := Lib.hid (equal_round hPE HA0.out.2 (by rw [HSK.out]; exact hbN) HB.out (by rw [HA0.out.1]; exact HL2'.out))
                  have HS4 := Lib.hid hS4
                  have HSK4 := Lib.hid hPE.size
                  clear hPE hS4
                  go_wp2_with fail
                  go_roundg (gk - 1)
                  case measure => have := HGB.out; have := H13.out; omega
                  case rel => exact ⟨mid, b1, l2, false, wp, d4, rfl, rfl, rfl, rfl, rfl, by have := HGB.out; have := HN0.out; omega, by have := HGB.out; have := HN0.out; omega, by omega, hbN, by have := HL.out; omega, HSK4.out, HS4.out, HER.out.1, fun R hR hs => have hh := HER.out.2 R hR hs; HR.out R hh.1 hh.2⟩
                · have HL2 := Lib.hid hl2
                  clear hl2 ha0 ha0'
                  generalize dk[a0]! = x at hc0 HL2
                  generalize dk[p]! = y at hcp HL2
                  go_quiet (first | (go_at_call 59; refine Calls.quiet_of_same (cmpLess_is _ _ _ _ HL2.out)))
                  have HS5 := Lib.hid (HS.out.drewN nq)
                  clear HS hc0 hcp
                  go_wp2_with fail
                  have HS := Lib.hid HS5.out
                  refine (part_s HS.out HSK.out hbN hsz (by have := H13.out; omega) HP.out.1 HP.out.2).mono ?_
                  rintro e w5 ⟨mid, r, d4, rfl, hPd, hS4⟩
                  have hmid1 := hPd.am
                  have hmid2 := hPd.mb
                  have HPR := Lib.hid (part_round hPd (by rw [HSK.out]; exact hbN) HB.out)
                  have HS4 := Lib.hid hS4
                  have HSK4 := Lib.hid hPd.size
                  clear hPd hS4
                  obtain ⟨le, hle⟩ : ∃ c, mid = a1 + c := ⟨mid - a1, by omega⟩
                  obtain ⟨ri, hri⟩ : ∃ c, b1 = mid + c := ⟨b1 - mid, by omega⟩
                  have hleI : (mid : Int) - (a1 : Int) = (le : Int) := by omega
                  have hriI : (b1 : Int) - (mid : Int) = (ri : Int) := by omega
                  have HLR : Hid (mid = a1 + le ∧ b1 = mid + ri ∧ b1 = a1 + m ∧ 1 ≤ ri) := by have := HM.out; exact ⟨hle, hri, by omega, by omega⟩
                  clear hle hri
                  by_cases hlr : le < ri
                  · have hlrI : (le : Int) < (ri : Int) := by omega
                    go_wp2_with fail
                    refine (IH.out le (by have := HLR.out; have := HGB.out; have := HN0.out; omega) (W := w5) (d := d4) (a := a1) (b := mid) (l := l2) (by have := HLR.out; omega) (by omega) (by omega) HS4.out HSK4.out HPR.out.1 (by have := HL.out; omega)).mono ?_
                    rintro e w6 ⟨rfl, L, hL1, hL2, hS6⟩
                    have HS6 := Lib.hid hS6
                    have HL6 := Lib.hid (HPR.out.2.2.1 L hL1 hL2)
                    have HSZ : Hid (L.size = N) := by show _ = _; rw [hL1.1]; exact HSK4.out
                    clear hL1 hL2 hS6
                    go_wp2_with fail
                    go_roundg (gk - 1)
                    case measure => have := HLR.out; have := HGB.out; have := H13.out; omega
                    case rel => exact ⟨mid + 1, b1, l2, _, r, L, by go_num, rfl, rfl, rfl, rfl, by have := HLR.out; have := HGB.out; have := HN0.out; omega, by have := HLR.out; have := HGB.out; have := HN0.out; omega, by have := HLR.out; omega, hbN, by have := HL.out; omega, HSZ.out, HS6.out, HL6.out.1, fun R hR hs => have hh := HL6.out.2 R hR hs; HR.out R hh.1 hh.2⟩
                  · have hlrI : ¬ (le : Int) < (ri : Int) := by omega
                    obtain ⟨m1, hm1⟩ : ∃ c, c = mid + 1 := ⟨_, rfl⟩
                    have hm1I : (mid : Int) + 1 = (m1 : Int) := by omega
                    have HM1 := Lib.hid hm1
                    rw [← hm1] at HPR
                    clear hm1
                    go_wp2_with fail
                    refine (IH.out (ri - 1) (by have := HLR.out; have := HGB.out; have := HN0.out; omega) (W := w5) (d := d4) (a := m1) (b := b1) (l := l2) (by have := HLR.out; have := HM1.out; omega) (by have := HM1.out; omega) hbN HS4.out HSK4.out HPR.out.2.1 (by have := HL.out; omega)).mono ?_
                    rintro e w6 ⟨rfl, L, hL1, hL2, hS6⟩
                    have HS6 := Lib.hid hS6
                    have HL6 := Lib.hid (HPR.out.2.2.2 L hL1 hL2)
                    have HSZ : Hid (L.size = N) := by show _ = _; rw [hL1.1]; exact HSK4.out
                    clear hL1 hL2 hS6
                    go_wp2_with fail
                    go_roundg (gk - 1)
                    case measure => have := HLR.out; have := HGB.out; have := H13.out; omega
                    case rel => exact ⟨a1, mid, l2, _, r, L, rfl, rfl, rfl, rfl, rfl, by have := HLR.out; have := HGB.out; have := HN0.out; omega, by have := HLR.out; have := HGB.out; have := HN0.out; omega, by omega, by omega, by have := HL.out; omega, HSZ.out, HS6.out, HL6.out.1, fun R hR hs => have hh := HL6.out.2 R hR hs; HR.out R hh.1 hh.2⟩
          · as_aux_lemma =>
              obtain ⟨p, hp2I, hp3, hp4⟩ := mirror hp1 hp2
              clear hq
              go_wp2_with fail
              refine (reverse_s HS2.out HSK.out (by have := H13.out; omega) hbN hsz).mono ?_
              rintro e w3 ⟨rfl, hS3⟩
              have hPv := reverseRange_holds dk a1 b1 (by omega) (by rw [HSK.out]; exact hbN)
              obtain ⟨dk, hdl⟩ : ∃ c, c = Sort.reverseRange dk a1 b1 := ⟨_, rfl⟩
              rw [← hdl] at hS3 hPv
              have HS := Lib.hid hS3
              have HB2 := Lib.hid (HB.out.perm (by rw [HSK.out]; exact hbN) hPv)
              have HR2 := Lib.hid (HR.out.perm hPv)
              have HSK2 : Hid (dk.size = N) := by show _ = _; rw [hPv.1]; exact HSK.out
              clear HB HR HSK HS2 hS3 hdl hPv HP
              have HB := Lib.hid HB2.out
              have HR := Lib.hid HR2.out
              have HSK := Lib.hid HSK2.out
              have HP := Lib.hid (And.intro hp3 hp4)
              clear HB2 HR2 HSK2 hp3 hp4 hp1 hp2
              go_outline
              go_wp2_with fail
              by_cases ha0 : a1 = 0
              · have ha0I : decide ((0 : Int) < (a1 : Int)) = false := by simp; omega
                have ha0N : decide (0 < a1) = false := by simp; omega
                clear ha0
                go_quiet (fail)
                have HS5 := Lib.hid (HS.out.drewN nq)
                clear HS
                go_wp2_with fail
                have HS := Lib.hid HS5.out
                refine (part_s HS.out HSK.out hbN hsz (by have := H13.out; omega) HP.out.1 HP.out.2).mono ?_
                rintro e w5 ⟨mid, r, d4, rfl, hPd, hS4⟩
                have hmid1 := hPd.am
                have hmid2 := hPd.mb
                have HPR := Lib.hid (part_round hPd (by rw [HSK.out]; exact hbN) HB.out)
                have HS4 := Lib.hid hS4
                have HSK4 := Lib.hid hPd.size
                clear hPd hS4
                obtain ⟨le, hle⟩ : ∃ c, mid = a1 + c := ⟨mid - a1, by omega⟩
                obtain ⟨ri, hri⟩ : ∃ c, b1 = mid + c := ⟨b1 - mid, by omega⟩
                have hleI : (mid : Int) - (a1 : Int) = (le : Int) := by omega
                have hriI : (b1 : Int) - (mid : Int) = (ri : Int) := by omega
                have HLR : Hid (mid = a1 + le ∧ b1 = mid + ri ∧ b1 = a1 + m ∧ 1 ≤ ri) := by have := HM.out; exact ⟨hle, hri, by omega, by omega⟩
                clear hle hri
                by_cases hlr : le < ri
                · have hlrI : (le : Int) < (ri : Int) := by omega
                  go_wp2_with fail
                  refine (IH.out le (by have := HLR.out; have := HGB.out; have := HN0.out; omega) (W := w5) (d := d4) (a := a1) (b := mid) (l := l2) (by have := HLR.out; omega) (by omega) (by omega) HS4.out HSK4.out HPR.out.1 (by have := HL.out; omega)).mono ?_
                  rintro e w6 ⟨rfl, L, hL1, hL2, hS6⟩
                  have HS6 := Lib.hid hS6
                  have HL6 := Lib.hid (HPR.out.2.2.1 L hL1 hL2)
                  have HSZ : Hid (L.size = N) := by show _ = _; rw [hL1.1]; exact HSK4.out
                  clear hL1 hL2 hS6
                  go_wp2_with fail
                  go_roundg (gk - 1)
                  case measure => have := HLR.out; have := HGB.out; have := H13.out; omega
                  case rel => exact ⟨mid + 1, b1, l2, _, r, L, by go_num, rfl, rfl, rfl, rfl, by have := HLR.out; have := HGB.out; have := HN0.out; omega, by have := HLR.out; have := HGB.out; have := HN0.out; omega, by have := HLR.out; omega, hbN, by have := HL.out; omega, HSZ.out, HS6.out, HL6.out.1, fun R hR hs => have hh := HL6.out.2 R hR hs; HR.out R hh.1 hh.2⟩
                · have hlrI : ¬ (le : Int) < (ri : Int) := by omega
                  obtain ⟨m1, hm1⟩ : ∃ c, c = mid + 1 := ⟨_, rfl⟩
                  have hm1I : (mid : Int) + 1 = (m1 : Int) := by omega
                  have HM1 := Lib.hid hm1
                  rw [← hm1] at HPR
                  clear hm1
                  go_wp2_with fail
                  refine (IH.out (ri - 1) (by have := HLR.out; have := HGB.out; have := HN0.out; omega) (W := w5) (d := d4) (a := m1) (b := b1) (l := l2) (by have := HLR.out; have := HM1.out; omega) (by have := HM1.out; omega) hbN HS4.out HSK4.out HPR.out.2.1 (by have := HL.out; omega)).mono ?_
                  rintro e w6 ⟨rfl, L, hL1, hL2, hS6⟩
                  have HS6 := Lib.hid hS6
                  have HL6 := Lib.hid (HPR.out.2.2.2 L hL1 hL2)
                  have HSZ : Hid (L.size = N) := by show _ = _; rw [hL1.1]; exact HSK4.out
                  clear hL1 hL2 hS6
                  go_wp2_with fail
                  go_roundg (gk - 1)
                  case measure => have := HLR.out; have := HGB.out; have := H13.out; omega
                  case rel => exact ⟨a1, mid, l2, _, r, L, rfl, rfl, rfl, rfl, rfl, by have := HLR.out; have := HGB.out; have := HN0.out; omega, by have := HLR.out; have := HGB.out; have := HN0.out; omega, by omega, by omega, by have := HL.out; omega, HSZ.out, HS6.out, HL6.out.1, fun R hR hs => have hh := HL6.out.2 R hR hs; HR.out R hh.1 hh.2⟩
              · have ha0I : (0 : Int) < (a1 : Int) := by omega
                have ha0P : 0 < a1 := by omega
                have ha0D : decide (0 < a1) = true := by simp; omega
                have ha0E : decide ((0 : Int) < (a1 : Int)) = true := by simp; omega
                obtain ⟨a0, ha0'⟩ : ∃ c, a1 = c + 1 := ⟨a1 - 1, by omega⟩
                have ha0J : (a1 : Int) - 1 = (a0 : Int) := by omega
                have hwa0 : IntKind.i64.wrap (a0 : Int) = (a0 : Int) := by rw [IntKind.wrap_i64]; omega
                have h00 : (0 : Int) ≤ (a0 : Int) := by omega
                have ha0N : (a0 : Int) < (N : Int) := by omega
                have hpN : (p : Int) < (N : Int) := by have := HP.out; omega
                have hp0 : (0 : Int) ≤ (p : Int) := by omega
                have hc0 := HS.out.cell (t := a0) (by rw [HSK.out]; omega)
                have hcp := HS.out.cell (t := p) (by rw [HSK.out]; have := HP.out; omega)
                have HA0 : Hid (a1 - 1 = a0 ∧ 0 < a1) := by exact ⟨by omega, by omega⟩
                cases hl2 : ltB dk[a0]! dk[p]!
                · have HL2 := Lib.hid hl2
                  clear hl2 ha0 ha0'
                  have HL2' := Lib.hid HL2.out
                  generalize dk[a0]! = x at hc0 HL2
                  generalize dk[p]! = y at hcp HL2
                  go_quiet (first | (go_at_call 59; refine Calls.quiet_of_same (cmpLess_is _ _ _ _ HL2.out)))
                  have HS5 := Lib.hid (HS.out.drewN nq)
                  clear HS hc0 hcp
                  go_wp2_with fail
                  refine (equal_s HS5.out HSK.out hbN hsz (by have := H13.out; omega) HP.out.1 HP.out.2).mono ?_
                  rintro e w5 ⟨mid, d4, rfl, hPE, hS4⟩
                  have hmid1 := hPE.am
                  have hmid2 := hPE.mb
                  have HER := Lib.hid (equal_round hPE HA0.out.2 (by rw [HSK.out]; exact hbN) HB.out (by rw [HA0.out.1]; exact HL2'.out))
                  have HS4 := Lib.hid hS4
                  have HSK4 := Lib.hid hPE.size
                  clear hPE hS4
                  go_wp2_with fail
                  go_roundg (gk - 1)
                  case measure => have := HGB.out; have := H13.out; omega
                  case rel => exact ⟨mid, b1, l2, false, wp, d4, rfl, rfl, rfl, rfl, rfl, by have := HGB.out; have := HN0.out; omega, by have := HGB.out; have := HN0.out; omega, by omega, hbN, by have := HL.out; omega, HSK4.out, HS4.out, HER.out.1, fun R hR hs => have hh := HER.out.2 R hR hs; HR.out R hh.1 hh.2⟩
                · have HL2 := Lib.hid hl2
                  clear hl2 ha0 ha0'
                  generalize dk[a0]! = x at hc0 HL2
                  generalize dk[p]! = y at hcp HL2
                  go_quiet (first | (go_at_call 59; refine Calls.quiet_of_same (cmpLess_is _ _ _ _ HL2.out)))
                  have HS5 := Lib.hid (HS.out.drewN nq)
                  clear HS hc0 hcp
                  go_wp2_with fail
                  have HS := Lib.hid HS5.out
                  refine (part_s HS.out HSK.out hbN hsz (by have := H13.out; omega) HP.out.1 HP.out.2).mono ?_
                  rintro e w5 ⟨mid, r, d4, rfl, hPd, hS4⟩
                  have hmid1 := hPd.am
                  have hmid2 := hPd.mb
                  have HPR := Lib.hid (part_round hPd (by rw [HSK.out]; exact hbN) HB.out)
                  have HS4 := Lib.hid hS4
                  have HSK4 := Lib.hid hPd.size
                  clear hPd hS4
                  obtain ⟨le, hle⟩ : ∃ c, mid = a1 + c := ⟨mid - a1, by omega⟩
                  obtain ⟨ri, hri⟩ : ∃ c, b1 = mid + c := ⟨b1 - mid, by omega⟩
                  have hleI : (mid : Int) - (a1 : Int) = (le : Int) := by omega
                  have hriI : (b1 : Int) - (mid : Int) = (ri : Int) := by omega
                  have HLR : Hid (mid = a1 + le ∧ b1 = mid + ri ∧ b1 = a1 + m ∧ 1 ≤ ri) := by have := HM.out; exact ⟨hle, hri, by omega, by omega⟩
                  clear hle hri
                  by_cases hlr : le < ri
                  · have hlrI : (le : Int) < (ri : Int) := by omega
                    go_wp2_with fail
                    refine (IH.out le (by have := HLR.out; have := HGB.out; have := HN0.out; omega) (W := w5) (d := d4) (a := a1) (b := mid) (l := l2) (by have := HLR.out; omega) (by omega) (by omega) HS4.out HSK4.out HPR.out.1 (by have := HL.out; omega)).mono ?_
                    rintro e w6 ⟨rfl, L, hL1, hL2, hS6⟩
                    have HS6 := Lib.hid hS6
                    have HL6 := Lib.hid (HPR.out.2.2.1 L hL1 hL2)
                    have HSZ : Hid (L.size = N) := by show _ = _; rw [hL1.1]; exact HSK4.out
                    clear hL1 hL2 hS6
                    go_wp2_with fail
                    go_roundg (gk - 1)
                    case measure => have := HLR.out; have := HGB.out; have := H13.out; omega
                    case rel => exact ⟨mid + 1, b1, l2, _, r, L, by go_num, rfl, rfl, rfl, rfl, by have := HLR.out; have := HGB.out; have := HN0.out; omega, by have := HLR.out; have := HGB.out; have := HN0.out; omega, by have := HLR.out; omega, hbN, by have := HL.out; omega, HSZ.out, HS6.out, HL6.out.1, fun R hR hs => have hh := HL6.out.2 R hR hs; HR.out R hh.1 hh.2⟩
                  · have hlrI : ¬ (le : Int) < (ri : Int) := by omega
                    obtain ⟨m1, hm1⟩ : ∃ c, c = mid + 1 := ⟨_, rfl⟩
                    have hm1I : (mid : Int) + 1 = (m1 : Int) := by omega
                    have HM1 := Lib.hid hm1
                    rw [← hm1] at HPR
                    clear hm1
                    go_wp2_with fail
                    refine (IH.out (ri - 1) (by have := HLR.out; have := HGB.out; have := HN0.out; omega) (W := w5) (d := d4) (a := m1) (b := b1) (l := l2) (by have := HLR.out; have := HM1.out; omega) (by have := HM1.out; omega) hbN HS4.out HSK4.out HPR.out.2.1 (by have := HL.out; omega)).mono ?_
                    rintro e w6 ⟨rfl, L, hL1, hL2, hS6⟩
                    have HS6 := Lib.hid hS6
                    have HL6 := Lib.hid (HPR.out.2.2.2 L hL1 hL2)
                    have HSZ : Hid (L.size = N) := by show _ = _; rw [hL1.1]; exact HSK4.out
                    clear hL1 hL2 hS6
                    go_wp2_with fail
                    go_roundg (gk - 1)
                    case measure => have := HLR.out; have := HGB.out; have := H13.out; omega
                    case rel => exact ⟨a1, mid, l2, _, r, L, rfl, rfl, rfl, rfl, rfl, by have := HLR.out; have := HGB.out; have := HN0.out; omega, by have := HLR.out; have := HGB.out; have := HN0.out; omega, by omega, by omega, by have := HL.out; omega, HSZ.out, HS6.out, HL6.out.1, fun R hR hs => have hh := HL6.out.2 R hR hs; HR.out R hh.1 hh.2⟩
        · clear hl0
          cases wp
          · go_wp2_with fail
            refine (pivot_s HS.out HSK.out hbN hsz (by have := H13.out; omega)).mono ?_
            rintro e w2 ⟨p, q, rfl, hp1, hp2, hq, hS2⟩
            have HS2 := Lib.hid hS2
            have HP := Lib.hid (And.intro hp1 hp2)
            clear hS2 HS
            obtain rfl | rfl | rfl : q = 0 ∨ q = 1 ∨ q = 2 := by omega
            · as_aux_lemma =>
                have HS := Lib.hid HS2.out
                clear HS2 hq hp1 hp2
                go_wp2_with fail
                by_cases ha0 : a1 = 0
                · have ha0I : decide ((0 : Int) < (a1 : Int)) = false := by simp; omega
                  have ha0N : decide (0 < a1) = false := by simp; omega
                  clear ha0
                  go_quiet (fail)
                  have HS5 := Lib.hid (HS.out.drewN nq)
                  clear HS
                  go_wp2_with fail
                  have HS := Lib.hid HS5.out
                  refine (part_s HS.out HSK.out hbN hsz (by have := H13.out; omega) HP.out.1 HP.out.2).mono ?_
                  rintro e w5 ⟨mid, r, d4, rfl, hPd, hS4⟩
                  have hmid1 := hPd.am
                  have hmid2 := hPd.mb
                  have HPR := Lib.hid (part_round hPd (by rw [HSK.out]; exact hbN) HB.out)
                  have HS4 := Lib.hid hS4
                  have HSK4 := Lib.hid hPd.size
                  clear hPd hS4
                  obtain ⟨le, hle⟩ : ∃ c, mid = a1 + c := ⟨mid - a1, by omega⟩
                  obtain ⟨ri, hri⟩ : ∃ c, b1 = mid + c := ⟨b1 - mid, by omega⟩
                  have hleI : (mid : Int) - (a1 : Int) = (le : Int) := by omega
                  have hriI : (b1 : Int) - (mid : Int) = (ri : Int) := by omega
                  have HLR : Hid (mid = a1 + le ∧ b1 = mid + ri ∧ b1 = a1 + m ∧ 1 ≤ ri) := by have := HM.out; exact ⟨hle, hri, by omega, by omega⟩
                  clear hle hri
                  by_cases hlr : le < ri
                  · have hlrI : (le : Int) < (ri : Int) := by omega
                    go_wp2_with fail
                    refine (IH.out le (by have := HLR.out; have := HGB.out; have := HN0.out; omega) (W := w5) (d := d4) (a := a1) (b := mid) (l := l1) (by have := HLR.out; omega) (by omega) (by omega) HS4.out HSK4.out HPR.out.1 (by have := HL.out; omega)).mono ?_
                    rintro e w6 ⟨rfl, L, hL1, hL2, hS6⟩
                    have HS6 := Lib.hid hS6
                    have HL6 := Lib.hid (HPR.out.2.2.1 L hL1 hL2)
                    have HSZ : Hid (L.size = N) := by show _ = _; rw [hL1.1]; exact HSK4.out
                    clear hL1 hL2 hS6
                    go_wp2_with fail
                    go_roundg (gk - 1)
                    case measure => have := HLR.out; have := HGB.out; have := H13.out; omega
                    case rel => exact ⟨mid + 1, b1, l1, _, r, L, by go_num, rfl, rfl, rfl, rfl, by have := HLR.out; have := HGB.out; have := HN0.out; omega, by have := HLR.out; have := HGB.out; have := HN0.out; omega, by have := HLR.out; omega, hbN, by have := HL.out; omega, HSZ.out, HS6.out, HL6.out.1, fun R hR hs => have hh := HL6.out.2 R hR hs; HR.out R hh.1 hh.2⟩
                  · have hlrI : ¬ (le : Int) < (ri : Int) := by omega
                    obtain ⟨m1, hm1⟩ : ∃ c, c = mid + 1 := ⟨_, rfl⟩
                    have hm1I : (mid : Int) + 1 = (m1 : Int) := by omega
                    have HM1 := Lib.hid hm1
                    rw [← hm1] at HPR
                    clear hm1
                    go_wp2_with fail
                    refine (IH.out (ri - 1) (by have := HLR.out; have := HGB.out; have := HN0.out; omega) (W := w5) (d := d4) (a := m1) (b := b1) (l := l1) (by have := HLR.out; have := HM1.out; omega) (by have := HM1.out; omega) hbN HS4.out HSK4.out HPR.out.2.1 (by have := HL.out; omega)).mono ?_
                    rintro e w6 ⟨rfl, L, hL1, hL2, hS6⟩
                    have HS6 := Lib.hid hS6
                    have HL6 := Lib.hid (HPR.out.2.2.2 L hL1 hL2)
                    have HSZ : Hid (L.size = N) := by show _ = _; rw [hL1.1]; exact HSK4.out
                    clear hL1 hL2 hS6
                    go_wp2_with fail
                    go_roundg (gk - 1)
                    case measure => have := HLR.out; have := HGB.out; have := H13.out; omega
                    case rel => exact ⟨a1, mid, l1, _, r, L, rfl, rfl, rfl, rfl, rfl, by have := HLR.out; have := HGB.out; have := HN0.out; omega, by have := HLR.out; have := HGB.out; have := HN0.out; omega, by omega, by omega, by have := HL.out; omega, HSZ.out, HS6.out, HL6.out.1, fun R hR hs => have hh := HL6.out.2 R hR hs; HR.out R hh.1 hh.2⟩
                · have ha0I : (0 : Int) < (a1 : Int) := by omega
                  have ha0P : 0 < a1 := by omega
                  have ha0D : decide (0 < a1) = true := by simp; omega
                  have ha0E : decide ((0 : Int) < (a1 : Int)) = true := by simp; omega
                  obtain ⟨a0, ha0'⟩ : ∃ c, a1 = c + 1 := ⟨a1 - 1, by omega⟩
                  have ha0J : (a1 : Int) - 1 = (a0 : Int) := by omega
                  have hwa0 : IntKind.i64.wrap (a0 : Int) = (a0 : Int) := by rw [IntKind.wrap_i64]; omega
                  have h00 : (0 : Int) ≤ (a0 : Int) := by omega
                  have ha0N : (a0 : Int) < (N : Int) := by omega
                  have hpN : (p : Int) < (N : Int) := by have := HP.out; omega
                  have hp0 : (0 : Int) ≤ (p : Int) := by omega
                  have hc0 := HS.out.cell (t := a0) (by rw [HSK.out]; omega)
                  have hcp := HS.out.cell (t := p) (by rw [HSK.out]; have := HP.out; omega)
                  have HA0 : Hid (a1 - 1 = a0 ∧ 0 < a1) := by exact ⟨by omega, by omega⟩
                  cases hl2 : ltB dk[a0]! dk[p]!
                  · have HL2 := Lib.hid hl2
                    clear hl2 ha0 ha0'
                    have HL2' := Lib.hid HL2.out
                    generalize dk[a0]! = x at hc0 HL2
                    generalize dk[p]! = y at hcp HL2
                    go_quiet (first | (go_at_call 59; refine Calls.quiet_of_same (cmpLess_is _ _ _ _ HL2.out)))
                    have HS5 := Lib.hid (HS.out.drewN nq)
                    clear HS hc0 hcp
                    go_wp2_with fail
                    refine (equal_s HS5.out HSK.out hbN hsz (by have := H13.out; omega) HP.out.1 HP.out.2).mono ?_
                    rintro e w5 ⟨mid, d4, rfl, hPE, hS4⟩
                    have hmid1 := hPE.am
                    have hmid2 := hPE.mb
                    have HER := Lib.hid (equal_round hPE HA0.out.2 (by rw [HSK.out]; exact hbN) HB.out (by rw [HA0.out.1]; exact HL2'.out))
                    have HS4 := Lib.hid hS4
                    have HSK4 := Lib.hid hPE.size
                    clear hPE hS4
                    go_wp2_with fail
                    go_roundg (gk - 1)
                    case measure => have := HGB.out; have := H13.out; omega
                    case rel => exact ⟨mid, b1, l1, true, false, d4, rfl, rfl, rfl, rfl, rfl, by have := HGB.out; have := HN0.out; omega, by have := HGB.out; have := HN0.out; omega, by omega, hbN, by have := HL.out; omega, HSK4.out, HS4.out, HER.out.1, fun R hR hs => have hh := HER.out.2 R hR hs; HR.out R hh.1 hh.2⟩
                  · have HL2 := Lib.hid hl2
                    clear hl2 ha0 ha0'
                    generalize dk[a0]! = x at hc0 HL2
                    generalize dk[p]! = y at hcp HL2
                    go_quiet (first | (go_at_call 59; refine Calls.quiet_of_same (cmpLess_is _ _ _ _ HL2.out)))
                    have HS5 := Lib.hid (HS.out.drewN nq)
                    clear HS hc0 hcp
                    go_wp2_with fail
                    have HS := Lib.hid HS5.out
                    refine (part_s HS.out HSK.out hbN hsz (by have := H13.out; omega) HP.out.1 HP.out.2).mono ?_
                    rintro e w5 ⟨mid, r, d4, rfl, hPd, hS4⟩
                    have hmid1 := hPd.am
                    have hmid2 := hPd.mb
                    have HPR := Lib.hid (part_round hPd (by rw [HSK.out]; exact hbN) HB.out)
                    have HS4 := Lib.hid hS4
                    have HSK4 := Lib.hid hPd.size
                    clear hPd hS4
                    obtain ⟨le, hle⟩ : ∃ c, mid = a1 + c := ⟨mid - a1, by omega⟩
                    obtain ⟨ri, hri⟩ : ∃ c, b1 = mid + c := ⟨b1 - mid, by omega⟩
                    have hleI : (mid : Int) - (a1 : Int) = (le : Int) := by omega
                    have hriI : (b1 : Int) - (mid : Int) = (ri : Int) := by omega
                    have HLR : Hid (mid = a1 + le ∧ b1 = mid + ri ∧ b1 = a1 + m ∧ 1 ≤ ri) := by have := HM.out; exact ⟨hle, hri, by omega, by omega⟩
                    clear hle hri
                    by_cases hlr : le < ri
                    · have hlrI : (le : Int) < (ri : Int) := by omega
                      go_wp2_with fail
                      refine (IH.out le (by have := HLR.out; have := HGB.out; have := HN0.out; omega) (W := w5) (d := d4) (a := a1) (b := mid) (l := l1) (by have := HLR.out; omega) (by omega) (by omega) HS4.out HSK4.out HPR.out.1 (by have := HL.out; omega)).mono ?_
                      rintro e w6 ⟨rfl, L, hL1, hL2, hS6⟩
                      have HS6 := Lib.hid hS6
                      have HL6 := Lib.hid (HPR.out.2.2.1 L hL1 hL2)
                      have HSZ : Hid (L.size = N) := by show _ = _; rw [hL1.1]; exact HSK4.out
                      clear hL1 hL2 hS6
                      go_wp2_with fail
                      go_roundg (gk - 1)
                      case measure => have := HLR.out; have := HGB.out; have := H13.out; omega
                      case rel => exact ⟨mid + 1, b1, l1, _, r, L, by go_num, rfl, rfl, rfl, rfl, by have := HLR.out; have := HGB.out; have := HN0.out; omega, by have := HLR.out; have := HGB.out; have := HN0.out; omega, by have := HLR.out; omega, hbN, by have := HL.out; omega, HSZ.out, HS6.out, HL6.out.1, fun R hR hs => have hh := HL6.out.2 R hR hs; HR.out R hh.1 hh.2⟩
                    · have hlrI : ¬ (le : Int) < (ri : Int) := by omega
                      obtain ⟨m1, hm1⟩ : ∃ c, c = mid + 1 := ⟨_, rfl⟩
                      have hm1I : (mid : Int) + 1 = (m1 : Int) := by omega
                      have HM1 := Lib.hid hm1
                      rw [← hm1] at HPR
                      clear hm1
                      go_wp2_with fail
                      refine (IH.out (ri - 1) (by have := HLR.out; have := HGB.out; have := HN0.out; omega) (W := w5) (d := d4) (a := m1) (b := b1) (l := l1) (by have := HLR.out; have := HM1.out; omega) (by have := HM1.out; omega) hbN HS4.out HSK4.out HPR.out.2.1 (by have := HL.out; omega)).mono ?_
                      rintro e w6 ⟨rfl, L, hL1, hL2, hS6⟩
                      have HS6 := Lib.hid hS6
                      have HL6 := Lib.hid (HPR.out.2.2.2 L hL1 hL2)
                      have HSZ : Hid (L.size = N) := by show _ = _; rw [hL1.1]; exact HSK4.out
                      clear hL1 hL2 hS6
                      go_wp2_with fail
                      go_roundg (gk - 1)
                      case measure => have := HLR.out; have := HGB.out; have := H13.out; omega
                      case rel => exact ⟨a1, mid, l1, _, r, L, rfl, rfl, rfl, rfl, rfl, by have := HLR.out; have := HGB.out; have := HN0.out; omega, by have := HLR.out; have := HGB.out; have := HN0.out; omega, by omega, by omega, by have := HL.out; omega, HSZ.out, HS6.out, HL6.out.1, fun R hR hs => have hh := HL6.out.2 R hR hs; HR.out R hh.1 hh.2⟩
            · as_aux_lemma =>
                have HS := Lib.hid HS2.out
                clear HS2 hq hp1 hp2
                go_wp2_with fail
                by_cases ha0 : a1 = 0
                · have ha0I : decide ((0 : Int) < (a1 : Int)) = false := by simp; omega
                  have ha0N : decide (0 < a1) = false := by simp; omega
                  clear ha0
                  go_quiet (fail)
                  have HS5 := Lib.hid (HS.out.drewN nq)
                  clear HS
                  go_wp2_with fail
                  have HS := Lib.hid HS5.out
                  refine (part_s HS.out HSK.out hbN hsz (by have := H13.out; omega) HP.out.1 HP.out.2).mono ?_
                  rintro e w5 ⟨mid, r, d4, rfl, hPd, hS4⟩
                  have hmid1 := hPd.am
                  have hmid2 := hPd.mb
                  have HPR := Lib.hid (part_round hPd (by rw [HSK.out]; exact hbN) HB.out)
                  have HS4 := Lib.hid hS4
                  have HSK4 := Lib.hid hPd.size
                  clear hPd hS4
                  obtain ⟨le, hle⟩ : ∃ c, mid = a1 + c := ⟨mid - a1, by omega⟩
                  obtain ⟨ri, hri⟩ : ∃ c, b1 = mid + c := ⟨b1 - mid, by omega⟩
                  have hleI : (mid : Int) - (a1 : Int) = (le : Int) := by omega
                  have hriI : (b1 : Int) - (mid : Int) = (ri : Int) := by omega
                  have HLR : Hid (mid = a1 + le ∧ b1 = mid + ri ∧ b1 = a1 + m ∧ 1 ≤ ri) := by have := HM.out; exact ⟨hle, hri, by omega, by omega⟩
                  clear hle hri
                  by_cases hlr : le < ri
                  · have hlrI : (le : Int) < (ri : Int) := by omega
                    go_wp2_with fail
                    refine (IH.out le (by have := HLR.out; have := HGB.out; have := HN0.out; omega) (W := w5) (d := d4) (a := a1) (b := mid) (l := l1) (by have := HLR.out; omega) (by omega) (by omega) HS4.out HSK4.out HPR.out.1 (by have := HL.out; omega)).mono ?_
                    rintro e w6 ⟨rfl, L, hL1, hL2, hS6⟩
                    have HS6 := Lib.hid hS6
                    have HL6 := Lib.hid (HPR.out.2.2.1 L hL1 hL2)
                    have HSZ : Hid (L.size = N) := by show _ = _; rw [hL1.1]; exact HSK4.out
                    clear hL1 hL2 hS6
                    go_wp2_with fail
                    go_roundg (gk - 1)
                    case measure => have := HLR.out; have := HGB.out; have := H13.out; omega
                    case rel => exact ⟨mid + 1, b1, l1, _, r, L, by go_num, rfl, rfl, rfl, rfl, by have := HLR.out; have := HGB.out; have := HN0.out; omega, by have := HLR.out; have := HGB.out; have := HN0.out; omega, by have := HLR.out; omega, hbN, by have := HL.out; omega, HSZ.out, HS6.out, HL6.out.1, fun R hR hs => have hh := HL6.out.2 R hR hs; HR.out R hh.1 hh.2⟩
                  · have hlrI : ¬ (le : Int) < (ri : Int) := by omega
                    obtain ⟨m1, hm1⟩ : ∃ c, c = mid + 1 := ⟨_, rfl⟩
                    have hm1I : (mid : Int) + 1 = (m1 : Int) := by omega
                    have HM1 := Lib.hid hm1
                    rw [← hm1] at HPR
                    clear hm1
                    go_wp2_with fail
                    refine (IH.out (ri - 1) (by have := HLR.out; have := HGB.out; have := HN0.out; omega) (W := w5) (d := d4) (a := m1) (b := b1) (l := l1) (by have := HLR.out; have := HM1.out; omega) (by have := HM1.out; omega) hbN HS4.out HSK4.out HPR.out.2.1 (by have := HL.out; omega)).mono ?_
                    rintro e w6 ⟨rfl, L, hL1, hL2, hS6⟩
                    have HS6 := Lib.hid hS6
                    have HL6 := Lib.hid (HPR.out.2.2.2 L hL1 hL2)
                    have HSZ : Hid (L.size = N) := by show _ = _; rw [hL1.1]; exact HSK4.out
                    clear hL1 hL2 hS6
                    go_wp2_with fail
                    go_roundg (gk - 1)
                    case measure => have := HLR.out; have := HGB.out; have := H13.out; omega
                    case rel => exact ⟨a1, mid, l1, _, r, L, rfl, rfl, rfl, rfl, rfl, by have := HLR.out; have := HGB.out; have := HN0.out; omega, by have := HLR.out; have := HGB.out; have := HN0.out; omega, by omega, by omega, by have := HL.out; omega, HSZ.out, HS6.out, HL6.out.1, fun R hR hs => have hh := HL6.out.2 R hR hs; HR.out R hh.1 hh.2⟩
                · have ha0I : (0 : Int) < (a1 : Int) := by omega
                  have ha0P : 0 < a1 := by omega
                  have ha0D : decide (0 < a1) = true := by simp; omega
                  have ha0E : decide ((0 : Int) < (a1 : Int)) = true := by simp; omega
                  obtain ⟨a0, ha0'⟩ : ∃ c, a1 = c + 1 := ⟨a1 - 1, by omega⟩
                  have ha0J : (a1 : Int) - 1 = (a0 : Int) := by omega
                  have hwa0 : IntKind.i64.wrap (a0 : Int) = (a0 : Int) := by rw [IntKind.wrap_i64]; omega
                  have h00 : (0 : Int) ≤ (a0 : Int) := by omega
                  have ha0N : (a0 : Int) < (N : Int) := by omega
                  have hpN : (p : Int) < (N : Int) := by have := HP.out; omega
                  have hp0 : (0 : Int) ≤ (p : Int) := by omega
                  have hc0 := HS.out.cell (t := a0) (by rw [HSK.out]; omega)
                  have hcp := HS.out.cell (t := p) (by rw [HSK.out]; have := HP.out; omega)
                  have HA0 : Hid (a1 - 1 = a0 ∧ 0 < a1) := by exact ⟨by omega, by omega⟩
                  cases hl2 : ltB dk[a0]! dk[p]!
                  · have HL2 := Lib.hid hl2
                    clear hl2 ha0 ha0'
                    have HL2' := Lib.hid HL2.out
                    generalize dk[a0]! = x at hc0 HL2
                    generalize dk[p]! = y at hcp HL2
                    go_quiet (first | (go_at_call 59; refine Calls.quiet_of_same (cmpLess_is _ _ _ _ HL2.out)))
                    have HS5 := Lib.hid (HS.out.drewN nq)
                    clear HS hc0 hcp
                    go_wp2_with fail
                    refine (equal_s HS5.out HSK.out hbN hsz (by have := H13.out; omega) HP.out.1 HP.out.2).mono ?_
                    rintro e w5 ⟨mid, d4, rfl, hPE, hS4⟩
                    have hmid1 := hPE.am
                    have hmid2 := hPE.mb
                    have HER := Lib.hid (equal_round hPE HA0.out.2 (by rw [HSK.out]; exact hbN) HB.out (by rw [HA0.out.1]; exact HL2'.out))
                    have HS4 := Lib.hid hS4
                    have HSK4 := Lib.hid hPE.size
                    clear hPE hS4
                    go_wp2_with fail
                    go_roundg (gk - 1)
                    case measure => have := HGB.out; have := H13.out; omega
                    case rel => exact ⟨mid, b1, l1, true, false, d4, rfl, rfl, rfl, rfl, rfl, by have := HGB.out; have := HN0.out; omega, by have := HGB.out; have := HN0.out; omega, by omega, hbN, by have := HL.out; omega, HSK4.out, HS4.out, HER.out.1, fun R hR hs => have hh := HER.out.2 R hR hs; HR.out R hh.1 hh.2⟩
                  · have HL2 := Lib.hid hl2
                    clear hl2 ha0 ha0'
                    generalize dk[a0]! = x at hc0 HL2
                    generalize dk[p]! = y at hcp HL2
                    go_quiet (first | (go_at_call 59; refine Calls.quiet_of_same (cmpLess_is _ _ _ _ HL2.out)))
                    have HS5 := Lib.hid (HS.out.drewN nq)
                    clear HS hc0 hcp
                    go_wp2_with fail
                    have HS := Lib.hid HS5.out
                    refine (part_s HS.out HSK.out hbN hsz (by have := H13.out; omega) HP.out.1 HP.out.2).mono ?_
                    rintro e w5 ⟨mid, r, d4, rfl, hPd, hS4⟩
                    have hmid1 := hPd.am
                    have hmid2 := hPd.mb
                    have HPR := Lib.hid (part_round hPd (by rw [HSK.out]; exact hbN) HB.out)
                    have HS4 := Lib.hid hS4
                    have HSK4 := Lib.hid hPd.size
                    clear hPd hS4
                    obtain ⟨le, hle⟩ : ∃ c, mid = a1 + c := ⟨mid - a1, by omega⟩
                    obtain ⟨ri, hri⟩ : ∃ c, b1 = mid + c := ⟨b1 - mid, by omega⟩
                    have hleI : (mid : Int) - (a1 : Int) = (le : Int) := by omega
                    have hriI : (b1 : Int) - (mid : Int) = (ri : Int) := by omega
                    have HLR : Hid (mid = a1 + le ∧ b1 = mid + ri ∧ b1 = a1 + m ∧ 1 ≤ ri) := by have := HM.out; exact ⟨hle, hri, by omega, by omega⟩
                    clear hle hri
                    by_cases hlr : le < ri
                    · have hlrI : (le : Int) < (ri : Int) := by omega
                      go_wp2_with fail
                      refine (IH.out le (by have := HLR.out; have := HGB.out; have := HN0.out; omega) (W := w5) (d := d4) (a := a1) (b := mid) (l := l1) (by have := HLR.out; omega) (by omega) (by omega) HS4.out HSK4.out HPR.out.1 (by have := HL.out; omega)).mono ?_
                      rintro e w6 ⟨rfl, L, hL1, hL2, hS6⟩
                      have HS6 := Lib.hid hS6
                      have HL6 := Lib.hid (HPR.out.2.2.1 L hL1 hL2)
                      have HSZ : Hid (L.size = N) := by show _ = _; rw [hL1.1]; exact HSK4.out
                      clear hL1 hL2 hS6
                      go_wp2_with fail
                      go_roundg (gk - 1)
                      case measure => have := HLR.out; have := HGB.out; have := H13.out; omega
                      case rel => exact ⟨mid + 1, b1, l1, _, r, L, by go_num, rfl, rfl, rfl, rfl, by have := HLR.out; have := HGB.out; have := HN0.out; omega, by have := HLR.out; have := HGB.out; have := HN0.out; omega, by have := HLR.out; omega, hbN, by have := HL.out; omega, HSZ.out, HS6.out, HL6.out.1, fun R hR hs => have hh := HL6.out.2 R hR hs; HR.out R hh.1 hh.2⟩
                    · have hlrI : ¬ (le : Int) < (ri : Int) := by omega
                      obtain ⟨m1, hm1⟩ : ∃ c, c = mid + 1 := ⟨_, rfl⟩
                      have hm1I : (mid : Int) + 1 = (m1 : Int) := by omega
                      have HM1 := Lib.hid hm1
                      rw [← hm1] at HPR
                      clear hm1
                      go_wp2_with fail
                      refine (IH.out (ri - 1) (by have := HLR.out; have := HGB.out; have := HN0.out; omega) (W := w5) (d := d4) (a := m1) (b := b1) (l := l1) (by have := HLR.out; have := HM1.out; omega) (by have := HM1.out; omega) hbN HS4.out HSK4.out HPR.out.2.1 (by have := HL.out; omega)).mono ?_
                      rintro e w6 ⟨rfl, L, hL1, hL2, hS6⟩
                      have HS6 := Lib.hid hS6
                      have HL6 := Lib.hid (HPR.out.2.2.2 L hL1 hL2)
                      have HSZ : Hid (L.size = N) := by show _ = _; rw [hL1.1]; exact HSK4.out
                      clear hL1 hL2 hS6
                      go_wp2_with fail
                      go_roundg (gk - 1)
                      case measure => have := HLR.out; have := HGB.out; have := H13.out; omega
                      case rel => exact ⟨a1, mid, l1, _, r, L, rfl, rfl, rfl, rfl, rfl, by have := HLR.out; have := HGB.out; have := HN0.out; omega, by have := HLR.out; have := HGB.out; have := HN0.out; omega, by omega, by omega, by have := HL.out; omega, HSZ.out, HS6.out, HL6.out.1, fun R hR hs => have hh := HL6.out.2 R hR hs; HR.out R hh.1 hh.2⟩
            · as_aux_lemma =>
                obtain ⟨p, hp2I, hp3, hp4⟩ := mirror hp1 hp2
                clear hq
                go_wp2_with fail
                refine (reverse_s HS2.out HSK.out (by have := H13.out; omega) hbN hsz).mono ?_
                rintro e w3 ⟨rfl, hS3⟩
                have hPv := reverseRange_holds dk a1 b1 (by omega) (by rw [HSK.out]; exact hbN)
                obtain ⟨dk, hdl⟩ : ∃ c, c = Sort.reverseRange dk a1 b1 := ⟨_, rfl⟩
                rw [← hdl] at hS3 hPv
                have HS := Lib.hid hS3
                have HB2 := Lib.hid (HB.out.perm (by rw [HSK.out]; exact hbN) hPv)
                have HR2 := Lib.hid (HR.out.perm hPv)
                have HSK2 : Hid (dk.size = N) := by show _ = _; rw [hPv.1]; exact HSK.out
                clear HB HR HSK HS2 hS3 hdl hPv HP
                have HB := Lib.hid HB2.out
                have HR := Lib.hid HR2.out
                have HSK := Lib.hid HSK2.out
                have HP := Lib.hid (And.intro hp3 hp4)
                clear HB2 HR2 HSK2 hp3 hp4 hp1 hp2
                go_outline
                go_wp2_with fail
                by_cases ha0 : a1 = 0
                · have ha0I : decide ((0 : Int) < (a1 : Int)) = false := by simp; omega
                  have ha0N : decide (0 < a1) = false := by simp; omega
                  clear ha0
                  go_quiet (fail)
                  have HS5 := Lib.hid (HS.out.drewN nq)
                  clear HS
                  go_wp2_with fail
                  have HS := Lib.hid HS5.out
                  refine (part_s HS.out HSK.out hbN hsz (by have := H13.out; omega) HP.out.1 HP.out.2).mono ?_
                  rintro e w5 ⟨mid, r, d4, rfl, hPd, hS4⟩
                  have hmid1 := hPd.am
                  have hmid2 := hPd.mb
                  have HPR := Lib.hid (part_round hPd (by rw [HSK.out]; exact hbN) HB.out)
                  have HS4 := Lib.hid hS4
                  have HSK4 := Lib.hid hPd.size
                  clear hPd hS4
                  obtain ⟨le, hle⟩ : ∃ c, mid = a1 + c := ⟨mid - a1, by omega⟩
                  obtain ⟨ri, hri⟩ : ∃ c, b1 = mid + c := ⟨b1 - mid, by omega⟩
                  have hleI : (mid : Int) - (a1 : Int) = (le : Int) := by omega
                  have hriI : (b1 : Int) - (mid : Int) = (ri : Int) := by omega
                  have HLR : Hid (mid = a1 + le ∧ b1 = mid + ri ∧ b1 = a1 + m ∧ 1 ≤ ri) := by have := HM.out; exact ⟨hle, hri, by omega, by omega⟩
                  clear hle hri
                  by_cases hlr : le < ri
                  · have hlrI : (le : Int) < (ri : Int) := by omega
                    go_wp2_with fail
                    refine (IH.out le (by have := HLR.out; have := HGB.out; have := HN0.out; omega) (W := w5) (d := d4) (a := a1) (b := mid) (l := l1) (by have := HLR.out; omega) (by omega) (by omega) HS4.out HSK4.out HPR.out.1 (by have := HL.out; omega)).mono ?_
                    rintro e w6 ⟨rfl, L, hL1, hL2, hS6⟩
                    have HS6 := Lib.hid hS6
                    have HL6 := Lib.hid (HPR.out.2.2.1 L hL1 hL2)
                    have HSZ : Hid (L.size = N) := by show _ = _; rw [hL1.1]; exact HSK4.out
                    clear hL1 hL2 hS6
                    go_wp2_with fail
                    go_roundg (gk - 1)
                    case measure => have := HLR.out; have := HGB.out; have := H13.out; omega
                    case rel => exact ⟨mid + 1, b1, l1, _, r, L, by go_num, rfl, rfl, rfl, rfl, by have := HLR.out; have := HGB.out; have := HN0.out; omega, by have := HLR.out; have := HGB.out; have := HN0.out; omega, by have := HLR.out; omega, hbN, by have := HL.out; omega, HSZ.out, HS6.out, HL6.out.1, fun R hR hs => have hh := HL6.out.2 R hR hs; HR.out R hh.1 hh.2⟩
                  · have hlrI : ¬ (le : Int) < (ri : Int) := by omega
                    obtain ⟨m1, hm1⟩ : ∃ c, c = mid + 1 := ⟨_, rfl⟩
                    have hm1I : (mid : Int) + 1 = (m1 : Int) := by omega
                    have HM1 := Lib.hid hm1
                    rw [← hm1] at HPR
                    clear hm1
                    go_wp2_with fail
                    refine (IH.out (ri - 1) (by have := HLR.out; have := HGB.out; have := HN0.out; omega) (W := w5) (d := d4) (a := m1) (b := b1) (l := l1) (by have := HLR.out; have := HM1.out; omega) (by have := HM1.out; omega) hbN HS4.out HSK4.out HPR.out.2.1 (by have := HL.out; omega)).mono ?_
                    rintro e w6 ⟨rfl, L, hL1, hL2, hS6⟩
                    have HS6 := Lib.hid hS6
                    have HL6 := Lib.hid (HPR.out.2.2.2 L hL1 hL2)
                    have HSZ : Hid (L.size = N) := by show _ = _; rw [hL1.1]; exact HSK4.out
                    clear hL1 hL2 hS6
                    go_wp2_with fail
                    go_roundg (gk - 1)
                    case measure => have := HLR.out; have := HGB.out; have := H13.out; omega
                    case rel => exact ⟨a1, mid, l1, _, r, L, rfl, rfl, rfl, rfl, rfl, by have := HLR.out; have := HGB.out; have := HN0.out; omega, by have := HLR.out; have := HGB.out; have := HN0.out; omega, by omega, by omega, by have := HL.out; omega, HSZ.out, HS6.out, HL6.out.1, fun R hR hs => have hh := HL6.out.2 R hR hs; HR.out R hh.1 hh.2⟩
                · have ha0I : (0 : Int) < (a1 : Int) := by omega
                  have ha0P : 0 < a1 := by omega
                  have ha0D : decide (0 < a1) = true := by simp; omega
                  have ha0E : decide ((0 : Int) < (a1 : Int)) = true := by simp; omega
                  obtain ⟨a0, ha0'⟩ : ∃ c, a1 = c + 1 := ⟨a1 - 1, by omega⟩
                  have ha0J : (a1 : Int) - 1 = (a0 : Int) := by omega
                  have hwa0 : IntKind.i64.wrap (a0 : Int) = (a0 : Int) := by rw [IntKind.wrap_i64]; omega
                  have h00 : (0 : Int) ≤ (a0 : Int) := by omega
                  have ha0N : (a0 : Int) < (N : Int) := by omega
                  have hpN : (p : Int) < (N : Int) := by have := HP.out; omega
                  have hp0 : (0 : Int) ≤ (p : Int) := by omega
                  have hc0 := HS.out.cell (t := a0) (by rw [HSK.out]; omega)
                  have hcp := HS.out.cell (t := p) (by rw [HSK.out]; have := HP.out; omega)
                  have HA0 : Hid (a1 - 1 = a0 ∧ 0 < a1) := by exact ⟨by omega, by omega⟩
                  cases hl2 : ltB dk[a0]! dk[p]!
                  · have HL2 := Lib.hid hl2
                    clear hl2 ha0 ha0'
                    have HL2' := Lib.hid HL2.out
                    generalize dk[a0]! = x at hc0 HL2
                    generalize dk[p]! = y at hcp HL2
                    go_quiet (first | (go_at_call 59; refine Calls.quiet_of_same (cmpLess_is _ _ _ _ HL2.out)))
                    have HS5 := Lib.hid (HS.out.drewN nq)
                    clear HS hc0 hcp
                    go_wp2_with fail
                    refine (equal_s HS5.out HSK.out hbN hsz (by have := H13.out; omega) HP.out.1 HP.out.2).mono ?_
                    rintro e w5 ⟨mid, d4, rfl, hPE, hS4⟩
                    have hmid1 := hPE.am
                    have hmid2 := hPE.mb
                    have HER := Lib.hid (equal_round hPE HA0.out.2 (by rw [HSK.out]; exact hbN) HB.out (by rw [HA0.out.1]; exact HL2'.out))
                    have HS4 := Lib.hid hS4
                    have HSK4 := Lib.hid hPE.size
                    clear hPE hS4
                    go_wp2_with fail
                    go_roundg (gk - 1)
                    case measure => have := HGB.out; have := H13.out; omega
                    case rel => exact ⟨mid, b1, l1, true, false, d4, rfl, rfl, rfl, rfl, rfl, by have := HGB.out; have := HN0.out; omega, by have := HGB.out; have := HN0.out; omega, by omega, hbN, by have := HL.out; omega, HSK4.out, HS4.out, HER.out.1, fun R hR hs => have hh := HER.out.2 R hR hs; HR.out R hh.1 hh.2⟩
                  · have HL2 := Lib.hid hl2
                    clear hl2 ha0 ha0'
                    generalize dk[a0]! = x at hc0 HL2
                    generalize dk[p]! = y at hcp HL2
                    go_quiet (first | (go_at_call 59; refine Calls.quiet_of_same (cmpLess_is _ _ _ _ HL2.out)))
                    have HS5 := Lib.hid (HS.out.drewN nq)
                    clear HS hc0 hcp
                    go_wp2_with fail
                    have HS := Lib.hid HS5.out
                    refine (part_s HS.out HSK.out hbN hsz (by have := H13.out; omega) HP.out.1 HP.out.2).mono ?_
                    rintro e w5 ⟨mid, r, d4, rfl, hPd, hS4⟩
                    have hmid1 := hPd.am
                    have hmid2 := hPd.mb
                    have HPR := Lib.hid (part_round hPd (by rw [HSK.out]; exact hbN) HB.out)
                    have HS4 := Lib.hid hS4
                    have HSK4 := Lib.hid hPd.size
                    clear hPd hS4
                    obtain ⟨le, hle⟩ : ∃ c, mid = a1 + c := ⟨mid - a1, by omega⟩
                    obtain ⟨ri, hri⟩ : ∃ c, b1 = mid + c := ⟨b1 - mid, by omega⟩
                    have hleI : (mid : Int) - (a1 : Int) = (le : Int) := by omega
                    have hriI : (b1 : Int) - (mid : Int) = (ri : Int) := by omega
                    have HLR : Hid (mid = a1 + le ∧ b1 = mid + ri ∧ b1 = a1 + m ∧ 1 ≤ ri) := by have := HM.out; exact ⟨hle, hri, by omega, by omega⟩
                    clear hle hri
                    by_cases hlr : le < ri
                    · have hlrI : (le : Int) < (ri : Int) := by omega
                      go_wp2_with fail
                      refine (IH.out le (by have := HLR.out; have := HGB.out; have := HN0.out; omega) (W := w5) (d := d4) (a := a1) (b := mid) (l := l1) (by have := HLR.out; omega) (by omega) (by omega) HS4.out HSK4.out HPR.out.1 (by have := HL.out; omega)).mono ?_
                      rintro e w6 ⟨rfl, L, hL1, hL2, hS6⟩
                      have HS6 := Lib.hid hS6
                      have HL6 := Lib.hid (HPR.out.2.2.1 L hL1 hL2)
                      have HSZ : Hid (L.size = N) := by show _ = _; rw [hL1.1]; exact HSK4.out
                      clear hL1 hL2 hS6
                      go_wp2_with fail
                      go_roundg (gk - 1)
                      case measure => have := HLR.out; have := HGB.out; have := H13.out; omega
                      case rel => exact ⟨mid + 1, b1, l1, _, r, L, by go_num, rfl, rfl, rfl, rfl, by have := HLR.out; have := HGB.out; have := HN0.out; omega, by have := HLR.out; have := HGB.out; have := HN0.out; omega, by have := HLR.out; omega, hbN, by have := HL.out; omega, HSZ.out, HS6.out, HL6.out.1, fun R hR hs => have hh := HL6.out.2 R hR hs; HR.out R hh.1 hh.2⟩
                    · have hlrI : ¬ (le : Int) < (ri : Int) := by omega
                      obtain ⟨m1, hm1⟩ : ∃ c, c = mid + 1 := ⟨_, rfl⟩
                      have hm1I : (mid : Int) + 1 = (m1 : Int) := by omega
                      have HM1 := Lib.hid hm1
                      rw [← hm1] at HPR
                      clear hm1
                      go_wp2_with fail
                      refine (IH.out (ri - 1) (by have := HLR.out; have := HGB.out; have := HN0.out; omega) (W := w5) (d := d4) (a := m1) (b := b1) (l := l1) (by have := HLR.out; have := HM1.out; omega) (by have := HM1.out; omega) hbN HS4.out HSK4.out HPR.out.2.1 (by have := HL.out; omega)).mono ?_
                      rintro e w6 ⟨rfl, L, hL1, hL2, hS6⟩
                      have HS6 := Lib.hid hS6
                      have HL6 := Lib.hid (HPR.out.2.2.2 L hL1 hL2)
                      have HSZ : Hid (L.size = N) := by show _ = _; rw [hL1.1]; exact HSK4.out
                      clear hL1 hL2 hS6
                      go_wp2_with fail
                      go_roundg (gk - 1)
                      case measure => have := HLR.out; have := HGB.out; have := H13.out; omega
                      case rel => exact ⟨a1, mid, l1, _, r, L, rfl, rfl, rfl, rfl, rfl, by have := HLR.out; have := HGB.out; have := HN0.out; omega, by have := HLR.out; have := HGB.out; have := HN0.out; omega, by omega, by omega, by have := HL.out; omega, HSZ.out, HS6.out, HL6.out.1, fun R hR hs => have hh := HL6.out.2 R hR hs; HR.out R hh.1 hh.2⟩
          · go_wp2_with fail
            refine (pivot_s HS.out HSK.out hbN hsz (by have := H13.out; omega)).mono ?_
            rintro e w2 ⟨p, q, rfl, hp1, hp2, hq, hS2⟩
            have HS2 := Lib.hid hS2
            have HP := Lib.hid (And.intro hp1 hp2)
            clear hS2 HS
            obtain rfl | rfl | rfl : q = 0 ∨ q = 1 ∨ q = 2 := by omega
            · as_aux_lemma =>
                have HS := Lib.hid HS2.out
                clear HS2 hq hp1 hp2
                go_wp2_with fail
                by_cases ha0 : a1 = 0
                · have ha0I : decide ((0 : Int) < (a1 : Int)) = false := by simp; omega
                  have ha0N : decide (0 < a1) = false := by simp; omega
                  clear ha0
                  go_quiet (fail)
                  have HS5 := Lib.hid (HS.out.drewN nq)
                  clear HS
                  go_wp2_with fail
                  have HS := Lib.hid HS5.out
                  refine (part_s HS.out HSK.out hbN hsz (by have := H13.out; omega) HP.out.1 HP.out.2).mono ?_
                  rintro e w5 ⟨mid, r, d4, rfl, hPd, hS4⟩
                  have hmid1 := hPd.am
                  have hmid2 := hPd.mb
                  have HPR := Lib.hid (part_round hPd (by rw [HSK.out]; exact hbN) HB.out)
                  have HS4 := Lib.hid hS4
                  have HSK4 := Lib.hid hPd.size
                  clear hPd hS4
                  obtain ⟨le, hle⟩ : ∃ c, mid = a1 + c := ⟨mid - a1, by omega⟩
                  obtain ⟨ri, hri⟩ : ∃ c, b1 = mid + c := ⟨b1 - mid, by omega⟩
                  have hleI : (mid : Int) - (a1 : Int) = (le : Int) := by omega
                  have hriI : (b1 : Int) - (mid : Int) = (ri : Int) := by omega
                  have HLR : Hid (mid = a1 + le ∧ b1 = mid + ri ∧ b1 = a1 + m ∧ 1 ≤ ri) := by have := HM.out; exact ⟨hle, hri, by omega, by omega⟩
                  clear hle hri
                  by_cases hlr : le < ri
                  · have hlrI : (le : Int) < (ri : Int) := by omega
                    go_wp2_with fail
                    refine (IH.out le (by have := HLR.out; have := HGB.out; have := HN0.out; omega) (W := w5) (d := d4) (a := a1) (b := mid) (l := l1) (by have := HLR.out; omega) (by omega) (by omega) HS4.out HSK4.out HPR.out.1 (by have := HL.out; omega)).mono ?_
                    rintro e w6 ⟨rfl, L, hL1, hL2, hS6⟩
                    have HS6 := Lib.hid hS6
                    have HL6 := Lib.hid (HPR.out.2.2.1 L hL1 hL2)
                    have HSZ : Hid (L.size = N) := by show _ = _; rw [hL1.1]; exact HSK4.out
                    clear hL1 hL2 hS6
                    go_wp2_with fail
                    go_roundg (gk - 1)
                    case measure => have := HLR.out; have := HGB.out; have := H13.out; omega
                    case rel => exact ⟨mid + 1, b1, l1, _, r, L, by go_num, rfl, rfl, rfl, rfl, by have := HLR.out; have := HGB.out; have := HN0.out; omega, by have := HLR.out; have := HGB.out; have := HN0.out; omega, by have := HLR.out; omega, hbN, by have := HL.out; omega, HSZ.out, HS6.out, HL6.out.1, fun R hR hs => have hh := HL6.out.2 R hR hs; HR.out R hh.1 hh.2⟩
                  · have hlrI : ¬ (le : Int) < (ri : Int) := by omega
                    obtain ⟨m1, hm1⟩ : ∃ c, c = mid + 1 := ⟨_, rfl⟩
                    have hm1I : (mid : Int) + 1 = (m1 : Int) := by omega
                    have HM1 := Lib.hid hm1
                    rw [← hm1] at HPR
                    clear hm1
                    go_wp2_with fail
                    refine (IH.out (ri - 1) (by have := HLR.out; have := HGB.out; have := HN0.out; omega) (W := w5) (d := d4) (a := m1) (b := b1) (l := l1) (by have := HLR.out; have := HM1.out; omega) (by have := HM1.out; omega) hbN HS4.out HSK4.out HPR.out.2.1 (by have := HL.out; omega)).mono ?_
                    rintro e w6 ⟨rfl, L, hL1, hL2, hS6⟩
                    have HS6 := Lib.hid hS6
                    have HL6 := Lib.hid (HPR.out.2.2.2 L hL1 hL2)
                    have HSZ : Hid (L.size = N) := by show _ = _; rw [hL1.1]; exact HSK4.out
                    clear hL1 hL2 hS6
                    go_wp2_with fail
                    go_roundg (gk - 1)
                    case measure => have := HLR.out; have := HGB.out; have := H13.out; omega
                    case rel => exact ⟨a1, mid, l1, _, r, L, rfl, rfl, rfl, rfl, rfl, by have := HLR.out; have := HGB.out; have := HN0.out; omega, by have := HLR.out; have := HGB.out; have := HN0.out; omega, by omega, by omega, by have := HL.out; omega, HSZ.out, HS6.out, HL6.out.1, fun R hR hs => have hh := HL6.out.2 R hR hs; HR.out R hh.1 hh.2⟩
                · have ha0I : (0 : Int) < (a1 : Int) := by omega
                  have ha0P : 0 < a1 := by omega
                  have ha0D : decide (0 < a1) = true := by simp; omega
                  have ha0E : decide ((0 : Int) < (a1 : Int)) = true := by simp; omega
                  obtain ⟨a0, ha0'⟩ : ∃ c, a1 = c + 1 := ⟨a1 - 1, by omega⟩
                  have ha0J : (a1 : Int) - 1 = (a0 : Int) := by omega
                  have hwa0 : IntKind.i64.wrap (a0 : Int) = (a0 : Int) := by rw [IntKind.wrap_i64]; omega
                  have h00 : (0 : Int) ≤ (a0 : Int) := by omega
                  have ha0N : (a0 : Int) < (N : Int) := by omega
                  have hpN : (p : Int) < (N : Int) := by have := HP.out; omega
                  have hp0 : (0 : Int) ≤ (p : Int) := by omega
                  have hc0 := HS.out.cell (t := a0) (by rw [HSK.out]; omega)
                  have hcp := HS.out.cell (t := p) (by rw [HSK.out]; have := HP.out; omega)
                  have HA0 : Hid (a1 - 1 = a0 ∧ 0 < a1) := by exact ⟨by omega, by omega⟩
                  cases hl2 : ltB dk[a0]! dk[p]!
                  · have HL2 := Lib.hid hl2
                    clear hl2 ha0 ha0'
                    have HL2' := Lib.hid HL2.out
                    generalize dk[a0]! = x at hc0 HL2
                    generalize dk[p]! = y at hcp HL2
                    go_quiet (first | (go_at_call 59; refine Calls.quiet_of_same (cmpLess_is _ _ _ _ HL2.out)))
                    have HS5 := Lib.hid (HS.out.drewN nq)
                    clear HS hc0 hcp
                    go_wp2_with fail
                    refine (equal_s HS5.out HSK.out hbN hsz (by have := H13.out; omega) HP.out.1 HP.out.2).mono ?_
                    rintro e w5 ⟨mid, d4, rfl, hPE, hS4⟩
                    have hmid1 := hPE.am
                    have hmid2 := hPE.mb
                    have HER := Lib.hid (equal_round hPE HA0.out.2 (by rw [HSK.out]; exact hbN) HB.out (by rw [HA0.out.1]; exact HL2'.out))
                    have HS4 := Lib.hid hS4
                    have HSK4 := Lib.hid hPE.size
                    clear hPE hS4
                    go_wp2_with fail
                    go_roundg (gk - 1)
                    case measure => have := HGB.out; have := H13.out; omega
                    case rel => exact ⟨mid, b1, l1, true, true, d4, rfl, rfl, rfl, rfl, rfl, by have := HGB.out; have := HN0.out; omega, by have := HGB.out; have := HN0.out; omega, by omega, hbN, by have := HL.out; omega, HSK4.out, HS4.out, HER.out.1, fun R hR hs => have hh := HER.out.2 R hR hs; HR.out R hh.1 hh.2⟩
                  · have HL2 := Lib.hid hl2
                    clear hl2 ha0 ha0'
                    generalize dk[a0]! = x at hc0 HL2
                    generalize dk[p]! = y at hcp HL2
                    go_quiet (first | (go_at_call 59; refine Calls.quiet_of_same (cmpLess_is _ _ _ _ HL2.out)))
                    have HS5 := Lib.hid (HS.out.drewN nq)
                    clear HS hc0 hcp
                    go_wp2_with fail
                    have HS := Lib.hid HS5.out
                    refine (part_s HS.out HSK.out hbN hsz (by have := H13.out; omega) HP.out.1 HP.out.2).mono ?_
                    rintro e w5 ⟨mid, r, d4, rfl, hPd, hS4⟩
                    have hmid1 := hPd.am
                    have hmid2 := hPd.mb
                    have HPR := Lib.hid (part_round hPd (by rw [HSK.out]; exact hbN) HB.out)
                    have HS4 := Lib.hid hS4
                    have HSK4 := Lib.hid hPd.size
                    clear hPd hS4
                    obtain ⟨le, hle⟩ : ∃ c, mid = a1 + c := ⟨mid - a1, by omega⟩
                    obtain ⟨ri, hri⟩ : ∃ c, b1 = mid + c := ⟨b1 - mid, by omega⟩
                    have hleI : (mid : Int) - (a1 : Int) = (le : Int) := by omega
                    have hriI : (b1 : Int) - (mid : Int) = (ri : Int) := by omega
                    have HLR : Hid (mid = a1 + le ∧ b1 = mid + ri ∧ b1 = a1 + m ∧ 1 ≤ ri) := by have := HM.out; exact ⟨hle, hri, by omega, by omega⟩
                    clear hle hri
                    by_cases hlr : le < ri
                    · have hlrI : (le : Int) < (ri : Int) := by omega
                      go_wp2_with fail
                      refine (IH.out le (by have := HLR.out; have := HGB.out; have := HN0.out; omega) (W := w5) (d := d4) (a := a1) (b := mid) (l := l1) (by have := HLR.out; omega) (by omega) (by omega) HS4.out HSK4.out HPR.out.1 (by have := HL.out; omega)).mono ?_
                      rintro e w6 ⟨rfl, L, hL1, hL2, hS6⟩
                      have HS6 := Lib.hid hS6
                      have HL6 := Lib.hid (HPR.out.2.2.1 L hL1 hL2)
                      have HSZ : Hid (L.size = N) := by show _ = _; rw [hL1.1]; exact HSK4.out
                      clear hL1 hL2 hS6
                      go_wp2_with fail
                      go_roundg (gk - 1)
                      case measure => have := HLR.out; have := HGB.out; have := H13.out; omega
                      case rel => exact ⟨mid + 1, b1, l1, _, r, L, by go_num, rfl, rfl, rfl, rfl, by have := HLR.out; have := HGB.out; have := HN0.out; omega, by have := HLR.out; have := HGB.out; have := HN0.out; omega, by have := HLR.out; omega, hbN, by have := HL.out; omega, HSZ.out, HS6.out, HL6.out.1, fun R hR hs => have hh := HL6.out.2 R hR hs; HR.out R hh.1 hh.2⟩
                    · have hlrI : ¬ (le : Int) < (ri : Int) := by omega
                      obtain ⟨m1, hm1⟩ : ∃ c, c = mid + 1 := ⟨_, rfl⟩
                      have hm1I : (mid : Int) + 1 = (m1 : Int) := by omega
                      have HM1 := Lib.hid hm1
                      rw [← hm1] at HPR
                      clear hm1
                      go_wp2_with fail
                      refine (IH.out (ri - 1) (by have := HLR.out; have := HGB.out; have := HN0.out; omega) (W := w5) (d := d4) (a := m1) (b := b1) (l := l1) (by have := HLR.out; have := HM1.out; omega) (by have := HM1.out; omega) hbN HS4.out HSK4.out HPR.out.2.1 (by have := HL.out; omega)).mono ?_
                      rintro e w6 ⟨rfl, L, hL1, hL2, hS6⟩
                      have HS6 := Lib.hid hS6
                      have HL6 := Lib.hid (HPR.out.2.2.2 L hL1 hL2)
                      have HSZ : Hid (L.size = N) := by show _ = _; rw [hL1.1]; exact HSK4.out
                      clear hL1 hL2 hS6
                      go_wp2_with fail
                      go_roundg (gk - 1)
                      case measure => have := HLR.out; have := HGB.out; have := H13.out; omega
                      case rel => exact ⟨a1, mid, l1, _, r, L, rfl, rfl, rfl, rfl, rfl, by have := HLR.out; have := HGB.out; have := HN0.out; omega, by have := HLR.out; have := HGB.out; have := HN0.out; omega, by omega, by omega, by have := HL.out; omega, HSZ.out, HS6.out, HL6.out.1, fun R hR hs => have hh := HL6.out.2 R hR hs; HR.out R hh.1 hh.2⟩
            · as_aux_lemma =>
                have HS := Lib.hid HS2.out
                clear HS2 hq hp1 hp2
                go_wp2_with fail
                have hPI := Sort.partialInsertionSort_holds swo_ltB dk a1 b1 (by have := H13.out; omega) (by rw [HSK.out]; exact hbN) HB.out
                refine (partial_s HS.out HSK.out hbN hsz (by have := H13.out; omega)).mono ?_
                rintro e w4 ⟨rfl, hS4⟩
                obtain ⟨hPv, hr1⟩ := hPI
                obtain ⟨dl, hdl⟩ : ∃ c, c = (Sort.partialInsertionSort ltB dk a1 b1).1 := ⟨_, rfl⟩
                obtain ⟨r, hr⟩ : ∃ c, c = (Sort.partialInsertionSort ltB dk a1 b1).2 := ⟨_, rfl⟩
                rw [← hdl] at hS4 hPv hr1
                rw [← hr] at hr1 ⊢
                have HB3 := Lib.hid (HB.out.perm (by rw [HSK.out]; exact hbN) hPv)
                have HR3 := Lib.hid (HR.out.perm hPv)
                have HSK3 : Hid (dl.size = N) := by show _ = _; rw [hPv.1]; exact HSK.out
                have HS4 := Lib.hid hS4
                clear hS4 HS HB HR HSK hPv hdl hr
                have HB := Lib.hid HB3.out
                have HR := Lib.hid HR3.out
                have HSK := Lib.hid HSK3.out
                clear HB3 HR3 HSK3
                cases r
                · clear hr1
                  go_wp2_with fail
                  have HS := Lib.hid HS4.out
                  by_cases ha0 : a1 = 0
                  · have ha0I : decide ((0 : Int) < (a1 : Int)) = false := by simp; omega
                    have ha0N : decide (0 < a1) = false := by simp; omega
                    clear ha0
                    go_quiet (fail)
                    have HS5 := Lib.hid (HS.out.drewN nq)
                    clear HS
                    go_wp2_with fail
                    have HS := Lib.hid HS5.out
                    refine (part_s HS.out HSK.out hbN hsz (by have := H13.out; omega) HP.out.1 HP.out.2).mono ?_
                    rintro e w5 ⟨mid, r, d4, rfl, hPd, hS4⟩
                    have hmid1 := hPd.am
                    have hmid2 := hPd.mb
                    have HPR := Lib.hid (part_round hPd (by rw [HSK.out]; exact hbN) HB.out)
                    have HS4 := Lib.hid hS4
                    have HSK4 := Lib.hid hPd.size
                    clear hPd hS4
                    obtain ⟨le, hle⟩ : ∃ c, mid = a1 + c := ⟨mid - a1, by omega⟩
                    obtain ⟨ri, hri⟩ : ∃ c, b1 = mid + c := ⟨b1 - mid, by omega⟩
                    have hleI : (mid : Int) - (a1 : Int) = (le : Int) := by omega
                    have hriI : (b1 : Int) - (mid : Int) = (ri : Int) := by omega
                    have HLR : Hid (mid = a1 + le ∧ b1 = mid + ri ∧ b1 = a1 + m ∧ 1 ≤ ri) := by have := HM.out; exact ⟨hle, hri, by omega, by omega⟩
                    clear hle hri
                    by_cases hlr : le < ri
                    · have hlrI : (le : Int) < (ri : Int) := by omega
                      go_wp2_with fail
                      refine (IH.out le (by have := HLR.out; have := HGB.out; have := HN0.out; omega) (W := w5) (d := d4) (a := a1) (b := mid) (l := l1) (by have := HLR.out; omega) (by omega) (by omega) HS4.out HSK4.out HPR.out.1 (by have := HL.out; omega)).mono ?_
                      rintro e w6 ⟨rfl, L, hL1, hL2, hS6⟩
                      have HS6 := Lib.hid hS6
                      have HL6 := Lib.hid (HPR.out.2.2.1 L hL1 hL2)
                      have HSZ : Hid (L.size = N) := by show _ = _; rw [hL1.1]; exact HSK4.out
                      clear hL1 hL2 hS6
                      go_wp2_with fail
                      go_roundg (gk - 1)
                      case measure => have := HLR.out; have := HGB.out; have := H13.out; omega
                      case rel => exact ⟨mid + 1, b1, l1, _, r, L, by go_num, rfl, rfl, rfl, rfl, by have := HLR.out; have := HGB.out; have := HN0.out; omega, by have := HLR.out; have := HGB.out; have := HN0.out; omega, by have := HLR.out; omega, hbN, by have := HL.out; omega, HSZ.out, HS6.out, HL6.out.1, fun R hR hs => have hh := HL6.out.2 R hR hs; HR.out R hh.1 hh.2⟩
                    · have hlrI : ¬ (le : Int) < (ri : Int) := by omega
                      obtain ⟨m1, hm1⟩ : ∃ c, c = mid + 1 := ⟨_, rfl⟩
                      have hm1I : (mid : Int) + 1 = (m1 : Int) := by omega
                      have HM1 := Lib.hid hm1
                      rw [← hm1] at HPR
                      clear hm1
                      go_wp2_with fail
                      refine (IH.out (ri - 1) (by have := HLR.out; have := HGB.out; have := HN0.out; omega) (W := w5) (d := d4) (a := m1) (b := b1) (l := l1) (by have := HLR.out; have := HM1.out; omega) (by have := HM1.out; omega) hbN HS4.out HSK4.out HPR.out.2.1 (by have := HL.out; omega)).mono ?_
                      rintro e w6 ⟨rfl, L, hL1, hL2, hS6⟩
                      have HS6 := Lib.hid hS6
                      have HL6 := Lib.hid (HPR.out.2.2.2 L hL1 hL2)
                      have HSZ : Hid (L.size = N) := by show _ = _; rw [hL1.1]; exact HSK4.out
                      clear hL1 hL2 hS6
                      go_wp2_with fail
                      go_roundg (gk - 1)
                      case measure => have := HLR.out; have := HGB.out; have := H13.out; omega
                      case rel => exact ⟨a1, mid, l1, _, r, L, rfl, rfl, rfl, rfl, rfl, by have := HLR.out; have := HGB.out; have := HN0.out; omega, by have := HLR.out; have := HGB.out; have := HN0.out; omega, by omega, by omega, by have := HL.out; omega, HSZ.out, HS6.out, HL6.out.1, fun R hR hs => have hh := HL6.out.2 R hR hs; HR.out R hh.1 hh.2⟩
                  · have ha0I : (0 : Int) < (a1 : Int) := by omega
                    have ha0P : 0 < a1 := by omega
                    have ha0D : decide (0 < a1) = true := by simp; omega
                    have ha0E : decide ((0 : Int) < (a1 : Int)) = true := by simp; omega
                    obtain ⟨a0, ha0'⟩ : ∃ c, a1 = c + 1 := ⟨a1 - 1, by omega⟩
                    have ha0J : (a1 : Int) - 1 = (a0 : Int) := by omega
                    have hwa0 : IntKind.i64.wrap (a0 : Int) = (a0 : Int) := by rw [IntKind.wrap_i64]; omega
                    have h00 : (0 : Int) ≤ (a0 : Int) := by omega
                    have ha0N : (a0 : Int) < (N : Int) := by omega
                    have hpN : (p : Int) < (N : Int) := by have := HP.out; omega
                    have hp0 : (0 : Int) ≤ (p : Int) := by omega
                    have hc0 := HS.out.cell (t := a0) (by rw [HSK.out]; omega)
                    have hcp := HS.out.cell (t := p) (by rw [HSK.out]; have := HP.out; omega)
                    have HA0 : Hid (a1 - 1 = a0 ∧ 0 < a1) := by exact ⟨by omega, by omega⟩
                    cases hl2 : ltB dl[a0]! dl[p]!
                    · have HL2 := Lib.hid hl2
                      clear hl2 ha0 ha0'
                      have HL2' := Lib.hid HL2.out
                      generalize dl[a0]! = x at hc0 HL2
                      generalize dl[p]! = y at hcp HL2
                      go_quiet (first | (go_at_call 59; refine Calls.quiet_of_same (cmpLess_is _ _ _ _ HL2.out)))
                      have HS5 := Lib.hid (HS.out.drewN nq)
                      clear HS hc0 hcp
                      go_wp2_with fail
                      refine (equal_s HS5.out HSK.out hbN hsz (by have := H13.out; omega) HP.out.1 HP.out.2).mono ?_
                      rintro e w5 ⟨mid, d4, rfl, hPE, hS4⟩
                      have hmid1 := hPE.am
                      have hmid2 := hPE.mb
                      have HER := Lib.hid (equal_round hPE HA0.out.2 (by rw [HSK.out]; exact hbN) HB.out (by rw [HA0.out.1]; exact HL2'.out))
                      have HS4 := Lib.hid hS4
                      have HSK4 := Lib.hid hPE.size
                      clear hPE hS4
                      go_wp2_with fail
                      go_roundg (gk - 1)
                      case measure => have := HGB.out; have := H13.out; omega
                      case rel => exact ⟨mid, b1, l1, true, true, d4, rfl, rfl, rfl, rfl, rfl, by have := HGB.out; have := HN0.out; omega, by have := HGB.out; have := HN0.out; omega, by omega, hbN, by have := HL.out; omega, HSK4.out, HS4.out, HER.out.1, fun R hR hs => have hh := HER.out.2 R hR hs; HR.out R hh.1 hh.2⟩
                    · have HL2 := Lib.hid hl2
                      clear hl2 ha0 ha0'
                      generalize dl[a0]! = x at hc0 HL2
                      generalize dl[p]! = y at hcp HL2
                      go_quiet (first | (go_at_call 59; refine Calls.quiet_of_same (cmpLess_is _ _ _ _ HL2.out)))
                      have HS5 := Lib.hid (HS.out.drewN nq)
                      clear HS hc0 hcp
                      go_wp2_with fail
                      have HS := Lib.hid HS5.out
                      refine (part_s HS.out HSK.out hbN hsz (by have := H13.out; omega) HP.out.1 HP.out.2).mono ?_
                      rintro e w5 ⟨mid, r, d4, rfl, hPd, hS4⟩
                      have hmid1 := hPd.am
                      have hmid2 := hPd.mb
                      have HPR := Lib.hid (part_round hPd (by rw [HSK.out]; exact hbN) HB.out)
                      have HS4 := Lib.hid hS4
                      have HSK4 := Lib.hid hPd.size
                      clear hPd hS4
                      obtain ⟨le, hle⟩ : ∃ c, mid = a1 + c := ⟨mid - a1, by omega⟩
                      obtain ⟨ri, hri⟩ : ∃ c, b1 = mid + c := ⟨b1 - mid, by omega⟩
                      have hleI : (mid : Int) - (a1 : Int) = (le : Int) := by omega
                      have hriI : (b1 : Int) - (mid : Int) = (ri : Int) := by omega
                      have HLR : Hid (mid = a1 + le ∧ b1 = mid + ri ∧ b1 = a1 + m ∧ 1 ≤ ri) := by have := HM.out; exact ⟨hle, hri, by omega, by omega⟩
                      clear hle hri
                      by_cases hlr : le < ri
                      · have hlrI : (le : Int) < (ri : Int) := by omega
                        go_wp2_with fail
                        refine (IH.out le (by have := HLR.out; have := HGB.out; have := HN0.out; omega) (W := w5) (d := d4) (a := a1) (b := mid) (l := l1) (by have := HLR.out; omega) (by omega) (by omega) HS4.out HSK4.out HPR.out.1 (by have := HL.out; omega)).mono ?_
                        rintro e w6 ⟨rfl, L, hL1, hL2, hS6⟩
                        have HS6 := Lib.hid hS6
                        have HL6 := Lib.hid (HPR.out.2.2.1 L hL1 hL2)
                        have HSZ : Hid (L.size = N) := by show _ = _; rw [hL1.1]; exact HSK4.out
                        clear hL1 hL2 hS6
                        go_wp2_with fail
                        go_roundg (gk - 1)
                        case measure => have := HLR.out; have := HGB.out; have := H13.out; omega
                        case rel => exact ⟨mid + 1, b1, l1, _, r, L, by go_num, rfl, rfl, rfl, rfl, by have := HLR.out; have := HGB.out; have := HN0.out; omega, by have := HLR.out; have := HGB.out; have := HN0.out; omega, by have := HLR.out; omega, hbN, by have := HL.out; omega, HSZ.out, HS6.out, HL6.out.1, fun R hR hs => have hh := HL6.out.2 R hR hs; HR.out R hh.1 hh.2⟩
                      · have hlrI : ¬ (le : Int) < (ri : Int) := by omega
                        obtain ⟨m1, hm1⟩ : ∃ c, c = mid + 1 := ⟨_, rfl⟩
                        have hm1I : (mid : Int) + 1 = (m1 : Int) := by omega
                        have HM1 := Lib.hid hm1
                        rw [← hm1] at HPR
                        clear hm1
                        go_wp2_with fail
                        refine (IH.out (ri - 1) (by have := HLR.out; have := HGB.out; have := HN0.out; omega) (W := w5) (d := d4) (a := m1) (b := b1) (l := l1) (by have := HLR.out; have := HM1.out; omega) (by have := HM1.out; omega) hbN HS4.out HSK4.out HPR.out.2.1 (by have := HL.out; omega)).mono ?_
                        rintro e w6 ⟨rfl, L, hL1, hL2, hS6⟩
                        have HS6 := Lib.hid hS6
                        have HL6 := Lib.hid (HPR.out.2.2.2 L hL1 hL2)
                        have HSZ : Hid (L.size = N) := by show _ = _; rw [hL1.1]; exact HSK4.out
                        clear hL1 hL2 hS6
                        go_wp2_with fail
                        go_roundg (gk - 1)
                        case measure => have := HLR.out; have := HGB.out; have := H13.out; omega
                        case rel => exact ⟨a1, mid, l1, _, r, L, rfl, rfl, rfl, rfl, rfl, by have := HLR.out; have := HGB.out; have := HN0.out; omega, by have := HLR.out; have := HGB.out; have := HN0.out; omega, by omega, by omega, by have := HL.out; omega, HSZ.out, HS6.out, HL6.out.1, fun R hR hs => have hh := HL6.out.2 R hR hs; HR.out R hh.1 hh.2⟩
                · have HE := Lib.hid (HR.out dl (permIn_refl _ _ _) (hr1 rfl))
                  clear hr1
                  go_wp2
                  go_end0
                  exact ⟨rfl, dl, HE.out.1, HE.out.2, HS4.out⟩
            · as_aux_lemma =>
                obtain ⟨p, hp2I, hp3, hp4⟩ := mirror hp1 hp2
                clear hq
                go_wp2_with fail
                refine (reverse_s HS2.out HSK.out (by have := H13.out; omega) hbN hsz).mono ?_
                rintro e w3 ⟨rfl, hS3⟩
                have hPv := reverseRange_holds dk a1 b1 (by omega) (by rw [HSK.out]; exact hbN)
                obtain ⟨dk, hdl⟩ : ∃ c, c = Sort.reverseRange dk a1 b1 := ⟨_, rfl⟩
                rw [← hdl] at hS3 hPv
                have HS := Lib.hid hS3
                have HB2 := Lib.hid (HB.out.perm (by rw [HSK.out]; exact hbN) hPv)
                have HR2 := Lib.hid (HR.out.perm hPv)
                have HSK2 : Hid (dk.size = N) := by show _ = _; rw [hPv.1]; exact HSK.out
                clear HB HR HSK HS2 hS3 hdl hPv HP
                have HB := Lib.hid HB2.out
                have HR := Lib.hid HR2.out
                have HSK := Lib.hid HSK2.out
                have HP := Lib.hid (And.intro hp3 hp4)
                clear HB2 HR2 HSK2 hp3 hp4 hp1 hp2
                go_outline
                go_wp2_with fail
                have hPI := Sort.partialInsertionSort_holds swo_ltB dk a1 b1 (by have := H13.out; omega) (by rw [HSK.out]; exact hbN) HB.out
                refine (partial_s HS.out HSK.out hbN hsz (by have := H13.out; omega)).mono ?_
                rintro e w4 ⟨rfl, hS4⟩
                obtain ⟨hPv, hr1⟩ := hPI
                obtain ⟨dl, hdl⟩ : ∃ c, c = (Sort.partialInsertionSort ltB dk a1 b1).1 := ⟨_, rfl⟩
                obtain ⟨r, hr⟩ : ∃ c, c = (Sort.partialInsertionSort ltB dk a1 b1).2 := ⟨_, rfl⟩
                rw [← hdl] at hS4 hPv hr1
                rw [← hr] at hr1 ⊢
                have HB3 := Lib.hid (HB.out.perm (by rw [HSK.out]; exact hbN) hPv)
                have HR3 := Lib.hid (HR.out.perm hPv)
                have HSK3 : Hid (dl.size = N) := by show _ = _; rw [hPv.1]; exact HSK.out
                have HS4 := Lib.hid hS4
                clear hS4 HS HB HR HSK hPv hdl hr
                have HB := Lib.hid HB3.out
                have HR := Lib.hid HR3.out
                have HSK := Lib.hid HSK3.out
                clear HB3 HR3 HSK3
                cases r
                · clear hr1
                  go_wp2_with fail
                  have HS := Lib.hid HS4.out
                  by_cases ha0 : a1 = 0
                  · have ha0I : decide ((0 : Int) < (a1 : Int)) = false := by simp; omega
                    have ha0N : decide (0 < a1) = false := by simp; omega
                    clear ha0
                    go_quiet (fail)
                    have HS5 := Lib.hid (HS.out.drewN nq)
                    clear HS
                    go_wp2_with fail
                    have HS := Lib.hid HS5.out
                    refine (part_s HS.out HSK.out hbN hsz (by have := H13.out; omega) HP.out.1 HP.out.2).mono ?_
                    rintro e w5 ⟨mid, r, d4, rfl, hPd, hS4⟩
                    have hmid1 := hPd.am
                    have hmid2 := hPd.mb
                    have HPR := Lib.hid (part_round hPd (by rw [HSK.out]; exact hbN) HB.out)
                    have HS4 := Lib.hid hS4
                    have HSK4 := Lib.hid hPd.size
                    clear hPd hS4
                    obtain ⟨le, hle⟩ : ∃ c, mid = a1 + c := ⟨mid - a1, by omega⟩
                    obtain ⟨ri, hri⟩ : ∃ c, b1 = mid + c := ⟨b1 - mid, by omega⟩
                    have hleI : (mid : Int) - (a1 : Int) = (le : Int) := by omega
                    have hriI : (b1 : Int) - (mid : Int) = (ri : Int) := by omega
                    have HLR : Hid (mid = a1 + le ∧ b1 = mid + ri ∧ b1 = a1 + m ∧ 1 ≤ ri) := by have := HM.out; exact ⟨hle, hri, by omega, by omega⟩
                    clear hle hri
                    by_cases hlr : le < ri
                    · have hlrI : (le : Int) < (ri : Int) := by omega
                      go_wp2_with fail
                      refine (IH.out le (by have := HLR.out; have := HGB.out; have := HN0.out; omega) (W := w5) (d := d4) (a := a1) (b := mid) (l := l1) (by have := HLR.out; omega) (by omega) (by omega) HS4.out HSK4.out HPR.out.1 (by have := HL.out; omega)).mono ?_
                      rintro e w6 ⟨rfl, L, hL1, hL2, hS6⟩
                      have HS6 := Lib.hid hS6
                      have HL6 := Lib.hid (HPR.out.2.2.1 L hL1 hL2)
                      have HSZ : Hid (L.size = N) := by show _ = _; rw [hL1.1]; exact HSK4.out
                      clear hL1 hL2 hS6
                      go_wp2_with fail
                      go_roundg (gk - 1)
                      case measure => have := HLR.out; have := HGB.out; have := H13.out; omega
                      case rel => exact ⟨mid + 1, b1, l1, _, r, L, by go_num, rfl, rfl, rfl, rfl, by have := HLR.out; have := HGB.out; have := HN0.out; omega, by have := HLR.out; have := HGB.out; have := HN0.out; omega, by have := HLR.out; omega, hbN, by have := HL.out; omega, HSZ.out, HS6.out, HL6.out.1, fun R hR hs => have hh := HL6.out.2 R hR hs; HR.out R hh.1 hh.2⟩
                    · have hlrI : ¬ (le : Int) < (ri : Int) := by omega
                      obtain ⟨m1, hm1⟩ : ∃ c, c = mid + 1 := ⟨_, rfl⟩
                      have hm1I : (mid : Int) + 1 = (m1 : Int) := by omega
                      have HM1 := Lib.hid hm1
                      rw [← hm1] at HPR
                      clear hm1
                      go_wp2_with fail
                      refine (IH.out (ri - 1) (by have := HLR.out; have := HGB.out; have := HN0.out; omega) (W := w5) (d := d4) (a := m1) (b := b1) (l := l1) (by have := HLR.out; have := HM1.out; omega) (by have := HM1.out; omega) hbN HS4.out HSK4.out HPR.out.2.1 (by have := HL.out; omega)).mono ?_
                      rintro e w6 ⟨rfl, L, hL1, hL2, hS6⟩
                      have HS6 := Lib.hid hS6
                      have HL6 := Lib.hid (HPR.out.2.2.2 L hL1 hL2)
                      have HSZ : Hid (L.size = N) := by show _ = _; rw [hL1.1]; exact HSK4.out
                      clear hL1 hL2 hS6
                      go_wp2_with fail
                      go_roundg (gk - 1)
                      case measure => have := HLR.out; have := HGB.out; have := H13.out; omega
                      case rel => exact ⟨a1, mid, l1, _, r, L, rfl, rfl, rfl, rfl, rfl, by have := HLR.out; have := HGB.out; have := HN0.out; omega, by have := HLR.out; have := HGB.out; have := HN0.out; omega, by omega, by omega, by have := HL.out; omega, HSZ.out, HS6.out, HL6.out.1, fun R hR hs => have hh := HL6.out.2 R hR hs; HR.out R hh.1 hh.2⟩
                  · have ha0I : (0 : Int) < (a1 : Int) := by omega
                    have ha0P : 0 < a1 := by omega
                    have ha0D : decide (0 < a1) = true := by simp; omega
                    have ha0E : decide ((0 : Int) < (a1 : Int)) = true := by simp; omega
                    obtain ⟨a0, ha0'⟩ : ∃ c, a1 = c + 1 := ⟨a1 - 1, by omega⟩
                    have ha0J : (a1 : Int) - 1 = (a0 : Int) := by omega
                    have hwa0 : IntKind.i64.wrap (a0 : Int) = (a0 : Int) := by rw [IntKind.wrap_i64]; omega
                    have h00 : (0 : Int) ≤ (a0 : Int) := by omega
                    have ha0N : (a0 : Int) < (N : Int) := by omega
                    have hpN : (p : Int) < (N : Int) := by have := HP.out; omega
                    have hp0 : (0 : Int) ≤ (p : Int) := by omega
                    have hc0 := HS.out.cell (t := a0) (by rw [HSK.out]; omega)
                    have hcp := HS.out.cell (t := p) (by rw [HSK.out]; have := HP.out; omega)
                    have HA0 : Hid (a1 - 1 = a0 ∧ 0 < a1) := by exact ⟨by omega, by omega⟩
                    cases hl2 : ltB dl[a0]! dl[p]!
                    · have HL2 := Lib.hid hl2
                      clear hl2 ha0 ha0'
                      have HL2' := Lib.hid HL2.out
                      generalize dl[a0]! = x at hc0 HL2
                      generalize dl[p]! = y at hcp HL2
                      go_quiet (first | (go_at_call 59; refine Calls.quiet_of_same (cmpLess_is _ _ _ _ HL2.out)))
                      have HS5 := Lib.hid (HS.out.drewN nq)
                      clear HS hc0 hcp
                      go_wp2_with fail
                      refine (equal_s HS5.out HSK.out hbN hsz (by have := H13.out; omega) HP.out.1 HP.out.2).mono ?_
                      rintro e w5 ⟨mid, d4, rfl, hPE, hS4⟩
                      have hmid1 := hPE.am
                      have hmid2 := hPE.mb
                      have HER := Lib.hid (equal_round hPE HA0.out.2 (by rw [HSK.out]; exact hbN) HB.out (by rw [HA0.out.1]; exact HL2'.out))
                      have HS4 := Lib.hid hS4
                      have HSK4 := Lib.hid hPE.size
                      clear hPE hS4
                      go_wp2_with fail
                      go_roundg (gk - 1)
                      case measure => have := HGB.out; have := H13.out; omega
                      case rel => exact ⟨mid, b1, l1, true, true, d4, rfl, rfl, rfl, rfl, rfl, by have := HGB.out; have := HN0.out; omega, by have := HGB.out; have := HN0.out; omega, by omega, hbN, by have := HL.out; omega, HSK4.out, HS4.out, HER.out.1, fun R hR hs => have hh := HER.out.2 R hR hs; HR.out R hh.1 hh.2⟩
                    · have HL2 := Lib.hid hl2
                      clear hl2 ha0 ha0'
                      generalize dl[a0]! = x at hc0 HL2
                      generalize dl[p]! = y at hcp HL2
                      go_quiet (first | (go_at_call 59; refine Calls.quiet_of_same (cmpLess_is _ _ _ _ HL2.out)))
                      have HS5 := Lib.hid (HS.out.drewN nq)
                      clear HS hc0 hcp
                      go_wp2_with fail
                      have HS := Lib.hid HS5.out
                      refine (part_s HS.out HSK.out hbN hsz (by have := H13.out; omega) HP.out.1 HP.out.2).mono ?_
                      rintro e w5 ⟨mid, r, d4, rfl, hPd, hS4⟩
                      have hmid1 := hPd.am
                      have hmid2 := hPd.mb
                      have HPR := Lib.hid (part_round hPd (by rw [HSK.out]; exact hbN) HB.out)
                      have HS4 := Lib.hid hS4
                      have HSK4 := Lib.hid hPd.size
                      clear hPd hS4
                      obtain ⟨le, hle⟩ : ∃ c, mid = a1 + c := ⟨mid - a1, by omega⟩
                      obtain ⟨ri, hri⟩ : ∃ c, b1 = mid + c := ⟨b1 - mid, by omega⟩
                      have hleI : (mid : Int) - (a1 : Int) = (le : Int) := by omega
                      have hriI : (b1 : Int) - (mid : Int) = (ri : Int) := by omega
                      have HLR : Hid (mid = a1 + le ∧ b1 = mid + ri ∧ b1 = a1 + m ∧ 1 ≤ ri) := by have := HM.out; exact ⟨hle, hri, by omega, by omega⟩
                      clear hle hri
                      by_cases hlr : le < ri
                      · have hlrI : (le : Int) < (ri : Int) := by omega
                        go_wp2_with fail
                        refine (IH.out le (by have := HLR.out; have := HGB.out; have := HN0.out; omega) (W := w5) (d := d4) (a := a1) (b := mid) (l := l1) (by have := HLR.out; omega) (by omega) (by omega) HS4.out HSK4.out HPR.out.1 (by have := HL.out; omega)).mono ?_
                        rintro e w6 ⟨rfl, L, hL1, hL2, hS6⟩
                        have HS6 := Lib.hid hS6
                        have HL6 := Lib.hid (HPR.out.2.2.1 L hL1 hL2)
                        have HSZ : Hid (L.size = N) := by show _ = _; rw [hL1.1]; exact HSK4.out
                        clear hL1 hL2 hS6
                        go_wp2_with fail
                        go_roundg (gk - 1)
                        case measure => have := HLR.out; have := HGB.out; have := H13.out; omega
                        case rel => exact ⟨mid + 1, b1, l1, _, r, L, by go_num, rfl, rfl, rfl, rfl, by have := HLR.out; have := HGB.out; have := HN0.out; omega, by have := HLR.out; have := HGB.out; have := HN0.out; omega, by have := HLR.out; omega, hbN, by have := HL.out; omega, HSZ.out, HS6.out, HL6.out.1, fun R hR hs => have hh := HL6.out.2 R hR hs; HR.out R hh.1 hh.2⟩
                      · have hlrI : ¬ (le : Int) < (ri : Int) := by omega
                        obtain ⟨m1, hm1⟩ : ∃ c, c = mid + 1 := ⟨_, rfl⟩
                        have hm1I : (mid : Int) + 1 = (m1 : Int) := by omega
                        have HM1 := Lib.hid hm1
                        rw [← hm1] at HPR
                        clear hm1
                        go_wp2_with fail
                        refine (IH.out (ri - 1) (by have := HLR.out; have := HGB.out; have := HN0.out; omega) (W := w5) (d := d4) (a := m1) (b := b1) (l := l1) (by have := HLR.out; have := HM1.out; omega) (by have := HM1.out; omega) hbN HS4.out HSK4.out HPR.out.2.1 (by have := HL.out; omega)).mono ?_
                        rintro e w6 ⟨rfl, L, hL1, hL2, hS6⟩
                        have HS6 := Lib.hid hS6
                        have HL6 := Lib.hid (HPR.out.2.2.2 L hL1 hL2)
                        have HSZ : Hid (L.size = N) := by show _ = _; rw [hL1.1]; exact HSK4.out
                        clear hL1 hL2 hS6
                        go_wp2_with fail
                        go_roundg (gk - 1)
                        case measure => have := HLR.out; have := HGB.out; have := H13.out; omega
                        case rel => exact ⟨a1, mid, l1, _, r, L, rfl, rfl, rfl, rfl, rfl, by have := HLR.out; have := HGB.out; have := HN0.out; omega, by have := HLR.out; have := HGB.out; have := HN0.out; omega, by omega, by omega, by have := HL.out; omega, HSZ.out, HS6.out, HL6.out.1, fun R hR hs => have hh := HL6.out.2 R hR hs; HR.out R hh.1 hh.2⟩
                · have HE := Lib.hid (HR.out dl (permIn_refl _ _ _) (hr1 rfl))
                  clear hr1
                  go_wp2
                  go_end0
                  exact ⟨rfl, dl, HE.out.1, HE.out.2, HS4.out⟩
end Go.Proofs.Ythhmgbeigeagdaa
