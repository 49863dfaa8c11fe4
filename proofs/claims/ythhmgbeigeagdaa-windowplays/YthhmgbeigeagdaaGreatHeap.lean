/-
  CONTRACTS of siftDownOrdered, heapSortOrdered at uint64 (fewer than 30000).
  No statement is proved here.
-/
import Derived.Test.YthhmgbeigeagdaaGreatPart
namespace Go.Proofs.Ythhmgbeigeagdaa
open Go.RowKit Go.Sort

section
variable {hi F r : Nat} {d : Array Nat}
theorem sift_stop (h : hi ≤ 2 * r + 1) : Sort.siftDown ltB hi F r d = d := by rw [Sort.siftDown, dif_pos h]
theorem sift_two (h : 2 * r + 2 < hi) (h1 : ltB d[F + (2 * r + 1)]! d[F + (2 * r + 1) + 1]! = true) (h2 : ltB d[F + r]! d[F + (2 * r + 2)]! = true) :
    Sort.siftDown ltB hi F r d = Sort.siftDown ltB hi F (2 * r + 2) (swp d (F + r) (F + (2 * r + 2))) := by
  rw [Sort.siftDown, dif_neg (by omega), if_pos (by simp only [h1, Bool.and_true, decide_eq_true_eq]; omega), if_neg (by simp [h2]), dif_pos h]
theorem sift_two_stop (h : 2 * r + 2 < hi) (h1 : ltB d[F + (2 * r + 1)]! d[F + (2 * r + 1) + 1]! = true) (h2 : ltB d[F + r]! d[F + (2 * r + 2)]! = false) :
    Sort.siftDown ltB hi F r d = d := by
  rw [Sort.siftDown, dif_neg (by omega), if_pos (by simp only [h1, Bool.and_true, decide_eq_true_eq]; omega), if_pos (by simp [h2])]
theorem sift_one (h : 2 * r + 1 < hi) (h1 : 2 * r + 2 < hi → ltB d[F + (2 * r + 1)]! d[F + (2 * r + 1) + 1]! = false) (h2 : ltB d[F + r]! d[F + (2 * r + 1)]! = true) :
    Sort.siftDown ltB hi F r d = Sort.siftDown ltB hi F (2 * r + 1) (swp d (F + r) (F + (2 * r + 1))) := by
  rw [Sort.siftDown, dif_neg (by omega), if_neg (by
    by_cases h3 : 2 * r + 2 < hi
    · simp [h1 h3]
    · simp only [Bool.and_eq_true, decide_eq_true_eq]; rintro ⟨h4, _⟩; omega), if_neg (by simp [h2])]
theorem sift_one_stop (h : 2 * r + 1 < hi) (h1 : 2 * r + 2 < hi → ltB d[F + (2 * r + 1)]! d[F + (2 * r + 1) + 1]! = false) (h2 : ltB d[F + r]! d[F + (2 * r + 1)]! = false) :
    Sort.siftDown ltB hi F r d = d := by
  rw [Sort.siftDown, dif_neg (by omega), if_neg (by
    by_cases h3 : 2 * r + 2 < hi
    · simp [h1 h3]
    · simp only [Bool.and_eq_true, decide_eq_true_eq]; rintro ⟨h4, _⟩; omega), if_pos (by simp [h2])]
end
theorem sift_all {hi F r c1 c2 fr f1 f2 : Nat} {d tot : Array Nat} (hc1 : c1 = 2 * r + 1) (hc2 : c2 = c1 + 1) (hfr : fr = F + r) (hf1 : f1 = F + c1) (hf2 : f2 = f1 + 1) (ht : Sort.siftDown ltB hi F r d = tot) :
    (c2 < hi → ltB d[f1]! d[f2]! = true → ltB d[fr]! d[f2]! = true → Sort.siftDown ltB hi F c2 (swp d fr f2) = tot) ∧
    (c2 < hi → ltB d[f1]! d[f2]! = true → ltB d[fr]! d[f2]! = false → d = tot) ∧
    (c1 < hi → (c2 < hi → ltB d[f1]! d[f2]! = false) → ltB d[fr]! d[f1]! = true → Sort.siftDown ltB hi F c1 (swp d fr f1) = tot) ∧
    (c1 < hi → (c2 < hi → ltB d[f1]! d[f2]! = false) → ltB d[fr]! d[f1]! = false → d = tot) := by
  subst hc1 hc2 hfr hf1 hf2 ht
  exact ⟨fun h h1 h2 => (sift_two h h1 h2).symm, fun h h1 h2 => (sift_two_stop h h1 h2).symm, fun h h1 h2 => (sift_one h h1 h2).symm, fun h h1 h2 => (sift_one_stop h h1 h2).symm⟩
def SiftRel (w0 : World) (blk off N hi F : Nat) (tot : Array Nat) (gk : Nat) (v : Value) (wr : World) : Prop :=
  ∃ (r : Nat) (dk : Array Nat), v = .int .i64 (r : Int) ∧ hi - r ≤ gk ∧ dk.size = N ∧ Srt w0 blk off dk wr ∧ Sort.siftDown ltB hi F r dk = tot
set_option maxRecDepth 100000 in
set_option maxHeartbeats 4000000 in
theorem sift_s {w0 W : World} {blk off cap lo hi F N : Nat} {d : Array Nat} (h : Srt w0 blk off d W) (hN : d.size = N) (hb : F + hi ≤ N) (hsz : N < 30000) (hlo : lo < 30000) :
    Calls Try.prog 64 #[.slice (some ⟨blk, off, none⟩) N cap, .int .i64 lo, .int .i64 hi, .int .i64 F] W (Sorts w0 blk off (Sort.siftDown ltB hi F lo d)) := by
  obtain ⟨tot, HT⟩ : ∃ tot, Hid (Sort.siftDown ltB hi F lo d = tot) := ⟨_, rfl⟩
  rw [HT.out]
  have H := Lib.hid h
  have HN := Lib.hid hN
  clear h hN
  go_enter Try.func64, Try.ntmps64
  go_wp2
  go_loopg [8] (hi - lo) (fun gk v wr => (∃ r : Nat, r < 30000 ∧ v = .int .i64 (r : Int)) ∧ SiftRel w0 blk off N hi F tot gk v wr)
  case atStart => exact ⟨⟨lo, hlo, rfl⟩, lo, d, rfl, Nat.le_refl _, HN.out, H.out, HT.out⟩
  case round =>
    clear H HN HT
    obtain ⟨⟨r0, hr50, hr0⟩, r, dk, rfl, hg, hs, hS, htot⟩ := hrel
    have hrr : r0 = r := by injection hr0 with _ h1; omega
    subst hrr
    clear hr0
    have HG := Lib.hid hg
    have HSK := Lib.hid hs
    have HS := Lib.hid hS
    have HTT := Lib.hid htot
    clear hg hs hS htot
    obtain ⟨c1, hc1⟩ : ∃ c, c = 2 * r0 + 1 := ⟨_, rfl⟩
    have hc1I : 2 * (r0 : Int) + 1 = (c1 : Int) := by omega
    by_cases hst : hi ≤ c1
    · have hstI : (hi : Int) ≤ (c1 : Int) := by omega
      have HT2 : Hid (dk = tot) := by show _ = _; rw [← HTT.out]; exact (sift_stop (by omega)).symm
      clear hc1
      go_wp2
      go_end0
      exact ⟨rfl, HT2.out ▸ HS.out⟩
    · have hstI : ¬ (hi : Int) ≤ (c1 : Int) := by omega
      obtain ⟨fr, hfr⟩ : ∃ f, f = F + r0 := ⟨_, rfl⟩
      obtain ⟨f1, hf1⟩ : ∃ f, f = F + c1 := ⟨_, rfl⟩
      obtain ⟨c2, hc2⟩ : ∃ c, c = c1 + 1 := ⟨_, rfl⟩
      obtain ⟨f2, hf2⟩ : ∃ f, f = f1 + 1 := ⟨_, rfl⟩
      have hfrI : (F : Int) + (r0 : Int) = (fr : Int) := by omega
      have hf1I : (F : Int) + (c1 : Int) = (f1 : Int) := by omega
      have hc2I : (c1 : Int) + 1 = (c2 : Int) := by omega
      have hf2I : (f1 : Int) + 1 = (f2 : Int) := by omega
      have hf2J : (F : Int) + (c2 : Int) = (f2 : Int) := by omega
      have hr0I : (0 : Int) ≤ (fr : Int) := by omega
      have hrNI : (fr : Int) < (N : Int) := by omega
      have h10I : (0 : Int) ≤ (f1 : Int) := by omega
      have h1NI : (f1 : Int) < (N : Int) := by omega
      have h20I : (0 : Int) ≤ (f2 : Int) := by omega
      have HA := Lib.hid (sift_all hc1 hc2 hfr hf1 hf2 HTT.out)
      have HN1 : Hid (fr < N ∧ f1 < N ∧ (c2 < hi → f2 < N) ∧ r0 < c1 ∧ r0 < c2) := by exact ⟨by omega, by omega, by omega, by omega, by omega⟩
      have hc50 : c1 < 30000 := by omega
      have hc50' : c2 < 30000 + 1 := by omega
      have hf50 : f1 < 30000 := by omega
      have hfr50 : fr < 30000 := by omega
      have hwfr : IntKind.i64.wrap (fr : Int) = (fr : Int) := by rw [IntKind.wrap_i64]; omega
      have hwf1 : IntKind.i64.wrap (f1 : Int) = (f1 : Int) := by rw [IntKind.wrap_i64]; omega
      have hwf2 : IntKind.i64.wrap (f2 : Int) = (f2 : Int) := by rw [IntKind.wrap_i64]; omega
      clear hc1 hc2 hfr hf1 hf2
      have hcr := HS.out.cell (t := fr) (by rw [HSK.out]; have := HN1.out; omega)
      have hca := HS.out.cell (t := f1) (by rw [HSK.out]; have := HN1.out; omega)
      by_cases h2 : c2 < hi
      · have h2I : (c2 : Int) < (hi : Int) := by omega
        have h2NI : (f2 : Int) < (N : Int) := by have := HN1.out; omega
        have hcb := HS.out.cell (t := f2) (by rw [HSK.out]; have := HN1.out; omega)
        cases hl2 : ltB dk[f1]! dk[f2]!
        · have HL2 := Lib.hid hl2
          have HE := Lib.hid (HA.out.2.2.1 (by omega) (fun _ => hl2))
          have HEs := Lib.hid (HA.out.2.2.2 (by omega) (fun _ => hl2))
          clear hl2 HA
          generalize dk[f2]! = z at hcb HL2
          obtain ⟨y, hy⟩ : ∃ y, y = dk[f1]! := ⟨_, rfl⟩
          rw [← hy] at hca HL2
          have HY0 := Lib.hid hy
          clear hy
          go_wp2_with fail
          go_quiet (first | (go_at_call 59; refine Calls.quiet_of_same (cmpLess_is _ _ _ _ HL2.out)))
          go_wp2_with fail
          clear hcb hca HL2
          have HS3 := Lib.hid (HS.out.drewN nq)
          clear hcr HS
          generalize wr.drewN nq = w3 at *
          clear nq
          have HS := Lib.hid HS3.out
          clear HS3
          have hcr := HS.out.cell (t := fr) (by rw [HSK.out]; have := HN1.out; omega)
          have hcc := HS.out.cell (t := f1) (by rw [HSK.out]; have := HN1.out; omega)
          cases hl3 : ltB dk[fr]! dk[f1]!
          · have HT2 : Hid (dk = tot) := HEs.out hl3
            have HL3 := Lib.hid hl3
            clear hl3
            generalize dk[fr]! = x at hcr HL3
            generalize dk[f1]! = y at hcc HL3
            go_quiet (first | (go_at_call 59; refine Calls.quiet_of_same (cmpLess_is _ _ _ _ HL3.out)))
            go_wp2
            go_end0
            exact ⟨rfl, HT2.out ▸ (HS.out.drewN _)⟩
          · have HT2 : Hid (Sort.siftDown ltB hi F c1 (swp dk fr f1) = tot) := HE.out hl3
            have HL3 := Lib.hid hl3
            clear hl3
            obtain ⟨x, hx⟩ : ∃ x, x = dk[fr]! := ⟨_, rfl⟩
            obtain ⟨y, hy⟩ : ∃ y, y = dk[f1]! := ⟨_, rfl⟩
            rw [← hx] at hcr HL3
            rw [← hy] at hcc HL3
            have HX := Lib.hid hx
            have HY := Lib.hid hy
            clear hx hy
            go_quiet (first | (go_at_call 59; refine Calls.quiet_of_same (cmpLess_is _ _ _ _ HL3.out)))
            go_wp2_with fail
            have HS4 := Lib.hid (HS.out.drewN nq)
            clear hcr hcc HL3 HS HX HY
            generalize w3.drewN nq = w4 at *
            clear nq
            have hci := HS4.out.cell (t := fr) (by rw [HSK.out]; have := HN1.out; omega)
            have hcj := HS4.out.cell (t := f1) (by rw [HSK.out]; have := HN1.out; omega)
            have hfi := HS4.out.frz (t := fr) (by rw [HSK.out]; have := HN1.out; omega)
            have hfj := HS4.out.frz (t := f1) (by rw [HSK.out]; have := HN1.out; omega)
            obtain ⟨u0, hu0⟩ := second_cell hci hcj (.int .u64 (((dk)[f1]! : Nat) : Int))
            have HSW : Hid (Srt w0 blk off (swp dk fr f1) ((w4.setCell ⟨blk, off + fr, none⟩ (.int .u64 ((dk[f1]! : Nat) : Int))).setCell ⟨blk, off + f1, none⟩ (.int .u64 ((dk[fr]! : Nat) : Int))).drew) := (HS4.out.swap (i := fr) (j := f1) (by rw [HSK.out]; have := HN1.out; omega) (by rw [HSK.out]; have := HN1.out; omega)).drewN 1
            generalize hxx : (dk)[fr]! = x at hci hcj HSW hu0
            generalize hyy : (dk)[f1]! = y at hci hcj HSW hu0
            clear hxx hyy
            have hsi0 : (0 : Int) ≤ (fr : Int) := by have := HN1.out; omega
            have hsj0 : (0 : Int) ≤ (f1 : Int) := by have := HN1.out; omega
            have hsiN : (fr : Int) < (N : Int) := by have := HN1.out; omega
            have hsjN : (f1 : Int) < (N : Int) := by have := HN1.out; omega
            go_region
            clear hu0 hci hcj hfi hfj HS4
            go_wp2
            go_roundg (gk - 1)
            case measure => have := HG.out; have := HN1.out; omega
            case rel => exact ⟨⟨c1, by have := HN1.out; omega, rfl⟩, c1, swp dk fr f1, rfl, by have := HG.out; have := HN1.out; omega, by rw [size_swp]; exact HSK.out, HSW.out, HT2.out⟩
        · have HL2 := Lib.hid hl2
          have HE := Lib.hid (HA.out.1 h2 hl2)
          have HEs := Lib.hid (HA.out.2.1 h2 hl2)
          clear hl2 HA
          generalize dk[f2]! = z at hcb HL2
          generalize dk[f1]! = y at hca HL2
          go_wp2_with fail
          go_quiet (first | (go_at_call 59; refine Calls.quiet_of_same (cmpLess_is _ _ _ _ HL2.out)))
          go_wp2_with fail
          clear hcb hca HL2
          have HS3 := Lib.hid (HS.out.drewN nq)
          clear hcr HS
          generalize wr.drewN nq = w3 at *
          clear nq
          have HS := Lib.hid HS3.out
          clear HS3
          have hcr := HS.out.cell (t := fr) (by rw [HSK.out]; have := HN1.out; omega)
          have hcc := HS.out.cell (t := f2) (by rw [HSK.out]; have := HN1.out; omega)
          cases hl3 : ltB dk[fr]! dk[f2]!
          · have HT2 : Hid (dk = tot) := HEs.out hl3
            have HL3 := Lib.hid hl3
            clear hl3
            generalize dk[fr]! = x at hcr HL3
            generalize dk[f2]! = y at hcc HL3
            go_quiet (first | (go_at_call 59; refine Calls.quiet_of_same (cmpLess_is _ _ _ _ HL3.out)))
            go_wp2
            go_end0
            exact ⟨rfl, HT2.out ▸ (HS.out.drewN _)⟩
          · have HT2 : Hid (Sort.siftDown ltB hi F c2 (swp dk fr f2) = tot) := HE.out hl3
            have HL3 := Lib.hid hl3
            clear hl3
            obtain ⟨x, hx⟩ : ∃ x, x = dk[fr]! := ⟨_, rfl⟩
            obtain ⟨y, hy⟩ : ∃ y, y = dk[f2]! := ⟨_, rfl⟩
            rw [← hx] at hcr HL3
            rw [← hy] at hcc HL3
            have HX := Lib.hid hx
            have HY := Lib.hid hy
            clear hx hy
            go_quiet (first | (go_at_call 59; refine Calls.quiet_of_same (cmpLess_is _ _ _ _ HL3.out)))
            go_wp2_with fail
            have HS4 := Lib.hid (HS.out.drewN nq)
            clear hcr hcc HL3 HS HX HY
            generalize w3.drewN nq = w4 at *
            clear nq
            have hci := HS4.out.cell (t := fr) (by rw [HSK.out]; have := HN1.out; omega)
            have hcj := HS4.out.cell (t := f2) (by rw [HSK.out]; have := HN1.out; omega)
            have hfi := HS4.out.frz (t := fr) (by rw [HSK.out]; have := HN1.out; omega)
            have hfj := HS4.out.frz (t := f2) (by rw [HSK.out]; have := HN1.out; omega)
            obtain ⟨u0, hu0⟩ := second_cell hci hcj (.int .u64 (((dk)[f2]! : Nat) : Int))
            have HSW : Hid (Srt w0 blk off (swp dk fr f2) ((w4.setCell ⟨blk, off + fr, none⟩ (.int .u64 ((dk[f2]! : Nat) : Int))).setCell ⟨blk, off + f2, none⟩ (.int .u64 ((dk[fr]! : Nat) : Int))).drew) := (HS4.out.swap (i := fr) (j := f2) (by rw [HSK.out]; have := HN1.out; omega) (by rw [HSK.out]; have := HN1.out; omega)).drewN 1
            generalize hxx : (dk)[fr]! = x at hci hcj HSW hu0
            generalize hyy : (dk)[f2]! = y at hci hcj HSW hu0
            clear hxx hyy
            have hsi0 : (0 : Int) ≤ (fr : Int) := by have := HN1.out; omega
            have hsj0 : (0 : Int) ≤ (f2 : Int) := by have := HN1.out; omega
            have hsiN : (fr : Int) < (N : Int) := by have := HN1.out; omega
            have hsjN : (f2 : Int) < (N : Int) := by have := HN1.out; omega
            go_region
            clear hu0 hci hcj hfi hfj HS4
            go_wp2
            go_roundg (gk - 1)
            case measure => have := HG.out; have := HN1.out; omega
            case rel => exact ⟨⟨c2, by have := HN1.out; omega, rfl⟩, c2, swp dk fr f2, rfl, by have := HG.out; have := HN1.out; omega, by rw [size_swp]; exact HSK.out, HSW.out, HT2.out⟩
      · have h2I : decide ((c2 : Int) < (hi : Int)) = false := by simp; omega
        have HE := Lib.hid (HA.out.2.2.1 (by omega) (fun h => absurd h h2))
        have HEs := Lib.hid (HA.out.2.2.2 (by omega) (fun h => absurd h h2))
        have h2N : decide (c2 < hi) = false := by simp; omega
        clear HA
        go_wp2_with fail
        go_quiet (fail)
        go_wp2_with fail
        clear hca
        have HS3 := Lib.hid (HS.out.drewN nq)
        clear hcr HS
        generalize wr.drewN nq = w3 at *
        clear nq
        have HS := Lib.hid HS3.out
        clear HS3
        have hcr := HS.out.cell (t := fr) (by rw [HSK.out]; have := HN1.out; omega)
        have hcc := HS.out.cell (t := f1) (by rw [HSK.out]; have := HN1.out; omega)
        cases hl3 : ltB dk[fr]! dk[f1]!
        · have HT2 : Hid (dk = tot) := HEs.out hl3
          have HL3 := Lib.hid hl3
          clear hl3
          generalize dk[fr]! = x at hcr HL3
          generalize dk[f1]! = y at hcc HL3
          go_quiet (first | (go_at_call 59; refine Calls.quiet_of_same (cmpLess_is _ _ _ _ HL3.out)))
          go_wp2
          go_end0
          exact ⟨rfl, HT2.out ▸ (HS.out.drewN _)⟩
        · have HT2 : Hid (Sort.siftDown ltB hi F c1 (swp dk fr f1) = tot) := HE.out hl3
          have HL3 := Lib.hid hl3
          clear hl3
          obtain ⟨x, hx⟩ : ∃ x, x = dk[fr]! := ⟨_, rfl⟩
          obtain ⟨y, hy⟩ : ∃ y, y = dk[f1]! := ⟨_, rfl⟩
          rw [← hx] at hcr HL3
          rw [← hy] at hcc HL3
          have HX := Lib.hid hx
          have HY := Lib.hid hy
          clear hx hy
          go_quiet (first | (go_at_call 59; refine Calls.quiet_of_same (cmpLess_is _ _ _ _ HL3.out)))
          go_wp2_with fail
          have HS4 := Lib.hid (HS.out.drewN nq)
          clear hcr hcc HL3 HS HX HY
          generalize w3.drewN nq = w4 at *
          clear nq
          have hci := HS4.out.cell (t := fr) (by rw [HSK.out]; have := HN1.out; omega)
          have hcj := HS4.out.cell (t := f1) (by rw [HSK.out]; have := HN1.out; omega)
          have hfi := HS4.out.frz (t := fr) (by rw [HSK.out]; have := HN1.out; omega)
          have hfj := HS4.out.frz (t := f1) (by rw [HSK.out]; have := HN1.out; omega)
          obtain ⟨u0, hu0⟩ := second_cell hci hcj (.int .u64 (((dk)[f1]! : Nat) : Int))
          have HSW : Hid (Srt w0 blk off (swp dk fr f1) ((w4.setCell ⟨blk, off + fr, none⟩ (.int .u64 ((dk[f1]! : Nat) : Int))).setCell ⟨blk, off + f1, none⟩ (.int .u64 ((dk[fr]! : Nat) : Int))).drew) := (HS4.out.swap (i := fr) (j := f1) (by rw [HSK.out]; have := HN1.out; omega) (by rw [HSK.out]; have := HN1.out; omega)).drewN 1
          generalize hxx : (dk)[fr]! = x at hci hcj HSW hu0
          generalize hyy : (dk)[f1]! = y at hci hcj HSW hu0
          clear hxx hyy
          have hsi0 : (0 : Int) ≤ (fr : Int) := by have := HN1.out; omega
          have hsj0 : (0 : Int) ≤ (f1 : Int) := by have := HN1.out; omega
          have hsiN : (fr : Int) < (N : Int) := by have := HN1.out; omega
          have hsjN : (f1 : Int) < (N : Int) := by have := HN1.out; omega
          go_region
          clear hu0 hci hcj hfi hfj HS4
          go_wp2
          go_roundg (gk - 1)
          case measure => have := HG.out; have := HN1.out; omega
          case rel => exact ⟨⟨c1, by have := HN1.out; omega, rfl⟩, c1, swp dk fr f1, rfl, by have := HG.out; have := HN1.out; omega, by rw [size_swp]; exact HSK.out, HSW.out, HT2.out⟩
theorem size_sift (hi F : Nat) : ∀ (n root : Nat) (d : Array Nat), hi - root ≤ n → (Sort.siftDown ltB hi F root d).size = d.size := by
  intro n
  induction n with
  | zero => intro root d h; rw [sift_stop (by omega)]
  | succ n ih =>
    intro root d h
    rw [Sort.siftDown]
    split
    · rfl
    · split
      · split
        · rfl
        · split
          · rw [ih _ _ (by omega), size_swp]
          · rfl
      · split
        · rfl
        · rw [ih _ _ (by omega), size_swp]
def BuildRel (w0 : World) (blk off N a m : Nat) (tot : Array Nat) (gk : Nat) (v : Value) (wr : World) : Prop :=
  ∃ dk : Array Nat, v = .int .i64 ((gk : Int) - 1) ∧ gk ≤ 30000 ∧ dk.size = N ∧ Srt w0 blk off dk wr ∧ Sort.heapBuild ltB m a gk dk = tot
def PopRel (w0 : World) (blk off N a m : Nat) (tot : Array Nat) (gk : Nat) (v : Value) (wr : World) : Prop :=
  ∃ dk : Array Nat, v = .int .i64 ((gk : Int) - 1) ∧ gk ≤ m ∧ dk.size = N ∧ Srt w0 blk off dk wr ∧ Sort.heapPop ltB a gk dk = tot
set_option maxRecDepth 100000 in
set_option maxHeartbeats 4000000 in
theorem heap_s {w0 W : World} {blk off cap a b N : Nat} {d : Array Nat} (h : Srt w0 blk off d W) (hN : d.size = N) (hab : a < b) (hb : b ≤ N) (hsz : N < 30000) :
    Calls Try.prog 54 #[.slice (some ⟨blk, off, none⟩) N cap, .int .i64 a, .int .i64 b] W (Sorts w0 blk off (Sort.heapSort ltB d a b)) := by
  obtain ⟨m, hm⟩ : ∃ m, b = a + m := ⟨b - a, by omega⟩
  obtain ⟨k0, hk0⟩ : ∃ k, k = (m - 1) / 2 + 1 := ⟨_, rfl⟩
  obtain ⟨t1, HT1⟩ : ∃ t, Hid (Sort.heapBuild ltB m a k0 d = t) := ⟨_, rfl⟩
  obtain ⟨tot, HT⟩ : ∃ tot, Hid (Sort.heapPop ltB a m t1 = tot) := ⟨_, rfl⟩
  have hE : Sort.heapSort ltB d a b = tot := by
    unfold Sort.heapSort
    rw [show b - a = m from by omega, ← hk0, HT1.out, HT.out]
  rw [hE]
  have H := Lib.hid h
  have HN := Lib.hid hN
  have hmI : (b : Int) - (a : Int) = (m : Int) := by omega
  have hkI : ((m : Int) - 1) / 2 = (k0 : Int) - 1 := by omega
  have hm1 : (1 : Int) ≤ (m : Int) := by omega
  have HAM : Hid (a + m ≤ N ∧ k0 ≤ 30000 ∧ 1 ≤ k0) := by exact ⟨by omega, by omega, by omega⟩
  clear h hN hE hm hk0
  go_enter Try.func54, Try.ntmps54
  go_wp2_with fail
  rw [hkI]
  clear hkI
  go_loopg [9] k0 (fun gk v wr => BuildRel w0 blk off N a m t1 gk v wr)
  case atStart => exact ⟨d, rfl, HAM.out.2.1, HN.out, H.out, HT1.out⟩
  case round =>
    clear H HN HT1
    obtain ⟨dk, rfl, hg, hs, hS, htot⟩ := hrel
    have HSK := Lib.hid hs
    have HS := Lib.hid hS
    have HTT := Lib.hid htot
    clear hs hS htot
    cases gk with
    | zero =>
      have HE : Hid (dk = t1) := HTT.out
      rw [show ((0 : Nat) : Int) - 1 = -1 from rfl]
      go_wp2_with fail
      go_loopg [10] m (fun gk v wr => PopRel w0 blk off N a m tot gk v wr)
      case atStart => exact ⟨dk, rfl, Nat.le_refl _, HSK.out, HS.out, HE.out ▸ HT.out⟩
      case round =>
        clear HS HSK HT HTT HE
        obtain ⟨dk, rfl, hg, hs, hS, htot⟩ := hrel
        have HSK := Lib.hid hs
        have HS := Lib.hid hS
        have HTT := Lib.hid htot
        clear hs hS htot
        cases gk with
        | zero =>
          have HE : Hid (dk = tot) := HTT.out
          rw [show ((0 : Nat) : Int) - 1 = -1 from rfl]
          go_wp2
          go_end0
          exact ⟨rfl, HE.out ▸ HS.out⟩
        | succ k =>
          rw [show ((k + 1 : Nat) : Int) - 1 = (k : Int) from by omega]
          obtain ⟨fk, hfk⟩ : ∃ f, f = a + k := ⟨_, rfl⟩
          have hfkI : (a : Int) + (k : Int) = (fk : Int) := by omega
          have HFK : Hid (fk = a + k ∧ fk < N ∧ a < N ∧ k < 30000) := by have := HAM.out; exact ⟨hfk, by omega, by omega, by omega⟩
          have hwfk : IntKind.i64.wrap (fk : Int) = (fk : Int) := by rw [IntKind.wrap_i64]; have := HFK.out; omega
          have hk0I : (0 : Int) ≤ (k : Int) := by omega
          have hk50 : k < 30000 := HFK.out.2.2.2
          have HTS : Hid (Sort.heapPop ltB a k (Sort.siftDown ltB k a 0 (swp dk a fk)) = tot) := by show _ = _; rw [hfk]; exact HTT.out
          clear hfk
          have hci := HS.out.cell (t := a) (by rw [HSK.out]; have := HFK.out; omega)
          have hcj := HS.out.cell (t := fk) (by rw [HSK.out]; have := HFK.out; omega)
          have hfi := HS.out.frz (t := a) (by rw [HSK.out]; have := HFK.out; omega)
          have hfj := HS.out.frz (t := fk) (by rw [HSK.out]; have := HFK.out; omega)
          obtain ⟨u0, hu0⟩ := second_cell hci hcj (.int .u64 (((dk)[fk]! : Nat) : Int))
          have HSW : Hid (Srt w0 blk off (swp dk a fk) ((wr.setCell ⟨blk, off + a, none⟩ (.int .u64 ((dk[fk]! : Nat) : Int))).setCell ⟨blk, off + fk, none⟩ (.int .u64 ((dk[a]! : Nat) : Int))).drew) := (HS.out.swap (i := a) (j := fk) (by rw [HSK.out]; have := HFK.out; omega) (by rw [HSK.out]; have := HFK.out; omega)).drewN 1
          generalize hxx : (dk)[a]! = x at hci hcj HSW hu0
          generalize hyy : (dk)[fk]! = y at hci hcj HSW hu0
          clear hxx hyy
          have hsi0 : (0 : Int) ≤ (a : Int) := by have := HFK.out; omega
          have hsj0 : (0 : Int) ≤ (fk : Int) := by have := HFK.out; omega
          have hsiN : (a : Int) < (N : Int) := by have := HFK.out; omega
          have hsjN : (fk : Int) < (N : Int) := by have := HFK.out; omega
          go_wp2_with fail
          go_region
          clear hu0 hci hcj hfi hfj HS
          generalize ((wr.setCell ⟨blk, off + a, none⟩ (.int .u64 (y : Int))).setCell ⟨blk, off + fk, none⟩ (.int .u64 (x : Int))).drew = w2 at *
          go_wp2_with fail
          refine (sift_s (lo := 0) HSW.out (by rw [size_swp]; exact HSK.out) (by have := HAM.out; omega) hsz (by omega)).mono ?_
          rintro e w1 ⟨rfl, hS1⟩
          have HS1 := Lib.hid hS1
          clear hS1 HSW
          go_wp2
          go_roundg k
          case measure => omega
          case rel => exact ⟨_, rfl, by omega, by rw [size_sift _ _ _ _ _ (Nat.le_refl _), size_swp]; exact HSK.out, HS1.out, HTS.out⟩
    | succ k =>
      rw [show ((k + 1 : Nat) : Int) - 1 = (k : Int) from by omega]
      have hk0I : (0 : Int) ≤ (k : Int) := by omega
      go_wp2_with fail
      refine (sift_s (lo := k) HS.out HSK.out (by have := HAM.out; omega) hsz (by omega)).mono ?_
      rintro e w1 ⟨rfl, hS1⟩
      have HS1 := Lib.hid hS1
      clear hS1 HS
      go_wp2
      go_roundg k
      case measure => omega
      case rel => exact ⟨_, rfl, by omega, by rw [size_sift _ _ _ _ _ (Nat.le_refl _)]; exact HSK.out, HS1.out, HTT.out⟩
end Go.Proofs.Ythhmgbeigeagdaa
