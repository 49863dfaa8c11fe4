/-
  CONTRACT of partialInsertionSortOrdered at uint64 (fewer than 30000).
  No statement is proved here.
-/
import Derived.Test.YthhmgbeigeagdaaGreatPart
namespace Go.Proofs.Ythhmgbeigeagdaa
open Go.RowKit Go.Sort

/-! ### partialInsertionSort -/
theorem scan_go {d : Array Nat} {b i : Nat} (h1 : i < b) (h2 : ltB d[i]! d[i - 1]! = false) : scanSorted ltB d b i = scanSorted ltB d b (i + 1) := by
  rw [scanSorted, if_pos (by simp [h1, h2])]
theorem scan_stop {d : Array Nat} {b i : Nat} (h : ¬ i < b ∨ ltB d[i]! d[i - 1]! = true) : scanSorted ltB d b i = i := by
  rw [scanSorted, if_neg]
  rcases h with h | h <;> simp [h]
theorem down_go {d : Array Nat} {j : Nat} (h : ltB d[j + 1]! d[j]! = true) : shiftDown ltB (j + 1) d = shiftDown ltB j (swp d (j + 1) j) := by
  rw [shiftDown, h]; rfl
theorem down_stop {d : Array Nat} {j : Nat} (h : ltB d[j + 1]! d[j]! = false) : shiftDown ltB (j + 1) d = d := by
  rw [shiftDown, h]; rfl
theorem up_go {d : Array Nat} {b j : Nat} (h1 : j < b) (h : ltB d[j]! d[j - 1]! = true) : shiftUp ltB b j d = shiftUp ltB b (j + 1) (swp d j (j - 1)) := by
  rw [shiftUp, if_pos h1, h]; rfl
theorem up_stop {d : Array Nat} {b j : Nat} (h1 : j < b) (h : ltB d[j]! d[j - 1]! = false) : shiftUp ltB b j d = d := by
  rw [shiftUp, if_pos h1, h]; rfl
theorem up_end {d : Array Nat} {b j : Nat} (h1 : ¬ j < b) : shiftUp ltB b j d = d := by
  rw [shiftUp, if_neg h1]
def SaysIns (w0 : World) (blk off : Nat) (tot : Array Nat × Bool) (e : Ending) (w' : World) : Prop := e = .returned (.bool tot.2) ∧ Srt w0 blk off tot.1 w'
def InsRel (w0 : World) (blk off a b N : Nat) (tot : Array Nat × Bool) (gk : Nat) (v7 v8 : Value) (wr : World) : Prop :=
  ∃ (i j : Nat) (dk : Array Nat), gk + j = 5 ∧ v8 = .int .i64 (j : Int) ∧ v7 = .int .i64 (i : Int) ∧ a < i ∧ i ≤ b ∧ dk.size = N ∧ Srt w0 blk off dk wr ∧ partialIns ltB a b gk i dk = tot
def ScanRel (w0 : World) (blk off a b : Nat) (d : Array Nat) (fin gk : Nat) (vi : Value) (wr : World) : Prop :=
  ∃ i : Nat, vi = .int .i64 (i : Int) ∧ a < i ∧ gk + i = b ∧ scanSorted ltB d b i = fin ∧ Srt w0 blk off d wr
def DownI (w0 : World) (blk off N : Nat) (fin : Array Nat) (gk : Nat) (v : Value) (wr : World) : Prop :=
  ∃ (j : Nat) (dl : Array Nat), v = .int .i64 (j : Int) ∧ j ≤ gk ∧ j < N ∧ dl.size = N ∧ Srt w0 blk off dl wr ∧ shiftDown ltB j dl = fin
def UpI (w0 : World) (blk off b N : Nat) (fin : Array Nat) (gk : Nat) (v : Value) (wr : World) : Prop :=
  ∃ (j : Nat) (dl : Array Nat), v = .int .i64 (j : Int) ∧ b - j ≤ gk ∧ 1 ≤ j ∧ j ≤ b ∧ dl.size = N ∧ Srt w0 blk off dl wr ∧ shiftUp ltB b j dl = fin
set_option maxRecDepth 100000 in
set_option maxHeartbeats 4000000 in
theorem partial_s {w0 W : World} {blk off cap a b N : Nat} {d : Array Nat} (h : Srt w0 blk off d W) (hN : d.size = N) (hb : b ≤ N) (hsz : N < 30000) (hl : a < b) :
    Calls Try.prog 58 #[.slice (some ⟨blk, off, none⟩) N cap, .int .i64 a, .int .i64 b] W (SaysIns w0 blk off (Sort.partialInsertionSort ltB d a b)) := by
  obtain ⟨tot, HT⟩ : ∃ tot, Hid (Sort.partialInsertionSort ltB d a b = tot) := ⟨_, rfl⟩
  rw [HT.out]
  have H := Lib.hid h
  have HN := Lib.hid hN
  clear h hN
  go_enter Try.func58, Try.ntmps58
  go_wp2
  go_loopg [7, 8] 5 (fun gk v7 v8 wr => InsRel w0 blk off a b N tot gk v7 v8 wr)
  case atStart => exact ⟨a + 1, 0, d, rfl, rfl, by go_num, by omega, by omega, HN.out, H.out, HT.out⟩
  case round =>
    clear H HN HT
    obtain ⟨i, j, dk, hg, rfl, rfl, hai, hib, hsk, hS, htot⟩ := hrel
    have HG := Lib.hid hg
    have HSK := Lib.hid hsk
    have HS := Lib.hid hS
    have HTT := Lib.hid htot
    have HAI := Lib.hid (And.intro hai hib)
    clear hg hsk hS htot hai hib
    by_cases hj : j < 5
    · have hjI : (j : Int) < 5 := by omega
      obtain ⟨s, HSS⟩ : ∃ s, Hid (gk = s + 1) := ⟨gk - 1, by have := HG.out; show _ = _; omega⟩
      rw [HSS.out] at HTT
      obtain ⟨fin, HFIN⟩ : ∃ f, Hid (scanSorted ltB dk b i = f) := ⟨_, rfl⟩
      go_wp2_with fail
      go_loopg [7] (b - i) (fun gk2 vi wr => ScanRel w0 blk off a b dk fin gk2 vi wr)
      case atStart => exact ⟨i, rfl, HAI.out.1, by have := HAI.out; omega, HFIN.out, HS.out⟩
      case round =>
        clear HS
        obtain ⟨i2, rfl, hai2, hg2, hfin2, hS2⟩ := hrel
        have HG2 := Lib.hid hg2
        have HFN2 := Lib.hid hfin2
        have HS2 := Lib.hid hS2
        clear hg2 hfin2 hS2
        by_cases hib : i2 < b
        · have hibI : (i2 : Int) < (b : Int) := by omega
          have hi0 : (0 : Int) ≤ (i2 : Int) := by omega
          have hiN : (i2 : Int) < (N : Int) := by omega
          obtain ⟨k, hk⟩ : ∃ k, i2 = k + 1 := ⟨i2 - 1, by omega⟩
          have hkk : (i2 : Int) - 1 = (k : Int) := by omega
          have hk0 : (0 : Int) ≤ (k : Int) := by omega
          have hkN : (k : Int) < (N : Int) := by omega
          have hci := HS2.out.cell (t := i2) (by rw [HSK.out]; omega)
          have hcj := HS2.out.cell (t := k) (by rw [HSK.out]; omega)
          have hfi := HS2.out.frz (t := i2) (by rw [HSK.out]; omega)
          have hfj := HS2.out.frz (t := k) (by rw [HSK.out]; omega)
          have hne : off + i2 ≠ off + k := by omega
          have hne' : off + k ≠ off + i2 := by omega
          have HSW : Hid (Srt w0 blk off (swp dk i2 k) ((wr.setCell ⟨blk, off + i2, none⟩ (.int .u64 ((dk[k]! : Nat) : Int))).setCell ⟨blk, off + k, none⟩ (.int .u64 ((dk[i2]! : Nat) : Int)))) := HS2.out.swap (by rw [HSK.out]; omega) (by rw [HSK.out]; omega)
          have HK : Hid (i2 = k + 1 ∧ i2 - 1 = k) := ⟨hk, by omega⟩
          obtain ⟨x, HX⟩ : ∃ x, Hid (x = dk[i2]!) := ⟨_, rfl⟩
          obtain ⟨y, HY⟩ : ∃ y, Hid (y = dk[k]!) := ⟨_, rfl⟩
          rw [← HX.out] at hci
          rw [← HY.out] at hcj
          have hibB : ((i2 : Int) == (b : Int)) = false := by simp; omega
          clear hk
          cases hl2 : ltB x y
          · have HL2 := Lib.hid hl2
            clear hl2 hne hne' hfi hfj
            go_wp2_with fail
            go_quiet (first | (go_at_call 59; refine Calls.quiet_of_same (cmpLess_is _ _ _ _ HL2.out)))
            go_wp2
            go_roundg (b - (i2 + 1))
            case measure => have := HG2.out; omega
            case rel => exact ⟨i2 + 1, by go_num, by omega, by have := HG2.out; omega, by rw [← HFN2.out, scan_go hib (by rw [HK.out.2, ← HX.out, ← HY.out]; exact HL2.out)], HS2.out.drewN nq⟩
          · have HL2 := Lib.hid hl2
            have HFI : Hid (fin = i2) := by show _ = _; rw [← HFN2.out]; exact scan_stop (.inr (by rw [HK.out.2, ← HX.out, ← HY.out]; exact hl2))
            clear hl2
            by_cases h50 : b - a < 50
            · have hba : (b : Int) - (a : Int) < 50 := by omega
              clear hne hne' hfi hfj
              go_wp2_with fail
              go_quiet (first | (go_at_call 59; refine Calls.quiet_of_same (cmpLess_is _ _ _ _ HL2.out)))
              go_wp2
              go_ret
              have ht : tot = (dk, false) := by
                rw [← HTT.out]
                unfold partialIns
                simp only [HFIN.out, HFI.out]
                rw [if_neg (by omega), if_pos h50]
              rw [ht]
              exact ⟨rfl, HS2.out.drewN nq⟩
            · have hba : ¬ (b : Int) - (a : Int) < 50 := by omega
              go_wp2_with fail
              go_quiet (first | (go_at_call 59; refine Calls.quiet_of_same (cmpLess_is _ _ _ _ HL2.out)))
              go_wp2_with fail
              have HS4 := Lib.hid (HS2.out.drewN nq)
              clear hci hcj hfi hfj HL2 HS2 HX HY HSW
              generalize wr.drewN nq = w4 at *
              clear nq
              have HA2 := Lib.hid hai2
              have HIB2 := Lib.hid hib
              have hci := HS4.out.cell (t := i2) (by rw [HSK.out]; omega)
              have hcj := HS4.out.cell (t := k) (by rw [HSK.out]; omega)
              have hfi := HS4.out.frz (t := i2) (by rw [HSK.out]; omega)
              have hfj := HS4.out.frz (t := k) (by rw [HSK.out]; omega)
              obtain ⟨u0, hu0⟩ := second_cell hci hcj (.int .u64 ((dk[k]! : Nat) : Int))
              have HSW : Hid (Srt w0 blk off (swp dk i2 k) ((w4.setCell ⟨blk, off + i2, none⟩ (.int .u64 ((dk[k]! : Nat) : Int))).setCell ⟨blk, off + k, none⟩ (.int .u64 ((dk[i2]! : Nat) : Int))).drew) := (HS4.out.swap (i := i2) (j := k) (by rw [HSK.out]; omega) (by rw [HSK.out]; omega)).drewN 1
              generalize hxx : dk[i2]! = x2 at hci hcj HSW hu0
              generalize hyy : dk[k]! = y2 at hci hcj HSW hu0
              clear hxx hyy
              go_region
              clear hu0 hci hcj hfi hfj HS4
              generalize ((w4.setCell ⟨blk, off + i2, none⟩ (.int .u64 (y2 : Int))).setCell ⟨blk, off + k, none⟩ (.int .u64 (x2 : Int))).drew = w5 at *
              obtain ⟨d1, hd1⟩ : ∃ d1, swp dk i2 k = d1 := ⟨_, rfl⟩
              have HSZ1 : Hid (d1.size = N) := by show _ = _; rw [← hd1, size_swp]; exact HSK.out
              rw [hd1] at HSW
              obtain ⟨d2, hd2⟩ : ∃ d2, (if i2 - a ≥ 2 then shiftDown ltB k d1 else d1) = d2 := ⟨_, rfl⟩
              obtain ⟨d3, hd3⟩ : ∃ d3, (if b - i2 ≥ 2 then shiftUp ltB b (i2 + 1) d2 else d2) = d3 := ⟨_, rfl⟩
              have HTOT : Hid (partialIns ltB a b s i2 d3 = tot) := by
                show _ = _
                rw [← HTT.out]
                conv => rhs; unfold partialIns
                simp only [HFIN.out, HFI.out]
                rw [if_neg (by omega), if_neg h50, HK.out.2, hd1, hd2, hd3]
              have HD2 := Lib.hid hd2
              have HD3 := Lib.hid hd3
              clear hd1 hd2 hd3 HTT HFN2 HFIN HFI hne hne'
              go_upto_if 61 with fail
              go_cut [9] from 13 to 132 (fun _ wx => d2.size = N ∧ Srt w0 blk off d2 wx)
              case first =>
                have HS := Lib.hid HSW.out
                clear HSW
                obtain ⟨ia, hia⟩ : ∃ ia, ia = i2 - a := ⟨_, rfl⟩
                have hiaI : (i2 : Int) - (a : Int) = (ia : Int) := by omega
                have hia30 : ia < 30000 := by omega
                rw [← hia] at HD2
                have hk30 : k < 30000 := by omega
                clear hia
                by_cases h2 : ia ≥ 2
                · have h2I : (2 : Int) ≤ (ia : Int) := by omega
                  have HD : Hid (shiftDown ltB k d1 = d2) := by have h := HD2.out; rw [if_pos h2] at h; exact h
                  clear h2
                  go_wp2_with fail
                  go_loopg [9] k (fun gk3 v9 wr => DownI w0 blk off N d2 gk3 v9 wr)
                  case atStart => exact ⟨k, d1, rfl, Nat.le_refl _, by omega, HSZ1.out, HS.out, HD.out⟩
                  case round =>
                    clear HS HD
                    obtain ⟨j3, dl, rfl, hg3, hj3, hsz3, hS3, hf3⟩ := hrel
                    have HG3 := Lib.hid hg3
                    have HJ3 := Lib.hid hj3
                    have HSZ3 := Lib.hid hsz3
                    have HS3 := Lib.hid hS3
                    have HF3 := Lib.hid hf3
                    clear hg3 hj3 hsz3 hS3 hf3
                    by_cases h1 : 1 ≤ j3
                    · obtain ⟨q, hq⟩ : ∃ q, j3 = q + 1 := ⟨j3 - 1, by have := HJ3.out; omega⟩
                      have hjI : (1 : Int) ≤ (j3 : Int) := by omega
                      have HJN : Hid (j3 < N) := by have := HJ3.out; show _ < _; omega
                      have hqI : (j3 : Int) - 1 = (q : Int) := by omega
                      have hj0 : (0 : Int) ≤ (j3 : Int) := by omega
                      have hjN : (j3 : Int) < (N : Int) := by have := HJN.out; omega
                      have hq0 : (0 : Int) ≤ (q : Int) := by omega
                      have hqN : (q : Int) < (N : Int) := by omega
                      have hwq : IntKind.i64.wrap (q : Int) = (q : Int) := by rw [IntKind.wrap_i64]; omega
                      have HQ : Hid (j3 = q + 1 ∧ j3 - 1 = q) := ⟨hq, by omega⟩
                      have HQN : Hid (q < N) := by show _ < _; omega
                      clear hq
                      have hci := HS3.out.cell (t := j3) (by rw [HSZ3.out]; exact HJN.out)
                      have hcj := HS3.out.cell (t := q) (by rw [HSZ3.out]; exact HQN.out)
                      cases hl3 : ltB dl[j3]! dl[q]!
                      · have HFF : Hid (dl = d2) := by show _ = _; rw [← HF3.out, HQ.out.1]; exact (down_stop (by rw [← HQ.out.1]; exact hl3)).symm
                        have HL3 := Lib.hid hl3
                        clear hl3
                        generalize dl[j3]! = x3 at hci HL3
                        generalize dl[q]! = y3 at hcj HL3
                        go_wp2_with fail
                        go_quiet (first | (go_at_call 59; refine Calls.quiet_of_same (cmpLess_is _ _ _ _ HL3.out)))
                        go_wp2
                        go_meet
                        exact ⟨HFF.out ▸ HSZ3.out, HFF.out ▸ (HS3.out.drewN nq)⟩
                      · have HFF : Hid (shiftDown ltB q (swp dl j3 q) = d2) := by show _ = _; rw [← HF3.out, HQ.out.1]; exact (down_go (by rw [← HQ.out.1]; exact hl3)).symm
                        have HL3 := Lib.hid hl3
                        clear hl3
                        obtain ⟨x3, hx3⟩ : ∃ x, x = dl[j3]! := ⟨_, rfl⟩
                        obtain ⟨y3, hy3⟩ : ∃ y, y = dl[q]! := ⟨_, rfl⟩
                        rw [← hx3] at hci HL3
                        rw [← hy3] at hcj HL3
                        clear hx3 hy3
                        go_wp2_with fail
                        go_quiet (first | (go_at_call 59; refine Calls.quiet_of_same (cmpLess_is _ _ _ _ HL3.out)))
                        go_wp2_with fail
                        have HS4 := Lib.hid (HS3.out.drewN nq)
                        clear hci hcj HL3 HS3
                        generalize wr.drewN nq = w6 at *
                        clear nq
                        have hci := HS4.out.cell (t := j3) (by rw [HSZ3.out]; exact HJN.out)
                        have hcj := HS4.out.cell (t := q) (by rw [HSZ3.out]; exact HQN.out)
                        have hfi := HS4.out.frz (t := j3) (by rw [HSZ3.out]; exact HJN.out)
                        have hfj := HS4.out.frz (t := q) (by rw [HSZ3.out]; exact HQN.out)
                        obtain ⟨u0, hu0⟩ := second_cell hci hcj (.int .u64 ((dl[q]! : Nat) : Int))
                        have HSW : Hid (Srt w0 blk off (swp dl j3 q) ((w6.setCell ⟨blk, off + j3, none⟩ (.int .u64 ((dl[q]! : Nat) : Int))).setCell ⟨blk, off + q, none⟩ (.int .u64 ((dl[j3]! : Nat) : Int))).drew) := (HS4.out.swap (i := j3) (j := q) (by rw [HSZ3.out]; exact HJN.out) (by rw [HSZ3.out]; exact HQN.out)).drewN 1
                        generalize hxx : dl[j3]! = x4 at hci hcj HSW hu0
                        generalize hyy : dl[q]! = y4 at hci hcj HSW hu0
                        clear hxx hyy
                        go_region
                        clear hu0 hci hcj hfi hfj HS4
                        go_wp2
                        go_roundg q
                        case measure => have := HG3.out; have := HQ.out.1; omega
                        case rel => exact ⟨q, swp dl j3 q, rfl, by have := HG3.out; have := HQ.out.1; omega, HQN.out, by rw [size_swp]; exact HSZ3.out, HSW.out, HFF.out⟩
                    · have hjI : ¬ (1 : Int) ≤ (j3 : Int) := by omega
                      have HFF : Hid (dl = d2) := by show _ = _; rw [← HF3.out, show j3 = 0 from by omega]; rfl
                      go_wp2
                      go_meet
                      exact ⟨HFF.out ▸ HSZ3.out, HFF.out ▸ HS3.out⟩
                · have h2I : ¬ (2 : Int) ≤ (ia : Int) := by omega
                  have HD : Hid (d1 = d2) := by have h := HD2.out; rw [if_neg h2] at h; exact h
                  clear h2
                  go_wp2
                  go_meet
                  exact ⟨HD.out ▸ HSZ1.out, HD.out ▸ HS.out⟩
              case rest =>
                obtain ⟨hsz2, hS2⟩ := hcut
                have HSZ2 := Lib.hid hsz2
                have HS := Lib.hid hS2
                clear hsz2 hS2 HSW HD2 HSZ1
                obtain ⟨bi, hbi⟩ : ∃ bi, bi = b - i2 := ⟨_, rfl⟩
                have hbiI : (b : Int) - (i2 : Int) = (bi : Int) := by omega
                have hbi30 : bi < 30000 := by omega
                rw [← hbi] at HD3
                have HBI := Lib.hid hbi
                clear hbi
                by_cases h2 : bi ≥ 2
                · have h2I : (2 : Int) ≤ (bi : Int) := by omega
                  have HD : Hid (shiftUp ltB b (i2 + 1) d2 = d3) := by have h := HD3.out; rw [if_pos h2] at h; exact h
                  clear h2
                  go_wp2_with fail
                  go_loopg [10] (b - (i2 + 1)) (fun gk3 v9 wr => UpI w0 blk off b N d3 gk3 v9 wr)
                  case atStart => exact ⟨i2 + 1, d2, by go_num, Nat.le_refl _, by omega, by omega, HSZ2.out, HS.out, HD.out⟩
                  case round =>
                    clear HS HD
                    obtain ⟨j3, dl, rfl, hg3, hj1, hj2, hsz3, hS3, hf3⟩ := hrel
                    have hj3 : 1 ≤ j3 ∧ j3 ≤ b := ⟨hj1, hj2⟩
                    clear hj1 hj2
                    have HG3 := Lib.hid hg3
                    have HJ3 := Lib.hid hj3
                    have HSZ3 := Lib.hid hsz3
                    have HS3 := Lib.hid hS3
                    have HF3 := Lib.hid hf3
                    clear hg3 hj3 hsz3 hS3 hf3
                    by_cases h1 : j3 < b
                    · obtain ⟨q, hq⟩ : ∃ q, j3 = q + 1 := ⟨j3 - 1, by have := HJ3.out; omega⟩
                      have hjI : (j3 : Int) < (b : Int) := by omega
                      have HJN : Hid (j3 < N) := by have := HJ3.out; show _ < _; omega
                      have hqI : (j3 : Int) - 1 = (q : Int) := by omega
                      have hj0 : (0 : Int) ≤ (j3 : Int) := by omega
                      have hjN : (j3 : Int) < (N : Int) := by have := HJN.out; omega
                      have hq0 : (0 : Int) ≤ (q : Int) := by omega
                      have hqN : (q : Int) < (N : Int) := by omega
                      have hwq : IntKind.i64.wrap (q : Int) = (q : Int) := by rw [IntKind.wrap_i64]; omega
                      have HQ : Hid (j3 = q + 1 ∧ j3 - 1 = q) := ⟨hq, by omega⟩
                      have HQN : Hid (q < N) := by show _ < _; omega
                      clear hq
                      have hci := HS3.out.cell (t := j3) (by rw [HSZ3.out]; exact HJN.out)
                      have hcj := HS3.out.cell (t := q) (by rw [HSZ3.out]; exact HQN.out)
                      cases hl3 : ltB dl[j3]! dl[q]!
                      · have HFF : Hid (dl = d3) := by show _ = _; rw [← HF3.out]; exact (up_stop h1 (by rw [HQ.out.2]; exact hl3)).symm
                        have HL3 := Lib.hid hl3
                        clear hl3
                        generalize dl[j3]! = x3 at hci HL3
                        generalize dl[q]! = y3 at hcj HL3
                        go_wp2_with fail
                        go_quiet (first | (go_at_call 59; refine Calls.quiet_of_same (cmpLess_is _ _ _ _ HL3.out)))
                        go_wp2
                        go_roundg s
                        case measure => have := HSS.out; omega
                        case rel => exact ⟨i2, j + 1, d3, by have := HSS.out; have := HG.out; omega, by go_num, rfl, HA2.out, by have := HIB2.out; omega, HFF.out ▸ HSZ3.out, HFF.out ▸ (HS3.out.drewN nq), HTOT.out⟩
                      · have HFF : Hid (shiftUp ltB b (j3 + 1) (swp dl j3 q) = d3) := by show _ = _; rw [← HF3.out, ← HQ.out.2]; exact (up_go h1 (by rw [HQ.out.2]; exact hl3)).symm
                        have HL3 := Lib.hid hl3
                        clear hl3
                        obtain ⟨x3, hx3⟩ : ∃ x, x = dl[j3]! := ⟨_, rfl⟩
                        obtain ⟨y3, hy3⟩ : ∃ y, y = dl[q]! := ⟨_, rfl⟩
                        rw [← hx3] at hci HL3
                        rw [← hy3] at hcj HL3
                        clear hx3 hy3
                        go_wp2_with fail
                        go_quiet (first | (go_at_call 59; refine Calls.quiet_of_same (cmpLess_is _ _ _ _ HL3.out)))
                        go_wp2_with fail
                        have HS4 := Lib.hid (HS3.out.drewN nq)
                        clear hci hcj HL3 HS3
                        generalize wr.drewN nq = w6 at *
                        clear nq
                        have hci := HS4.out.cell (t := j3) (by rw [HSZ3.out]; exact HJN.out)
                        have hcj := HS4.out.cell (t := q) (by rw [HSZ3.out]; exact HQN.out)
                        have hfi := HS4.out.frz (t := j3) (by rw [HSZ3.out]; exact HJN.out)
                        have hfj := HS4.out.frz (t := q) (by rw [HSZ3.out]; exact HQN.out)
                        obtain ⟨u0, hu0⟩ := second_cell hci hcj (.int .u64 ((dl[q]! : Nat) : Int))
                        have HSW : Hid (Srt w0 blk off (swp dl j3 q) ((w6.setCell ⟨blk, off + j3, none⟩ (.int .u64 ((dl[q]! : Nat) : Int))).setCell ⟨blk, off + q, none⟩ (.int .u64 ((dl[j3]! : Nat) : Int))).drew) := (HS4.out.swap (i := j3) (j := q) (by rw [HSZ3.out]; exact HJN.out) (by rw [HSZ3.out]; exact HQN.out)).drewN 1
                        generalize hxx : dl[j3]! = x4 at hci hcj HSW hu0
                        generalize hyy : dl[q]! = y4 at hci hcj HSW hu0
                        clear hxx hyy
                        go_region
                        clear hu0 hci hcj hfi hfj HS4
                        go_wp2
                        go_roundg (b - (j3 + 1))
                        case measure => have := HG3.out; omega
                        case rel => exact ⟨j3 + 1, swp dl j3 q, by go_num, by have := HG3.out; omega, by omega, by omega, by rw [size_swp]; exact HSZ3.out, HSW.out, HFF.out⟩
                    · have hjI : ¬ (j3 : Int) < (b : Int) := by omega
                      have HFF : Hid (dl = d3) := by show _ = _; rw [← HF3.out]; exact (up_end h1).symm
                      go_wp2
                      go_roundg s
                      case measure => have := HSS.out; omega
                      case rel => exact ⟨i2, j + 1, d3, by have := HSS.out; have := HG.out; omega, by go_num, rfl, HA2.out, by have := HIB2.out; omega, HFF.out ▸ HSZ3.out, HFF.out ▸ HS3.out, HTOT.out⟩
                · have h2I : ¬ (2 : Int) ≤ (bi : Int) := by omega
                  have HD : Hid (d2 = d3) := by have h := HD3.out; rw [if_neg h2] at h; exact h
                  clear h2
                  go_wp2
                  go_roundg s
                  case measure => have := HSS.out; omega
                  case rel => exact ⟨i2, j + 1, d3, by have := HSS.out; have := HG.out; omega, by go_num, rfl, HA2.out, by have := HIB2.out; omega, HD.out ▸ HSZ2.out, HD.out ▸ HS.out, HTOT.out⟩
        · have hibI : decide ((i2 : Int) < (b : Int)) = false := by simp; omega
          have hibN : decide (i2 < b) = false := by simp; omega
          have HIB : Hid (i2 = b) := by have := HG2.out; show _ = _; omega
          have hibB : ((i2 : Int) == (b : Int)) = true := by simp; have := HIB.out; omega
          have HFI : Hid (fin = i2) := by show _ = _; rw [← HFN2.out]; exact scan_stop (.inl hib)
          go_wp2_with fail
          go_quiet (fail)
          go_wp2
          go_ret
          have ht : tot = (dk, true) := by
            rw [← HTT.out]
            unfold partialIns
            simp only [HFIN.out, HFI.out]
            rw [if_pos HIB.out]
          rw [ht]
          exact ⟨rfl, HS2.out.drewN nq⟩
    · have hjI : ¬ (j : Int) < 5 := by omega
      have HG0 : Hid (gk = 0) := by have := HG.out; show _ = _; omega
      rw [HG0.out] at HTT
      go_wp2
      go_ret
      have ht : tot = (dk, false) := by rw [← HTT.out]; rfl
      rw [ht]
      exact ⟨rfl, HS.out⟩
end Go.Proofs.Ythhmgbeigeagdaa
