/-
  CONTRACTS of (*slices.xorshift).Next and breakPatternsOrdered at uint64 (fewer than 30000).
  No statement is proved here.
-/
import Derived.Test.YthhmgbeigeagdaaGreatPart
import Derived.Test.YthhmgbeigeagdaaGreatLen
import Derived.Laws.Bits64b
namespace Go.Proofs.Ythhmgbeigeagdaa
open Go.RowKit Go.Sort

/-- A state of the xorshift in a new block. -/
def Rnd (w0 : World) (s : Nat) (W : World) : Prop := w0.heap.size ≤ s ∧ ∃ z : Int, W.heap[s]? = some (.cells #[.int .u64 z] 89 (0, 0))
def SaysNext (w0 : World) (blk off s : Nat) (d : Array Nat) (e : Ending) (w' : World) : Prop :=
  ∃ z : Int, e = .returned (.int .u64 z) ∧ 0 ≤ z ∧ z < 18446744073709551616 ∧ Srt w0 blk off d w' ∧ Rnd w0 s w'
theorem row_setX {W : World} {s : Nat} {z : Int} (h : W.heap[s]? = some (.cells #[.int .u64 z] 89 (0, 0))) (u : Value) : (W.setCell ⟨s, 0, none⟩ u).drew.heap[s]? = some (.cells #[u] 89 (0, 0)) := by
  show (W.setCell ⟨s, 0, none⟩ u).heap[s]? = _
  simp [World.setCell, Array.getElem?_modify, h]
theorem next_step {w0 W : World} {blk off s : Nat} {d : Array Nat} {z : Int} (h : Srt w0 blk off d W) (hs : w0.heap.size ≤ s) (hz : W.heap[s]? = some (.cells #[.int .u64 z] 89 (0, 0))) (q : Int) :
    Srt w0 blk off d (W.setCell ⟨s, 0, none⟩ (.int .u64 q)).drew ∧ (W.setCell ⟨s, 0, none⟩ (.int .u64 q)).drew.heap[s]? = some (.cells #[.int .u64 q] 89 (0, 0)) :=
  ⟨(h.setNew _ hs).drewN 1, row_setX hz _⟩
theorem bits_u64_in (op : BinOp) (a b : Int) : 0 ≤ bits op .u64 a b ∧ bits op .u64 a b < 18446744073709551616 := by
  unfold bits
  rw [IntKind.wrap_u64]
  omega
set_option maxRecDepth 100000 in
set_option maxHeartbeats 4000000 in
theorem next_s {w0 W : World} {blk off s : Nat} {d : Array Nat} (h : Srt w0 blk off d W) (hr : Rnd w0 s W) :
    Calls Try.prog 66 #[.pointer (some ⟨s, 0, none⟩)] W (SaysNext w0 blk off s d) := by
  obtain ⟨hs, z, hz⟩ := hr
  have HA := Lib.hid (next_step h hs hz)
  have HSS := Lib.hid hs
  have hcz : W.cell? ⟨s, 0, none⟩ = some (.int .u64 z) := by rw [cell_of_row W _ 0 _ _ _ hz]; rfl
  have hfz := frz_row (i := 0) hz
  clear h hz hs
  go_enter Try.func66, Try.ntmps66
  go_wp2_with fail
  go_region
  go_wp2_with fail
  obtain ⟨hS1, hz1⟩ := HA.out (bits BinOp.xor IntKind.u64 z (IntKind.u64.wrap (z * 8192)))
  clear HA hcz hfz
  generalize bits BinOp.xor IntKind.u64 z (IntKind.u64.wrap (z * 8192)) = q at *
  generalize (W.setCell ⟨s, 0, none⟩ (.int .u64 q)).drew = w1 at *
  have HA := Lib.hid (next_step hS1 HSS.out hz1)
  have hcz : w1.cell? ⟨s, 0, none⟩ = some (.int .u64 q) := by rw [cell_of_row w1 _ 0 _ _ _ hz1]; rfl
  have hfz := frz_row (i := 0) hz1
  clear hS1 hz1
  go_region
  go_wp2_with fail
  obtain ⟨hS1, hz1⟩ := HA.out (bits BinOp.xor IntKind.u64 q (q / 128))
  clear HA hcz hfz
  generalize bits BinOp.xor IntKind.u64 q (q / 128) = q2 at *
  generalize (w1.setCell ⟨s, 0, none⟩ (.int .u64 q2)).drew = w2 at *
  have HA := Lib.hid (next_step hS1 HSS.out hz1)
  have hcz : w2.cell? ⟨s, 0, none⟩ = some (.int .u64 q2) := by rw [cell_of_row w2 _ 0 _ _ _ hz1]; rfl
  have hfz := frz_row (i := 0) hz1
  clear hS1 hz1
  go_region
  go_wp2_with fail
  obtain ⟨hS1, hz1⟩ := HA.out (bits BinOp.xor IntKind.u64 q2 (IntKind.u64.wrap (q2 * 131072)))
  have HB := Lib.hid (bits_u64_in BinOp.xor q2 (IntKind.u64.wrap (q2 * 131072)))
  clear HA hcz hfz
  generalize bits BinOp.xor IntKind.u64 q2 (IntKind.u64.wrap (q2 * 131072)) = q3 at *
  generalize (w2.setCell ⟨s, 0, none⟩ (.int .u64 q3)).drew = w3 at *
  have hcz : w3.cell? ⟨s, 0, none⟩ = some (.int .u64 q3) := by rw [cell_of_row w3 _ 0 _ _ _ hz1]; rfl
  have HS1 := Lib.hid hS1
  have HZ1 := Lib.hid hz1
  clear hS1 hz1
  go_wp2
  go_ret
  exact ⟨q3, rfl, HB.out.1, HB.out.2, HS1.out, HSS.out, q3, HZ1.out⟩
/-- The row has been stirred within [a, b). -/
def Breaks (w0 : World) (blk off a b N : Nat) (d : Array Nat) (e : Ending) (w' : World) : Prop := e = .returned (.tuple #[]) ∧ ∃ d' : Array Nat, PermIn a b d d' ∧ d'.size = N ∧ Srt w0 blk off d' w'
def StirRel (w0 : World) (blk off s a b N base : Nat) (d : Array Nat) (gk : Nat) (v : Value) (wr : World) : Prop :=
  ∃ (i : Nat) (dk : Array Nat), v = .int .i64 (i : Int) ∧ base ≤ i + 1 ∧ i ≤ base + 2 ∧ base + 2 - i ≤ gk ∧ PermIn a b d dk ∧ dk.size = N ∧ Srt w0 blk off dk wr ∧ Rnd w0 s wr
theorem and_is (z : Int) (M1 : Nat) (h0 : 0 ≤ z) (h1 : z < 18446744073709551616) (hM : M1 < 65536) : ∃ t : Nat, bits .and .u64 z (M1 : Int) = (t : Int) ∧ t ≤ M1 := by
  obtain ⟨n, rfl⟩ : ∃ n : Nat, z = (n : Int) := ⟨z.toNat, by omega⟩
  exact ⟨n &&& M1, bits_and_u64_nat n M1 (by omega) (by omega), Nat.and_le_right⟩
theorem row_new (W : World) (z : Int) : (W.alloc (.cells #[.int .u64 z] 89)).heap[W.heap.size]? = some (.cells #[.int .u64 z] 89 (0, 0)) := heap_alloc_new W _
theorem rnd_set {w0 w1 : World} {blk off s x y : Nat} {d : Array Nat} (h : Srt w0 blk off d w1) (hr : Rnd w0 s w1) (v1 v2 : Value) : Rnd w0 s ((w1.setCell ⟨blk, x, none⟩ v1).setCell ⟨blk, y, none⟩ v2).drew := by
  obtain ⟨hs, z, hz⟩ := hr
  have hne : blk ≠ s := by have := h.lt; omega
  refine ⟨hs, z, ?_⟩
  show ((w1.setCell ⟨blk, x, none⟩ v1).setCell ⟨blk, y, none⟩ v2).heap[s]? = _
  simp [World.setCell, Array.getElem?_modify, hne, hz]
set_option maxRecDepth 100000 in
set_option maxHeartbeats 4000000 in
theorem break_s {w0 W : World} {blk off cap a b N : Nat} {d : Array Nat} (h : Srt w0 blk off d W) (hN : d.size = N) (hb : b ≤ N) (hsz : N < 30000) (hl : a + 12 < b) :
    Calls Try.prog 55 #[.slice (some ⟨blk, off, none⟩) N cap, .int .i64 a, .int .i64 b] W (Breaks w0 blk off a b N d) := by
  obtain ⟨m, hm⟩ : ∃ m, b = a + m := ⟨b - a, by omega⟩
  obtain ⟨q, hq⟩ : ∃ q, q = m / 4 := ⟨_, rfl⟩
  obtain ⟨base, hbase⟩ : ∃ c, c = a + q * 2 := ⟨_, rfl⟩
  obtain ⟨i0, hi0⟩ : ∃ c, base = c + 1 := ⟨base - 1, by omega⟩
  have hmI : (b : Int) - (a : Int) = (m : Int) := by omega
  have hqI : (m : Int) / 4 = (q : Int) := by omega
  have hbI : (a : Int) + (q : Int) * 2 = (base : Int) := by omega
  have hiI : (base : Int) - 1 = (i0 : Int) := by omega
  have hm8 : (8 : Int) ≤ (m : Int) := by omega
  have hm50 : m < 30000 := by omega
  have hq50 : q < 30000 := by omega
  have hbase50 : base < 30000 := by omega
  have HM : Hid (b = a + m ∧ a < base ∧ base + 1 < b ∧ 8 ≤ m ∧ base = i0 + 1) := by exact ⟨hm, by omega, by omega, by omega, hi0⟩
  have H := Lib.hid h
  have HN := Lib.hid hN
  clear h hN hm hq hbase hi0
  go_enter Try.func55, Try.ntmps55
  go_wp2_with fail
  refine (pow_b _ m hm50 HM.out.2.2.2.1).mono ?_
  rintro e w1 ⟨⟨M, rfl, hM1, hM2, hM3⟩, rfl⟩
  go_wp2_with fail
  obtain ⟨M1, hM1'⟩ : ∃ c, M = c + 1 := ⟨M - 1, by omega⟩
  have hMI : (M : Int) - 1 = (M1 : Int) := by omega
  have HMM : Hid (M1 < 2 * m ∧ M1 < 65536) := by exact ⟨by omega, by omega⟩
  have hM64 : M < 65537 := by omega
  clear hM1' hM2 hM3 hM1
  go_loopg [9] 3 (fun gk v wr => StirRel w0 blk off W.heap.size a b N base d gk v wr)
  case atStart => exact ⟨i0, d, rfl, by have := HM.out; omega, by have := HM.out; omega, by have := HM.out; omega, permIn_refl _ _ _, HN.out, H.out.alloc _, H.out.size, m, row_new W m⟩
  case round =>
    clear H HN
    obtain ⟨i, dk, rfl, hlo, hup, hg, hP, hs, hS, hR⟩ := hrel
    have HG := Lib.hid hg
    have HP := Lib.hid hP
    have HSK := Lib.hid hs
    have HS := Lib.hid hS
    have HR := Lib.hid hR
    have HI : Hid (base ≤ i + 1 ∧ i ≤ base + 2) := by exact ⟨hlo, hup⟩
    clear hg hP hs hS hR hlo hup
    by_cases hir : i ≤ base + 1
    · have hirI : (i : Int) ≤ (base : Int) + 1 := by omega
      have HI2 : Hid (a ≤ i ∧ i < b ∧ i < N ∧ b = a + m) := by have := HI.out; have := HM.out; exact ⟨by omega, by omega, by omega, by omega⟩
      have hiN : (i : Int) < (N : Int) := by have := HI2.out; omega
      have hi50 : i < 30000 := by omega
      have hMIw : IntKind.u64.wrap (M1 : Int) = (M1 : Int) := by rw [IntKind.wrap_u64]; have := HMM.out; omega
      go_wp2_with fail
      refine (next_s HS.out HR.out).mono ?_
      rintro e w1 ⟨z, rfl, hz0, hz1, hS1, hR1⟩
      obtain ⟨t, hB, hT⟩ := and_is z M1 hz0 hz1 HMM.out.2
      have HS1 := Lib.hid hS1
      have HR1 := Lib.hid hR1
      clear hz0 hz1 hS1 hR1 HS HR
      by_cases htm : t < m
      · have htmI : ¬ (m : Int) ≤ (t : Int) := by omega
        obtain ⟨f, hf⟩ : ∃ f, f = a + t := ⟨_, rfl⟩
        have HF : Hid (a ≤ f ∧ f < b ∧ f < N ∧ a ≤ i ∧ i < b ∧ i < N) := by have := HI2.out; exact ⟨by omega, by omega, by omega, by omega, by omega, by omega⟩
        have hfI : (a : Int) + (t : Int) = (f : Int) := by omega
        have hwf : IntKind.i64.wrap (f : Int) = (f : Int) := by rw [IntKind.wrap_i64]; have := HF.out; omega
        clear hf hT
        have hci := HS1.out.cell (t := i) (by rw [HSK.out]; have := HF.out; omega)
        have hcj := HS1.out.cell (t := f) (by rw [HSK.out]; have := HF.out; omega)
        have hfi := HS1.out.frz (t := i) (by rw [HSK.out]; have := HF.out; omega)
        have hfj := HS1.out.frz (t := f) (by rw [HSK.out]; have := HF.out; omega)
        obtain ⟨u0, hu0⟩ := second_cell hci hcj (.int .u64 (((dk)[f]! : Nat) : Int))
        have HSW : Hid (Srt w0 blk off (swp dk i f) ((w1.setCell ⟨blk, off + i, none⟩ (.int .u64 ((dk[f]! : Nat) : Int))).setCell ⟨blk, off + f, none⟩ (.int .u64 ((dk[i]! : Nat) : Int))).drew) := (HS1.out.swap (i := i) (j := f) (by rw [HSK.out]; have := HF.out; omega) (by rw [HSK.out]; have := HF.out; omega)).drewN 1
        generalize hxx : (dk)[i]! = x at hci hcj HSW hu0
        generalize hyy : (dk)[f]! = y at hci hcj HSW hu0
        clear hxx hyy
        have hsi0 : (0 : Int) ≤ (i : Int) := by have := HF.out; omega
        have hsj0 : (0 : Int) ≤ (f : Int) := by have := HF.out; omega
        have hsiN : (i : Int) < (N : Int) := by have := HF.out; omega
        have hsjN : (f : Int) < (N : Int) := by have := HF.out; omega
        have HRN : Hid (∀ v1 v2, Rnd w0 W.heap.size ((w1.setCell ⟨blk, off + i, none⟩ v1).setCell ⟨blk, off + f, none⟩ v2).drew) := fun v1 v2 => rnd_set HS1.out HR1.out v1 v2
        have HPP := Lib.hid (permIn_trans _ _ _ _ _ HP.out (swp_permIn dk a b i f (by have := HF.out; omega) (by have := HF.out; omega) (by have := HF.out; omega) (by have := HF.out; omega) (by rw [HSK.out]; omega)))
        go_wp2_with fail
        go_region
        clear hu0 hci hcj hfi hfj HS1
        go_wp2
        go_roundg (gk - 1)
        case measure => have := HG.out; have := HI.out; omega
        case rel => exact ⟨i + 1, swp dk i f, by go_num, by have := HI.out; omega, by omega, by have := HG.out; omega, HPP.out, by rw [size_swp]; exact HSK.out, HSW.out, HRN.out _ _⟩
      · have htmI : (m : Int) ≤ (t : Int) := by omega
        have ht64 : t < 65536 := by have := HMM.out; omega
        obtain ⟨t1, ht1⟩ : ∃ c, t = m + c := ⟨t - m, by omega⟩
        have ht1I : (t : Int) - (m : Int) = (t1 : Int) := by omega
        obtain ⟨f, hf⟩ : ∃ f, f = a + t1 := ⟨_, rfl⟩
        have HF : Hid (a ≤ f ∧ f < b ∧ f < N ∧ a ≤ i ∧ i < b ∧ i < N) := by have := HI2.out; have := HMM.out; exact ⟨by omega, by omega, by omega, by omega, by omega, by omega⟩
        have hfI : (a : Int) + (t1 : Int) = (f : Int) := by omega
        have hwf : IntKind.i64.wrap (f : Int) = (f : Int) := by rw [IntKind.wrap_i64]; have := HF.out; omega
        have hwt : IntKind.i64.wrap (t1 : Int) = (t1 : Int) := by rw [IntKind.wrap_i64]; omega
        clear hf hT ht1
        have hci := HS1.out.cell (t := i) (by rw [HSK.out]; have := HF.out; omega)
        have hcj := HS1.out.cell (t := f) (by rw [HSK.out]; have := HF.out; omega)
        have hfi := HS1.out.frz (t := i) (by rw [HSK.out]; have := HF.out; omega)
        have hfj := HS1.out.frz (t := f) (by rw [HSK.out]; have := HF.out; omega)
        obtain ⟨u0, hu0⟩ := second_cell hci hcj (.int .u64 (((dk)[f]! : Nat) : Int))
        have HSW : Hid (Srt w0 blk off (swp dk i f) ((w1.setCell ⟨blk, off + i, none⟩ (.int .u64 ((dk[f]! : Nat) : Int))).setCell ⟨blk, off + f, none⟩ (.int .u64 ((dk[i]! : Nat) : Int))).drew) := (HS1.out.swap (i := i) (j := f) (by rw [HSK.out]; have := HF.out; omega) (by rw [HSK.out]; have := HF.out; omega)).drewN 1
        generalize hxx : (dk)[i]! = x at hci hcj HSW hu0
        generalize hyy : (dk)[f]! = y at hci hcj HSW hu0
        clear hxx hyy
        have hsi0 : (0 : Int) ≤ (i : Int) := by have := HF.out; omega
        have hsj0 : (0 : Int) ≤ (f : Int) := by have := HF.out; omega
        have hsiN : (i : Int) < (N : Int) := by have := HF.out; omega
        have hsjN : (f : Int) < (N : Int) := by have := HF.out; omega
        have HRN : Hid (∀ v1 v2, Rnd w0 W.heap.size ((w1.setCell ⟨blk, off + i, none⟩ v1).setCell ⟨blk, off + f, none⟩ v2).drew) := fun v1 v2 => rnd_set HS1.out HR1.out v1 v2
        have HPP := Lib.hid (permIn_trans _ _ _ _ _ HP.out (swp_permIn dk a b i f (by have := HF.out; omega) (by have := HF.out; omega) (by have := HF.out; omega) (by have := HF.out; omega) (by rw [HSK.out]; omega)))
        go_wp2_with fail
        go_region
        clear hu0 hci hcj hfi hfj HS1
        go_wp2
        go_roundg (gk - 1)
        case measure => have := HG.out; have := HI.out; omega
        case rel => exact ⟨i + 1, swp dk i f, by go_num, by have := HI.out; omega, by omega, by have := HG.out; omega, HPP.out, by rw [size_swp]; exact HSK.out, HSW.out, HRN.out _ _⟩
    · have hirI : ¬ (i : Int) ≤ (base : Int) + 1 := by omega
      go_wp2
      go_end0
      exact ⟨rfl, dk, HP.out, HSK.out, HS.out⟩
end Go.Proofs.Ythhmgbeigeagdaa
