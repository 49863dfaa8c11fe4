/-
  WORDS for a row of numbers that is being sorted ('Srt'); CONTRACTS of reverseRangeOrdered, order2Ordered, medianOrdered, choosePivotOrdered at uint64 (fewer than 30000).
  No statement is proved here.
-/
import Derived.Test.YthhmgbeigeagdaaRunsSort
import Derived.Shelf.GgSortFunc.SW
import Derived.Sort.AssemblyPlain
namespace Go.Proofs.Ythhmgbeigeagdaa
open Go.RowKit Go.Sort

/-- In W the row at block blk, from off on, holds d; all else is as in w0, but for new blocks. -/
structure Srt (w0 : World) (blk off : Nat) (d : Array Nat) (W : World) : Prop where
  sw : SW nv w0 blk off d W
  lt : blk < w0.heap.size
  hold : ∃ d0, Holds nv w0 blk off d0 ∧ d.size = d0.size
section
variable {w0 W : World} {blk off : Nat} {d : Array Nat}
theorem Srt.start (h : Holds nv w0 blk off d) (hb : blk < w0.heap.size) : Srt w0 blk off d w0 := ⟨SW.start h, hb, d, h, rfl⟩
theorem Srt.holds (h : Srt w0 blk off d W) : Holds nv W blk off d := by
  obtain ⟨d0, h0, hs⟩ := h.hold
  exact h.sw.holds h.lt h0 hs
theorem Srt.cell (h : Srt w0 blk off d W) {t : Nat} (ht : t < d.size) : W.cell? ⟨blk, off + t, none⟩ = some (.int .u64 ((d[t]! : Nat) : Int)) := (h.holds t ht).1
theorem Srt.frz (h : Srt w0 blk off d W) {t : Nat} (ht : t < d.size) : W.frozen? ⟨blk, off + t, none⟩ = false := (h.holds t ht).2
theorem Srt.drewN (h : Srt w0 blk off d W) (q : Nat) : Srt w0 blk off d (W.drewN q) := ⟨h.sw.drewN q, h.lt, h.hold⟩
theorem Srt.alloc (h : Srt w0 blk off d W) (o : Obj) : Srt w0 blk off d (W.alloc o) := ⟨h.sw.alloc o, h.lt, h.hold⟩
theorem Srt.setNew (h : Srt w0 blk off d W) {b o : Nat} (v : Value) (hb : w0.heap.size ≤ b) : Srt w0 blk off d (W.setCell ⟨b, o, none⟩ v) := ⟨h.sw.setCell_new b o v hb, h.lt, h.hold⟩
theorem Srt.swap (h : Srt w0 blk off d W) {i j : Nat} (hi : i < d.size) (hj : j < d.size) : Srt w0 blk off (swp d i j) ((W.setCell ⟨blk, off + i, none⟩ (nv d[j]!)).setCell ⟨blk, off + j, none⟩ (nv d[i]!)) :=
  ⟨h.sw.swap h.lt i j hi hj, h.lt, by obtain ⟨d0, h0, hs⟩ := h.hold; exact ⟨d0, h0, by rw [size_swp]; exact hs⟩⟩
theorem Srt.size (h : Srt w0 blk off d W) : w0.heap.size ≤ W.heap.size := h.sw.le
theorem Srt.row (h : Srt w0 blk off d W) (n : Nat) {d' : Array Nat} (hs : d'.size = d.size) : Srt w0 blk off d' (putRow nv (Sort.ahead W n) blk off d') :=
  ⟨by
    have := h.sw.on h.lt n d' #[] hs
    simpa [sortWorld] using this, h.lt, by obtain ⟨d0, h0, hs0⟩ := h.hold; exact ⟨d0, h0, hs.trans hs0⟩⟩
end
/-- A call that sorts on: the row holds d' then. -/
def Sorts (w0 : World) (blk off : Nat) (d' : Array Nat) (e : Ending) (w' : World) : Prop := e = .returned (.tuple #[]) ∧ Srt w0 blk off d' w'
theorem insertion_s {w0 W : World} {blk off cap a b N : Nat} {d : Array Nat} (h : Srt w0 blk off d W) (hN : d.size = N) (hab : a ≤ b) (hb : b ≤ N) (hsz : N < 4611686018427387904) :
    Calls Try.prog 53 #[.slice (some ⟨blk, off, none⟩) N cap, .int .i64 a, .int .i64 b] W (Sorts w0 blk off (Sort.insertionSort ltB d a b)) := by
  subst hN
  refine (insertion_any blk off cap a b d W h.holds hab hb hsz).mono ?_
  rintro e w' ⟨rfl, n, rfl⟩
  exact ⟨rfl, h.row n (insertionSort_holds swo_ltB d a b hab hb).1.1⟩

/-! ### reverseRange -/
theorem rev_go (i j : Nat) (d : Array Nat) (h : i < j) : reverseLoop i j d = reverseLoop (i + 1) (j - 1) (swp d i j) := by rw [reverseLoop, if_pos h]
theorem rev_stop (i j : Nat) (d : Array Nat) (h : ¬ i < j) : reverseLoop i j d = d := by rw [reverseLoop, if_neg h]
def RevRel (w0 : World) (blk off b N : Nat) (tot : Array Nat) (gk : Nat) (vi vj : Value) (wr : World) : Prop :=
  ∃ (i j : Nat) (dk : Array Nat), vi = .int .i64 (i : Int) ∧ vj = .int .i64 (j : Int) ∧ j < b ∧ i ≤ b ∧ j - i ≤ gk ∧ dk.size = N ∧ Srt w0 blk off dk wr ∧ reverseLoop i j dk = tot
set_option maxRecDepth 100000 in
set_option maxHeartbeats 1000000 in
theorem reverse_s {w0 W : World} {blk off cap a b N : Nat} {d : Array Nat} (h : Srt w0 blk off d W) (hN : d.size = N) (hab : a < b) (hb : b ≤ N) (hsz : N < 30000) :
    Calls Try.prog 57 #[.slice (some ⟨blk, off, none⟩) N cap, .int .i64 a, .int .i64 b] W (Sorts w0 blk off (Sort.reverseRange d a b)) := by
  obtain ⟨tot, HT⟩ : ∃ tot, Hid (tot = Sort.reverseRange d a b) := ⟨_, rfl⟩
  rw [← HT.out]
  have H := Lib.hid h
  have HN := Lib.hid hN
  clear h hN
  obtain ⟨b1, hb1⟩ : ∃ b1, b = b1 + 1 := ⟨b - 1, by omega⟩
  have hbI : (b : Int) - 1 = (b1 : Int) := by omega
  have HB1 := Lib.hid hb1
  clear hb1
  go_enter Try.func57, Try.ntmps57
  go_wp2
  go_loopg [6, 7] (b1 - a) (fun gk vi vj wr => RevRel w0 blk off b N tot gk vi vj wr)
  case atStart => exact ⟨a, b1, d, rfl, rfl, by have := HB1.out; omega, by omega, Nat.le_refl _, HN.out, H.out, by rw [HT.out]; unfold Sort.reverseRange; rw [HB1.out]; rfl⟩
  case round =>
    obtain ⟨i, j, dk, rfl, rfl, hjb, hib, hg, hsk, hS, htot⟩ := hrel
    have HG := Lib.hid hg
    have HSK := Lib.hid hsk
    have HS := Lib.hid hS
    have HTT := Lib.hid htot
    clear hg hsk hS htot HB1 hbI
    by_cases hij : i < j
    · have hijI : (i : Int) < (j : Int) := by omega
      have hi0 : (0 : Int) ≤ (i : Int) := by omega
      have hj0 : (0 : Int) ≤ (j : Int) := by omega
      have hiN : (i : Int) < (N : Int) := by omega
      have hjN : (j : Int) < (N : Int) := by omega
      have hj1 : (1 : Int) ≤ (j : Int) := by omega
      have hci := HS.out.cell (t := i) (by rw [HSK.out]; omega)
      have hcj := HS.out.cell (t := j) (by rw [HSK.out]; omega)
      have hfi := HS.out.frz (t := i) (by rw [HSK.out]; omega)
      have hfj := HS.out.frz (t := j) (by rw [HSK.out]; omega)
      have hne : off + i ≠ off + j := by omega
      have HSW : Hid (Srt w0 blk off (swp dk i j) ((wr.setCell ⟨blk, off + i, none⟩ (.int .u64 ((dk[j]! : Nat) : Int))).setCell ⟨blk, off + j, none⟩ (.int .u64 ((dk[i]! : Nat) : Int)))) := HS.out.swap (by rw [HSK.out]; omega) (by rw [HSK.out]; omega)
      generalize dk[i]! = x at *
      generalize dk[j]! = y at *
      go_wp2_with fail
      go_region
      all_goals go_wp2
      go_roundg (gk - 1)
      case measure => have := HG.out; omega
      case rel => exact ⟨i + 1, j - 1, swp dk i j, by go_num, by congr 1; omega, by omega, by omega, by have := HG.out; omega, by rw [size_swp]; exact HSK.out, HSW.out.drewN 1, by rw [← HTT.out, rev_go _ _ _ hij]⟩
    · have hijI : ¬ (i : Int) < (j : Int) := by omega
      have HE : Hid (dk = tot) := by show _ = _; rw [← HTT.out, rev_stop _ _ _ hij]
      go_wp2
      go_end0
      exact ⟨rfl, HE.out ▸ HS.out⟩
end Go.Proofs.Ythhmgbeigeagdaa
