/-
  TEXTS OF EARLIER ROUNDS, laid together: part 17.
  No statement is proved here.
-/
import Derived.Test.YtbnhemmklbbnmaaBdLot12
import Derived.Shelf.GgSortFunc.SW
import Derived.Sort.AssemblyPlain

/-! ## SortOne -/
namespace Go.Proofs.Ytbnhemmklbbnmaa
open Go.RowKit Go.Sort

/-- In W the row at block blk, from off on, holds d; all else is as in w0, but for new blocks. -/
structure Srt (w0 : World) (blk off : Nat) (d : Array Nat) (W : World) : Prop where
  sw : SW nv w0 blk off d W
  lt : blk < w0.heap.size
  hold : ∃ d0, Holds nv w0 blk off d0 ∧ d.size = d0.size
section
variable {w0 W : World} {blk off : Nat} {d : Array Nat}
theorem Srt.start (h : Holds nv w0 blk off d) (hb : blk < w0.heap.size) : Srt w0 blk off d w0 := ⟨SW.start h, hb, d, h, rfl⟩
theorem Srt.holds (h : Srt w0 blk off d W) : Holds nv W blk off d := by
  obtain ⟨d0, h0, hs⟩ := h.hold
  exact h.sw.holds h.lt h0 hs
theorem Srt.cell (h : Srt w0 blk off d W) {t : Nat} (ht : t < d.size) : W.cell? ⟨blk, off + t, none⟩ = some (.int .u64 ((d[t]! : Nat) : Int)) := (h.holds t ht).1
theorem Srt.frz (h : Srt w0 blk off d W) {t : Nat} (ht : t < d.size) : W.frozen? ⟨blk, off + t, none⟩ = false := (h.holds t ht).2
theorem Srt.drewN (h : Srt w0 blk off d W) (q : Nat) : Srt w0 blk off d (W.drewN q) := ⟨h.sw.drewN q, h.lt, h.hold⟩
theorem Srt.alloc (h : Srt w0 blk off d W) (o : Obj) : Srt w0 blk off d (W.alloc o) := ⟨h.sw.alloc o, h.lt, h.hold⟩
theorem Srt.setNew (h : Srt w0 blk off d W) {b o : Nat} (v : Value) (hb : w0.heap.size ≤ b) : Srt w0 blk off d (W.setCell ⟨b, o, none⟩ v) := ⟨h.sw.setCell_new b o v hb, h.lt, h.hold⟩
theorem Srt.swap (h : Srt w0 blk off d W) {i j : Nat} (hi : i < d.size) (hj : j < d.size) : Srt w0 blk off (swp d i j) ((W.setCell ⟨blk, off + i, none⟩ (nv d[j]!)).setCell ⟨blk, off + j, none⟩ (nv d[i]!)) :=
  ⟨h.sw.swap h.lt i j hi hj, h.lt, by obtain ⟨d0, h0, hs⟩ := h.hold; exact ⟨d0, h0, by rw [size_swp]; exact hs⟩⟩
theorem Srt.size (h : Srt w0 blk off d W) : w0.heap.size ≤ W.heap.size := h.sw.le
theorem Srt.row (h : Srt w0 blk off d W) (n : Nat) {d' : Array Nat} (hs : d'.size = d.size) : Srt w0 blk off d' (putRow nv (Sort.ahead W n) blk off d') :=
  ⟨by
    have := h.sw.on h.lt n d' #[] hs
    simpa [sortWorld] using this, h.lt, by obtain ⟨d0, h0, hs0⟩ := h.hold; exact ⟨d0, h0, hs.trans hs0⟩⟩
end
/-- A call that sorts on: the row holds d' then. -/
def Sorts (w0 : World) (blk off : Nat) (d' : Array Nat) (e : Ending) (w' : World) : Prop := e = .returned (.tuple #[]) ∧ Srt w0 blk off d' w'
theorem insertion_s {w0 W : World} {blk off cap a b N : Nat} {d : Array Nat} (h : Srt w0 blk off d W) (hN : d.size = N) (hab : a ≤ b) (hb : b ≤ N) (hsz : N < 4611686018427387904) :
    Calls Try.prog 72 #[.slice (some ⟨blk, off, none⟩) N cap, .int .i64 a, .int .i64 b] W (Sorts w0 blk off (Sort.insertionSort ltB d a b)) := by
  subst hN
  refine (insertion_any blk off cap a b d W h.holds hab hb hsz).mono ?_
  rintro e w' ⟨rfl, n, rfl⟩
  exact ⟨rfl, h.row n (insertionSort_holds swo_ltB d a b hab hb).1.1⟩

/-! ### reverseRange -/
theorem rev_go (i j : Nat) (d : Array Nat) (h : i < j) : reverseLoop i j d = reverseLoop (i + 1) (j - 1) (swp d i j) := by rw [reverseLoop, if_pos h]
theorem rev_stop (i j : Nat) (d : Array Nat) (h : ¬ i < j) : reverseLoop i j d = d := by rw [reverseLoop, if_neg h]
def RevRel (w0 : World) (blk off b N : Nat) (tot : Array Nat) (gk : Nat) (vi vj : Value) (wr : World) : Prop :=
  ∃ (i j : Nat) (dk : Array Nat), vi = .int .i64 (i : Int) ∧ vj = .int .i64 (j : Int) ∧ j < b ∧ i ≤ b ∧ j - i ≤ gk ∧ dk.size = N ∧ Srt w0 blk off dk wr ∧ reverseLoop i j dk = tot
set_option maxRecDepth 100000 in
set_option maxHeartbeats 1000000 in
theorem reverse_s {w0 W : World} {blk off cap a b N : Nat} {d : Array Nat} (h : Srt w0 blk off d W) (hN : d.size = N) (hab : a < b) (hb : b ≤ N) (hsz : N < 50) :
    Calls Try.prog 76 #[.slice (some ⟨blk, off, none⟩) N cap, .int .i64 a, .int .i64 b] W (Sorts w0 blk off (Sort.reverseRange d a b)) := by
  obtain ⟨tot, HT⟩ : ∃ tot, Hid (tot = Sort.reverseRange d a b) := ⟨_, rfl⟩
  rw [← HT.out]
  have H := Lib.hid h
  have HN := Lib.hid hN
  clear h hN
  obtain ⟨b1, hb1⟩ : ∃ b1, b = b1 + 1 := ⟨b - 1, by omega⟩
  have hbI : (b : Int) - 1 = (b1 : Int) := by omega
  have HB1 := Lib.hid hb1
  clear hb1
  go_enter Try.func76, Try.ntmps76
  go_wp2
  go_loopg [6, 7] (b1 - a) (fun gk vi vj wr => RevRel w0 blk off b N tot gk vi vj wr)
  case atStart => exact ⟨a, b1, d, rfl, rfl, by have := HB1.out; omega, by omega, Nat.le_refl _, HN.out, H.out, by rw [HT.out]; unfold Sort.reverseRange; rw [HB1.out]; rfl⟩
  case round =>
    obtain ⟨i, j, dk, rfl, rfl, hjb, hib, hg, hsk, hS, htot⟩ := hrel
    have HG := Lib.hid hg
    have HSK := Lib.hid hsk
    have HS := Lib.hid hS
    have HTT := Lib.hid htot
    clear hg hsk hS htot HB1 hbI
    by_cases hij : i < j
    · have hijI : (i : Int) < (j : Int) := by omega
      have hi0 : (0 : Int) ≤ (i : Int) := by omega
      have hj0 : (0 : Int) ≤ (j : Int) := by omega
      have hiN : (i : Int) < (N : Int) := by omega
      have hjN : (j : Int) < (N : Int) := by omega
      have hj1 : (1 : Int) ≤ (j : Int) := by omega
      have hci := HS.out.cell (t := i) (by rw [HSK.out]; omega)
      have hcj := HS.out.cell (t := j) (by rw [HSK.out]; omega)
      have hfi := HS.out.frz (t := i) (by rw [HSK.out]; omega)
      have hfj := HS.out.frz (t := j) (by rw [HSK.out]; omega)
      have hne : off + i ≠ off + j := by omega
      have HSW : Hid (Srt w0 blk off (swp dk i j) ((wr.setCell ⟨blk, off + i, none⟩ (.int .u64 ((dk[j]! : Nat) : Int))).setCell ⟨blk, off + j, none⟩ (.int .u64 ((dk[i]! : Nat) : Int)))) := HS.out.swap (by rw [HSK.out]; omega) (by rw [HSK.out]; omega)
      generalize dk[i]! = x at *
      generalize dk[j]! = y at *
      go_wp2_with fail
      go_region
      all_goals go_wp2
      go_roundg (gk - 1)
      case measure => have := HG.out; omega
      case rel => exact ⟨i + 1, j - 1, swp dk i j, by go_num, by congr 1; omega, by omega, by omega, by have := HG.out; omega, by rw [size_swp]; exact HSK.out, HSW.out.drewN 1, by rw [← HTT.out, rev_go _ _ _ hij]⟩
    · have hijI : ¬ (i : Int) < (j : Int) := by omega
      have HE : Hid (dk = tot) := by show _ = _; rw [← HTT.out, rev_stop _ _ _ hij]
      go_wp2
      go_end0
      exact ⟨rfl, HE.out ▸ HS.out⟩
end Go.Proofs.Ytbnhemmklbbnmaa

/-! ## SortTwo -/
namespace Go.Proofs.Ytbnhemmklbbnmaa
open Go.RowKit Go.Sort

theorem cmpLess_is (w : World) (a b : Nat) (r : Bool) (h : ltB a b = r) : Calls Try.prog 78 #[.int .u64 (a : Int), .int .u64 (b : Int)] w fun e w' => e = .returned (.bool r) ∧ w' = w :=
  (cmpLess_any w a b).mono fun _ _ hh => ⟨h ▸ hh.1, hh.2.symm⟩
/-- A counter in a new block. -/
def Ctr (w0 : World) (s : Nat) (W : World) : Prop := w0.heap.size ≤ s ∧ ∃ z : Int, W.heap[s]? = some (.cells #[.int .i64 z] 3 (0, 0))
theorem Ctr.drewN {w0 W : World} {s : Nat} (h : Ctr w0 s W) (q : Nat) : Ctr w0 s (W.drewN q) := h
theorem row_setI {W : World} {s : Nat} {z : Int} (h : W.heap[s]? = some (.cells #[.int .i64 z] 3 (0, 0))) (u : Value) (q : Nat) : ((W.drewN q).setCell ⟨s, 0, none⟩ u).heap[s]? = some (.cells #[u] 3 (0, 0)) := by
  simp [World.setCell, Array.getElem?_modify, h]
def SaysPair (w0 : World) (blk off s a b : Nat) (d : Array Nat) (e : Ending) (w' : World) : Prop :=
  ∃ x y : Nat, e = .returned (.tuple #[.int .i64 (x : Int), .int .i64 (y : Int)]) ∧ ((x = a ∧ y = b) ∨ (x = b ∧ y = a)) ∧ Srt w0 blk off d w' ∧ Ctr w0 s w'
set_option maxRecDepth 100000 in
set_option maxHeartbeats 1000000 in
theorem order2_s {w0 W : World} {blk off cap s a b N : Nat} {d : Array Nat} (h : Srt w0 blk off d W) (hc : Ctr w0 s W) (hN : d.size = N) (ha : a < N) (hb : b < N) :
    Calls Try.prog 97 #[.slice (some ⟨blk, off, none⟩) N cap, .int .i64 a, .int .i64 b, .pointer (some ⟨s, 0, none⟩)] W (SaysPair w0 blk off s a b d) := by
  have H := Lib.hid h
  have hca := h.cell (t := a) (by omega)
  have hcb := h.cell (t := b) (by omega)
  obtain ⟨hs, z, hz⟩ := hc
  have HZ := Lib.hid hz
  have hcz : W.cell? ⟨s, 0, none⟩ = some (.int .i64 z) := by rw [cell_of_row W _ 0 _ _ _ hz]; rfl
  have hfz := frz_row (i := 0) hz
  have haI : (a : Int) < (N : Int) := by omega
  have hbI : (b : Int) < (N : Int) := by omega
  have ha0 : (0 : Int) ≤ (a : Int) := by omega
  have hb0 : (0 : Int) ≤ (b : Int) := by omega
  clear h hN hz
  generalize d[a]! = x at *
  generalize d[b]! = y at *
  go_enter Try.func97, Try.ntmps97
  go_wp2_with fail
  go_quiet (first | (go_at_call 78; refine Calls.quiet_of_same ((cmpLess_any _ _ _).mono fun _ _ h => ⟨h.1, h.2.symm⟩)))
  go_wp2
  · go_ret2
    exact ⟨b, a, rfl, .inr ⟨rfl, rfl⟩, (H.out.drewN nq).setNew _ hs, hs, _, row_setI HZ.out _ nq⟩
  · go_ret2
    exact ⟨a, b, rfl, .inl ⟨rfl, rfl⟩, H.out.drewN nq, hs, z, HZ.out⟩
def SaysOne (w0 : World) (blk off s a b c : Nat) (d : Array Nat) (e : Ending) (w' : World) : Prop :=
  ∃ x : Nat, e = .returned (.int .i64 (x : Int)) ∧ (x = a ∨ x = b ∨ x = c) ∧ Srt w0 blk off d w' ∧ Ctr w0 s w'
set_option maxRecDepth 100000 in
set_option maxHeartbeats 1000000 in
theorem median_s {w0 W : World} {blk off cap s a b c N : Nat} {d : Array Nat} (h : Srt w0 blk off d W) (hc : Ctr w0 s W) (hN : d.size = N) (ha : a < N) (hb : b < N) (hcN : c < N) :
    Calls Try.prog 93 #[.slice (some ⟨blk, off, none⟩) N cap, .int .i64 a, .int .i64 b, .int .i64 c, .pointer (some ⟨s, 0, none⟩)] W (SaysOne w0 blk off s a b c d) := by
  have H := Lib.hid h
  have HC := Lib.hid hc
  have HN := Lib.hid hN
  clear h hc hN
  go_enter Try.func93, Try.ntmps93
  go_wp2_with fail
  refine (order2_s H.out HC.out HN.out ha hb).mono ?_
  rintro e w1 ⟨x1, y1, rfl, h1, hs1, hc1⟩
  have H1 := Lib.hid h1
  have HS1 := Lib.hid hs1
  have HC1 := Lib.hid hc1
  clear h1 hs1 hc1 H HC
  go_wp2_with fail
  refine (order2_s HS1.out HC1.out HN.out (show y1 < N by have := H1.out; omega) hcN).mono ?_
  rintro e w2 ⟨x2, y2, rfl, h2, hs2, hc2⟩
  have H2 := Lib.hid h2
  have HS2 := Lib.hid hs2
  have HC2 := Lib.hid hc2
  clear h2 hs2 hc2 HS1 HC1
  go_wp2_with fail
  refine (order2_s HS2.out HC2.out HN.out (show x1 < N by have := H1.out; omega) (show x2 < N by have := H1.out; have := H2.out; omega)).mono ?_
  rintro e w3 ⟨x3, y3, rfl, h3, hs3, hc3⟩
  have H3 := Lib.hid h3
  have HS3 := Lib.hid hs3
  have HC3 := Lib.hid hc3
  clear h3 hs3 hc3 HS2 HC2
  go_wp2
  go_ret
  exact ⟨y3, rfl, by have := H1.out; have := H2.out; have := H3.out; omega, HS3.out, HC3.out⟩
def SaysPivot (w0 : World) (blk off a b : Nat) (d : Array Nat) (e : Ending) (w' : World) : Prop :=
  ∃ p q : Nat, e = .returned (.tuple #[.int .i64 (p : Int), .int .i64 (q : Int)]) ∧ a ≤ p ∧ p < b ∧ q ≤ 2 ∧ Srt w0 blk off d w'
set_option maxRecDepth 100000 in
set_option maxHeartbeats 2000000 in
theorem pivot_s {w0 W : World} {blk off cap a b N : Nat} {d : Array Nat} (h : Srt w0 blk off d W) (hN : d.size = N) (hb : b ≤ N) (hsz : N < 50) (hl : a + 12 < b) :
    Calls Try.prog 75 #[.slice (some ⟨blk, off, none⟩) N cap, .int .i64 a, .int .i64 b] W (SaysPivot w0 blk off a b d) := by
  have H := Lib.hid h
  have HN := Lib.hid hN
  clear h hN
  obtain ⟨m, hm⟩ : ∃ m, b = a + m := ⟨b - a, by omega⟩
  obtain ⟨q, hq⟩ : ∃ q, q = m / 4 := ⟨_, rfl⟩
  have hmI : (b : Int) - (a : Int) = (m : Int) := by omega
  have hqI : (m : Int) / 4 = (q : Int) := by omega
  have hq3 : 3 * q < m := by omega
  have hm8 : (8 : Int) ≤ (m : Int) := by omega
  have hm50 : ¬ (50 : Int) ≤ (m : Int) := by omega
  have hq0 : (0 : Int) ≤ (q : Int) := by omega
  have HM := Lib.hid hm
  clear hm hq
  go_enter Try.func75, Try.ntmps75
  go_wp2_with fail
  rw [show (a : Int) + (q : Int) = ((a + q : Nat) : Int) from by omega, show (a : Int) + (q : Int) * 2 = ((a + q * 2 : Nat) : Int) from by omega, show (a : Int) + (q : Int) * 3 = ((a + q * 3 : Nat) : Int) from by omega]
  refine (median_s (s := W.heap.size) (H.out.alloc (.cells #[.int .i64 0] 3)) ⟨H.out.size, 0, heap_alloc_new W _⟩ HN.out (by have := HM.out; omega) (by have := HM.out; omega) (by have := HM.out; omega)).mono ?_
  rintro e w1 ⟨x, rfl, hx, hs, _, z, hz⟩
  have HX : Hid (a ≤ x ∧ x < b) := by have := HM.out; exact ⟨by omega, by omega⟩
  have HS := Lib.hid hs
  have hcz : w1.cell? ⟨W.heap.size, 0, none⟩ = some (.int .i64 z) := by rw [cell_of_row w1 _ 0 _ _ _ hz]; rfl
  clear hx hs hz
  by_cases h0 : z = 0
  · subst h0
    go_wp2
    go_ret2
    exact ⟨x, 1, rfl, HX.out.1, HX.out.2, by omega, HS.out⟩
  · have h0B : (z == 0) = false := by simp; exact h0
    by_cases h12 : z = 12
    · subst h12
      go_wp2
      go_ret2
      exact ⟨x, 2, rfl, HX.out.1, HX.out.2, by omega, HS.out⟩
    · have h12B : (z == 12) = false := by simp; exact h12
      clear h0 h12
      go_wp2
      go_ret2
      exact ⟨x, 0, rfl, HX.out.1, HX.out.2, by omega, HS.out⟩

/-! ### partialInsertionSort -/
def SaysPart (w0 : World) (blk off a b : Nat) (d : Array Nat) (e : Ending) (w' : World) : Prop :=
  ∃ r : Bool, e = .returned (.bool r) ∧ (r = true → SortedIn ltB a b d) ∧ Srt w0 blk off d w'
def ScanRel (w0 : World) (blk off a b : Nat) (d : Array Nat) (gk : Nat) (vi : Value) (wr : World) : Prop :=
  ∃ i : Nat, vi = .int .i64 (i : Int) ∧ a < i ∧ gk + i = b ∧ SortedIn ltB a i d ∧ Srt w0 blk off d wr
set_option maxRecDepth 100000 in
set_option maxHeartbeats 2000000 in
theorem partial_s {w0 W : World} {blk off cap a b N : Nat} {d : Array Nat} (h : Srt w0 blk off d W) (hN : d.size = N) (hb : b ≤ N) (hsz : N < 50) (hl : a < b) :
    Calls Try.prog 77 #[.slice (some ⟨blk, off, none⟩) N cap, .int .i64 a, .int .i64 b] W (SaysPart w0 blk off a b d) := by
  have H := Lib.hid h
  have HN := Lib.hid hN
  clear h hN
  go_enter Try.func77, Try.ntmps77
  go_wp2
  go_loopg [7, 8] 1 (fun gk v7 v8 wr => gk = 1 ∧ v7 = .int .i64 ((a : Int) + 1) ∧ v8 = .int .i64 0 ∧ Srt w0 blk off d wr)
  case atStart => exact ⟨rfl, rfl, rfl, H.out⟩
  case round =>
    obtain ⟨_, rfl, rfl, hS⟩ := hrel
    have HS := Lib.hid hS
    clear hS
    go_wp2_with fail
    go_loopg [7] (b - (a + 1)) (fun gk vi wr => ScanRel w0 blk off a b d gk vi wr)
    case atStart => exact ⟨a + 1, by go_num, by omega, by omega, fun i j h1 h2 h3 => (by omega), HS.out⟩
    case round =>
      obtain ⟨i, rfl, hai, hg, hso, hS2⟩ := hrel
      have HG := Lib.hid hg
      have HSO := Lib.hid hso
      have HS2 := Lib.hid hS2
      clear hg hso hS2
      by_cases hib : i < b
      · have hibI : (i : Int) < (b : Int) := by omega
        have hi0 : (0 : Int) ≤ (i : Int) := by omega
        have hiN : (i : Int) < (N : Int) := by omega
        have hi1 : (0 : Int) ≤ (i : Int) - 1 := by omega
        have hi1' : (1 : Int) ≤ (i : Int) := by omega
        have hi2 : (i : Int) - 1 < (N : Int) := by omega
        have hci := HS2.out.cell (t := i) (by rw [HN.out]; omega)
        have hcj := HS2.out.cell (t := i - 1) (by rw [HN.out]; omega)
        obtain ⟨x, HX⟩ : ∃ x, Hid (x = d[i]!) := ⟨_, rfl⟩
        obtain ⟨y, HY⟩ : ∃ y, Hid (y = d[i - 1]!) := ⟨_, rfl⟩
        rw [← HX.out] at hci
        rw [← HY.out] at hcj
        obtain ⟨k, hk⟩ : ∃ k, i = k + 1 := ⟨i - 1, by omega⟩
        have hwk : IntKind.i64.wrap ((i : Int) - 1) = (k : Int) := by rw [IntKind.wrap_i64]; omega
        have hkk : (i : Int) - 1 = (k : Int) := by omega
        rw [show i - 1 = k from by omega] at hcj
        have HK := Lib.hid hk
        have hk0 : (0 : Int) ≤ (k : Int) := by omega
        have hkN : (k : Int) < (N : Int) := by omega
        have hibB : ((i : Int) == (b : Int)) = false := by simp; omega
        have hba : (b : Int) - (a : Int) < 50 := by omega
        clear hk hi1 hi2
        cases hl2 : ltB x y
        · have HSN : Hid (SortedIn ltB a (i + 1) d) := SortedIn.snoc swo_ltB HSO.out (by rw [← HX.out, ← HY.out]; exact hl2)
          have HL2 := Lib.hid hl2
          clear hl2
          go_wp2_with fail
          go_quiet (first | (go_at_call 78; refine Calls.quiet_of_same (cmpLess_is _ _ _ _ HL2.out)))
          go_wp2
          go_roundg (gk - 1)
          case measure => have := HG.out; omega
          case rel => exact ⟨i + 1, by go_num, by omega, by have := HG.out; omega, HSN.out, HS2.out.drewN nq⟩
        · have HL2 := Lib.hid hl2
          clear hl2
          go_wp2_with fail
          go_quiet (first | (go_at_call 78; refine Calls.quiet_of_same (cmpLess_is _ _ _ _ HL2.out)))
          go_wp2
          go_ret
          exact ⟨false, rfl, fun h => (by cases h), HS2.out.drewN nq⟩
      · have hibI : decide ((i : Int) < (b : Int)) = false := by simp; omega
        have hibN : decide (i < b) = false := by simp; omega
        have HIB : Hid (i = b) := by have := HG.out; show _ = _; omega
        have hibB : ((i : Int) == (b : Int)) = true := by simp; have := HIB.out; omega
        go_wp2_with fail
        go_quiet (fail)
        go_wp2
        go_ret
        exact ⟨true, rfl, fun _ => HIB.out ▸ HSO.out, HS2.out.drewN nq⟩
end Go.Proofs.Ytbnhemmklbbnmaa
