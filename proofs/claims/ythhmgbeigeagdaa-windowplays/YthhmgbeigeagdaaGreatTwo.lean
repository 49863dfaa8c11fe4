/-
  CONTRACTS of order2Ordered, medianOrdered, choosePivotOrdered, partialInsertionSortOrdered at uint64 (fewer than 30000).
  No statement is proved here.
-/
import Derived.Test.YthhmgbeigeagdaaGreatOne
namespace Go.Proofs.Ythhmgbeigeagdaa
open Go.RowKit Go.Sort

theorem cmpLess_is (w : World) (a b : Nat) (r : Bool) (h : ltB a b = r) : Calls Try.prog 59 #[.int .u64 (a : Int), .int .u64 (b : Int)] w fun e w' => e = .returned (.bool r) ∧ w' = w :=
  (cmpLess_any w a b).mono fun _ _ hh => ⟨h ▸ hh.1, hh.2.symm⟩
/-- A counter in a new block. -/
def Ctr (w0 : World) (s : Nat) (W : World) : Prop := w0.heap.size ≤ s ∧ ∃ z : Int, W.heap[s]? = some (.cells #[.int .i64 z] 3 (0, 0))
theorem Ctr.drewN {w0 W : World} {s : Nat} (h : Ctr w0 s W) (q : Nat) : Ctr w0 s (W.drewN q) := h
theorem row_setI {W : World} {s : Nat} {z : Int} (h : W.heap[s]? = some (.cells #[.int .i64 z] 3 (0, 0))) (u : Value) (q : Nat) : ((W.drewN q).setCell ⟨s, 0, none⟩ u).heap[s]? = some (.cells #[u] 3 (0, 0)) := by
  simp [World.setCell, Array.getElem?_modify, h]
def SaysPair (w0 : World) (blk off s a b : Nat) (d : Array Nat) (e : Ending) (w' : World) : Prop :=
  ∃ x y : Nat, e = .returned (.tuple #[.int .i64 (x : Int), .int .i64 (y : Int)]) ∧ ((x = a ∧ y = b) ∨ (x = b ∧ y = a)) ∧ Srt w0 blk off d w' ∧ Ctr w0 s w'
set_option maxRecDepth 100000 in
set_option maxHeartbeats 1000000 in
theorem order2_s {w0 W : World} {blk off cap s a b N : Nat} {d : Array Nat} (h : Srt w0 blk off d W) (hc : Ctr w0 s W) (hN : d.size = N) (ha : a < N) (hb : b < N) :
    Calls Try.prog 70 #[.slice (some ⟨blk, off, none⟩) N cap, .int .i64 a, .int .i64 b, .pointer (some ⟨s, 0, none⟩)] W (SaysPair w0 blk off s a b d) := by
  have H := Lib.hid h
  have hca := h.cell (t := a) (by omega)
  have hcb := h.cell (t := b) (by omega)
  obtain ⟨hs, z, hz⟩ := hc
  have HZ := Lib.hid hz
  have hcz : W.cell? ⟨s, 0, none⟩ = some (.int .i64 z) := by rw [cell_of_row W _ 0 _ _ _ hz]; rfl
  have hfz := frz_row (i := 0) hz
  have haI : (a : Int) < (N : Int) := by omega
  have hbI : (b : Int) < (N : Int) := by omega
  have ha0 : (0 : Int) ≤ (a : Int) := by omega
  have hb0 : (0 : Int) ≤ (b : Int) := by omega
  clear h hN hz
  generalize d[a]! = x at *
  generalize d[b]! = y at *
  go_enter Try.func70, Try.ntmps70
  go_wp2_with fail
  go_quiet (first | (go_at_call 59; refine Calls.quiet_of_same ((cmpLess_any _ _ _).mono fun _ _ h => ⟨h.1, h.2.symm⟩)))
  go_wp2
  · go_ret2
    exact ⟨b, a, rfl, .inr ⟨rfl, rfl⟩, (H.out.drewN nq).setNew _ hs, hs, _, row_setI HZ.out _ nq⟩
  · go_ret2
    exact ⟨a, b, rfl, .inl ⟨rfl, rfl⟩, H.out.drewN nq, hs, z, HZ.out⟩
def SaysOne (w0 : World) (blk off s a b c : Nat) (d : Array Nat) (e : Ending) (w' : World) : Prop :=
  ∃ x : Nat, e = .returned (.int .i64 (x : Int)) ∧ (x = a ∨ x = b ∨ x = c) ∧ Srt w0 blk off d w' ∧ Ctr w0 s w'
set_option maxRecDepth 100000 in
set_option maxHeartbeats 1000000 in
theorem median_s {w0 W : World} {blk off cap s a b c N : Nat} {d : Array Nat} (h : Srt w0 blk off d W) (hc : Ctr w0 s W) (hN : d.size = N) (ha : a < N) (hb : b < N) (hcN : c < N) :
    Calls Try.prog 68 #[.slice (some ⟨blk, off, none⟩) N cap, .int .i64 a, .int .i64 b, .int .i64 c, .pointer (some ⟨s, 0, none⟩)] W (SaysOne w0 blk off s a b c d) := by
  have H := Lib.hid h
  have HC := Lib.hid hc
  have HN := Lib.hid hN
  clear h hc hN
  go_enter Try.func68, Try.ntmps68
  go_wp2_with fail
  refine (order2_s H.out HC.out HN.out ha hb).mono ?_
  rintro e w1 ⟨x1, y1, rfl, h1, hs1, hc1⟩
  have H1 := Lib.hid h1
  have HS1 := Lib.hid hs1
  have HC1 := Lib.hid hc1
  clear h1 hs1 hc1 H HC
  go_wp2_with fail
  refine (order2_s HS1.out HC1.out HN.out (show y1 < N by have := H1.out; omega) hcN).mono ?_
  rintro e w2 ⟨x2, y2, rfl, h2, hs2, hc2⟩
  have H2 := Lib.hid h2
  have HS2 := Lib.hid hs2
  have HC2 := Lib.hid hc2
  clear h2 hs2 hc2 HS1 HC1
  go_wp2_with fail
  refine (order2_s HS2.out HC2.out HN.out (show x1 < N by have := H1.out; omega) (show x2 < N by have := H1.out; have := H2.out; omega)).mono ?_
  rintro e w3 ⟨x3, y3, rfl, h3, hs3, hc3⟩
  have H3 := Lib.hid h3
  have HS3 := Lib.hid hs3
  have HC3 := Lib.hid hc3
  clear h3 hs3 hc3 HS2 HC2
  go_wp2
  go_ret
  exact ⟨y3, rfl, by have := H1.out; have := H2.out; have := H3.out; omega, HS3.out, HC3.out⟩
set_option maxRecDepth 100000 in
set_option maxHeartbeats 1000000 in
theorem adj_s {w0 W : World} {blk off cap s a N : Nat} {d : Array Nat} (h : Srt w0 blk off d W) (hc : Ctr w0 s W) (hN : d.size = N) (ha : 1 ≤ a) (hb : a + 1 < N) (hsz : N < 30000) :
    Calls Try.prog 67 #[.slice (some ⟨blk, off, none⟩) N cap, .int .i64 a, .pointer (some ⟨s, 0, none⟩)] W (SaysOne w0 blk off s (a - 1) a (a + 1) d) := by
  obtain ⟨a0, ha0⟩ : ∃ a0, a0 = a - 1 := ⟨_, rfl⟩
  obtain ⟨a2, ha2⟩ : ∃ a2, a2 = a + 1 := ⟨_, rfl⟩
  have h0I : (a : Int) - 1 = (a0 : Int) := by omega
  have h2I : (a : Int) + 1 = (a2 : Int) := by omega
  have HM := Lib.hid (median_s (cap := cap) (a := a0) (b := a) (c := a2) h hc hN (by omega) (by omega) (by omega))
  rw [← ha0, ← ha2]
  have hb' : a < 30000 := by omega
  clear h hc hN ha0 ha2
  go_enter Try.func67, Try.ntmps67
  go_wp2_with fail
  refine HM.out.mono ?_
  rintro e w1 ⟨x, rfl, hx, hs, hc⟩
  have HX := Lib.hid hx
  have HS := Lib.hid hs
  have HC := Lib.hid hc
  clear hx hs hc
  go_wp2
  go_ret
  exact ⟨x, rfl, HX.out, HS.out, HC.out⟩
def SaysPivot (w0 : World) (blk off a b : Nat) (d : Array Nat) (e : Ending) (w' : World) : Prop :=
  ∃ p q : Nat, e = .returned (.tuple #[.int .i64 (p : Int), .int .i64 (q : Int)]) ∧ a ≤ p ∧ p < b ∧ q ≤ 2 ∧ Srt w0 blk off d w'
set_option maxRecDepth 100000 in
set_option maxHeartbeats 2000000 in
theorem pivot_s {w0 W : World} {blk off cap a b N : Nat} {d : Array Nat} (h : Srt w0 blk off d W) (hN : d.size = N) (hb : b ≤ N) (hsz : N < 30000) (hl : a + 12 < b) :
    Calls Try.prog 56 #[.slice (some ⟨blk, off, none⟩) N cap, .int .i64 a, .int .i64 b] W (SaysPivot w0 blk off a b d) := by
  have H := Lib.hid h
  have HN := Lib.hid hN
  clear h hN
  obtain ⟨m, hm⟩ : ∃ m, b = a + m := ⟨b - a, by omega⟩
  obtain ⟨q, hq⟩ : ∃ q, q = m / 4 := ⟨_, rfl⟩
  have hmI : (b : Int) - (a : Int) = (m : Int) := by omega
  have hqI : (m : Int) / 4 = (q : Int) := by omega
  have hq3 : 3 * q < m := by omega
  have hm8 : (8 : Int) ≤ (m : Int) := by omega
  have hq0 : (0 : Int) ≤ (q : Int) := by omega
  have HM := Lib.hid hm
  clear hm hq
  go_enter Try.func56, Try.ntmps56
  by_cases h50 : m < 50
  · skip
    have hm50 : ¬ (50 : Int) ≤ (m : Int) := by omega
    go_wp2_with fail
    rw [show (a : Int) + (q : Int) = ((a + q : Nat) : Int) from by omega, show (a : Int) + (q : Int) * 2 = ((a + q * 2 : Nat) : Int) from by omega, show (a : Int) + (q : Int) * 3 = ((a + q * 3 : Nat) : Int) from by omega]
    refine (median_s (s := W.heap.size) (H.out.alloc (.cells #[.int .i64 0] 3)) ⟨H.out.size, 0, heap_alloc_new W _⟩ HN.out (by have := HM.out; omega) (by have := HM.out; omega) (by have := HM.out; omega)).mono ?_
    rintro e w1 ⟨x, rfl, hx, hs, _, z, hz⟩
    have HX : Hid (a ≤ x ∧ x < b) := by have := HM.out; exact ⟨by omega, by omega⟩
    have HS := Lib.hid hs
    have hcz : w1.cell? ⟨W.heap.size, 0, none⟩ = some (.int .i64 z) := by rw [cell_of_row w1 _ 0 _ _ _ hz]; rfl
    clear hx hs hz
    by_cases h0 : z = 0
    · subst h0
      go_wp2
      go_ret2
      exact ⟨x, 1, rfl, HX.out.1, HX.out.2, by omega, HS.out⟩
    · have h0B : (z == 0) = false := by simp; exact h0
      by_cases h12 : z = 12
      · subst h12
        go_wp2
        go_ret2
        exact ⟨x, 2, rfl, HX.out.1, HX.out.2, by omega, HS.out⟩
      · have h12B : (z == 12) = false := by simp; exact h12
        clear h0 h12
        go_wp2
        go_ret2
        exact ⟨x, 0, rfl, HX.out.1, HX.out.2, by omega, HS.out⟩
  · skip
    have hm50 : (50 : Int) ≤ (m : Int) := by omega
    obtain ⟨i1, hi1⟩ : ∃ i1, i1 = a + q := ⟨_, rfl⟩
    obtain ⟨j1, hj1⟩ : ∃ j1, j1 = a + q * 2 := ⟨_, rfl⟩
    obtain ⟨k1, hk1⟩ : ∃ k1, k1 = a + q * 3 := ⟨_, rfl⟩
    have hi1I : (a : Int) + (q : Int) = (i1 : Int) := by omega
    have hj1I : (a : Int) + (q : Int) * 2 = (j1 : Int) := by omega
    have hk1I : (a : Int) + (q : Int) * 3 = (k1 : Int) := by omega
    have HQ : Hid (a + 2 ≤ i1 ∧ i1 + 1 < b ∧ a + 2 ≤ j1 ∧ j1 + 1 < b ∧ a + 2 ≤ k1 ∧ k1 + 1 < b) := by have := HM.out; exact ⟨by omega, by omega, by omega, by omega, by omega, by omega⟩
    clear hi1 hj1 hk1
    go_wp2_with fail
    refine (adj_s (s := W.heap.size) (H.out.alloc (.cells #[.int .i64 0] 3)) ⟨H.out.size, 0, heap_alloc_new W _⟩ HN.out (by have := HQ.out; omega) (by have := HQ.out; omega) hsz).mono ?_
    rintro e w5 ⟨x5, rfl, hx5, hs5, hc5⟩
    have HX5 := Lib.hid hx5
    have HS5 := Lib.hid hs5
    have HC5 := Lib.hid hc5
    clear hx5 hs5 hc5
    go_wp2_with fail
    refine (adj_s (s := W.heap.size) HS5.out HC5.out HN.out (by have := HQ.out; omega) (by have := HQ.out; omega) hsz).mono ?_
    rintro e w6 ⟨x6, rfl, hx6, hs6, hc6⟩
    have HX6 := Lib.hid hx6
    have HS6 := Lib.hid hs6
    have HC6 := Lib.hid hc6
    clear hx6 hs6 hc6
    go_wp2_with fail
    refine (adj_s (s := W.heap.size) HS6.out HC6.out HN.out (by have := HQ.out; omega) (by have := HQ.out; omega) hsz).mono ?_
    rintro e w7 ⟨x7, rfl, hx7, hs7, hc7⟩
    have HX7 := Lib.hid hx7
    have HS7 := Lib.hid hs7
    have HC7 := Lib.hid hc7
    clear hx7 hs7 hc7
    go_wp2_with fail
    refine (median_s (s := W.heap.size) HS7.out HC7.out HN.out (by have := HQ.out; have := HX5.out; omega) (by have := HQ.out; have := HX6.out; omega) (by have := HQ.out; have := HX7.out; omega)).mono ?_
    rintro e w1 ⟨x, rfl, hx, hs, _, z, hz⟩
    have HX : Hid (a ≤ x ∧ x < b) := by have := HQ.out; have := HX5.out; have := HX6.out; have := HX7.out; exact ⟨by omega, by omega⟩
    have HS := Lib.hid hs
    have hcz : w1.cell? ⟨W.heap.size, 0, none⟩ = some (.int .i64 z) := by rw [cell_of_row w1 _ 0 _ _ _ hz]; rfl
    clear hx hs hz
    by_cases h0 : z = 0
    · subst h0
      go_wp2
      go_ret2
      exact ⟨x, 1, rfl, HX.out.1, HX.out.2, by omega, HS.out⟩
    · have h0B : (z == 0) = false := by simp; exact h0
      by_cases h12 : z = 12
      · subst h12
        go_wp2
        go_ret2
        exact ⟨x, 2, rfl, HX.out.1, HX.out.2, by omega, HS.out⟩
      · have h12B : (z == 12) = false := by simp; exact h12
        clear h0 h12
        go_wp2
        go_ret2
        exact ⟨x, 0, rfl, HX.out.1, HX.out.2, by omega, HS.out⟩
end Go.Proofs.Ythhmgbeigeagdaa
