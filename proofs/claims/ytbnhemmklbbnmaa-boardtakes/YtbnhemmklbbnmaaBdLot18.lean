/-
  TEXTS OF EARLIER ROUNDS, laid together: part 18.
  No statement is proved here.
-/
import Derived.Test.YtbnhemmklbbnmaaBdLot17
import Derived.Deep.DeepCutAuto
import Derived.Deep.CutBlock
import Derived.Test.YtbnhemmklbbnmaaBdLot11
import Derived.Laws.Bits64b
import Derived.Test.YtbnhemmklbbnmaaBdLot12

/-! ## SortPart -/
namespace Go.Proofs.Ytbnhemmklbbnmaa
open Go.RowKit Go.Sort

/-- While a range is parted: what is ahead of i is less than the first, what is behind j isn't. -/
structure PInv (d0 d : Array Nat) (a b i j N : Nat) : Prop where
  perm : PermIn a b d0 d
  size : d.size = N
  bN : b ≤ N
  ai : a < i
  ij : i ≤ j + 1
  jb : j < b
  aj : a ≤ j
  lo : ∀ t, a < t → t < i → d[t]! < d[a]!
  hi : ∀ t, j < t → t < b → ¬ d[t]! < d[a]!
theorem ltB_false {x y : Nat} (h : ltB x y = false) : ¬ x < y := by simpa [ltB] using h
theorem ltB_true {x y : Nat} (h : ltB x y = true) : x < y := by simpa [ltB] using h
section
variable {d0 d : Array Nat} {a b i j N : Nat}
theorem PInv.up (h : PInv d0 d a b i j N) (hij : i ≤ j) (hl : d[i]! < d[a]!) : PInv d0 d a b (i + 1) j N :=
  ⟨h.perm, h.size, h.bN, by have := h.ai; omega, by omega, h.jb, h.aj, fun t h1 h2 => by
    rcases Nat.lt_or_ge t i with h3 | h3
    · exact h.lo t h1 h3
    · obtain rfl : t = i := by omega
      exact hl, h.hi⟩
theorem PInv.down (h : PInv d0 d a b i j N) (hij : i ≤ j) (hl : ¬ d[j]! < d[a]!) : PInv d0 d a b i (j - 1) N :=
  ⟨h.perm, h.size, h.bN, h.ai, by have := h.ai; omega, by have := h.jb; omega, by have := h.ai; omega, h.lo, fun t h1 h2 => by
    rcases Nat.lt_or_ge j t with h3 | h3
    · exact h.hi t h3 h2
    · obtain rfl : t = j := by have := h.ai; omega
      exact hl⟩
theorem PInv.swap (h : PInv d0 d a b i j N) (hij : i ≤ j) (h1 : ¬ d[i]! < d[a]!) (h2 : d[j]! < d[a]!) : PInv d0 (swp d i j) a b (i + 1) (j - 1) N := by
  have hne : i ≠ j := fun e => by subst e; exact h1 h2
  have hai := h.ai
  have hjb := h.jb
  have hbN := h.bN
  have hsz := h.size
  have hi' : i < d.size := by omega
  have hj' : j < d.size := by omega
  have ha : (swp d i j)[a]! = d[a]! := swp_other d i j a (by omega) (by omega)
  refine ⟨permIn_trans _ _ _ _ _ h.perm (swp_permIn d a b i j (by omega) (by omega) (by omega) hjb (by omega)), by rw [size_swp]; exact hsz, hbN, by omega, by omega, by omega, by omega, fun t k1 k2 => ?_, fun t k1 k2 => ?_⟩
  · rw [ha]
    rcases Nat.lt_or_ge t i with h3 | h3
    · rw [swp_other d i j t (by omega) (by omega)]
      exact h.lo t k1 h3
    · obtain rfl : t = i := by omega
      rw [swp_left d t j hi' hne]
      exact h2
  · rw [ha]
    rcases Nat.lt_or_ge j t with h3 | h3
    · rw [swp_other d i j t (by omega) (by omega)]
      exact h.hi t h3 k2
    · obtain rfl : t = j := by omega
      rw [swp_right d i t hj']
      exact h1
theorem PInv.start {p : Nat} (hs : d.size = N) (hb : b ≤ N) (hab : a + 1 < b) (hp1 : a ≤ p) (hp2 : p < b) : PInv d (swp d a p) a b (a + 1) (b - 1) N :=
  ⟨swp_permIn d a b a p (Nat.le_refl _) (by omega) hp1 hp2 (by omega), by rw [size_swp]; exact hs, hb, by omega, by omega, by omega, by omega, fun t h1 h2 => (by omega), fun t h1 h2 => (by omega)⟩
/-- Parted: at m. -/
structure Parted (d0 d : Array Nat) (a b m N : Nat) : Prop where
  perm : PermIn a b d0 d
  size : d.size = N
  am : a ≤ m
  mb : m < b
  lo : ∀ t, a ≤ t → t < m → d[t]! < d[m]!
  hi : ∀ t, m < t → t < b → ¬ d[t]! < d[m]!
theorem PInv.done (h : PInv d0 d a b i j N) (hij : ¬ i ≤ j) : Parted d0 (swp d j a) a b j N := by
  have hai := h.ai
  have h1 := h.ij
  have hjb := h.jb
  have haj := h.aj
  have hbN := h.bN
  have hsz := h.size
  have hj' : j < d.size := by omega
  have ha' : a < d.size := by omega
  by_cases hja : j = a
  · subst hja
    have e : swp d j j = d := by
      apply Array.ext
      · rw [size_swp]
      · intro k k1 k2
        have := swp_get d hj' hj' k
        rw [getElem!_pos (swp d j j) k k1, getElem!_pos d k k2] at this
        rw [this]
        split
        · subst_vars; rw [getElem!_pos d k k2]
        · rfl
    rw [e]
    exact ⟨h.perm, hsz, Nat.le_refl _, hjb, fun t k1 k2 => (by omega), h.hi⟩
  · have hm : (swp d j a)[j]! = d[a]! := swp_left d j a hj' hja
    refine ⟨permIn_trans _ _ _ _ _ h.perm (swp_permIn d a b j a haj hjb (Nat.le_refl _) (by omega) (by omega)), by rw [size_swp]; exact hsz, haj, hjb, fun t k1 k2 => ?_, fun t k1 k2 => ?_⟩
    · rw [hm]
      rcases Nat.eq_or_lt_of_le k1 with h3 | h3
      · subst h3
        rw [swp_right d j a ha']
        exact h.lo j (by omega) (by omega)
      · rw [swp_other d j a t (by omega) (by omega)]
        exact h.lo t h3 (by omega)
    · rw [hm, swp_other d j a t (by omega) (by omega)]
      exact h.hi t k1 k2
end
/-- A scan: dk stays; up: i goes on; down: j goes on. -/
def UpRel (w0 : World) (blk off : Nat) (d0 dk : Array Nat) (a b i0 j N gk : Nat) (vi : Value) (wr : World) : Prop :=
  ∃ i : Nat, vi = .int .i64 (i : Int) ∧ i0 ≤ i ∧ j + 1 - i ≤ gk ∧ PInv d0 dk a b i j N ∧ Srt w0 blk off dk wr
def DownRel (w0 : World) (blk off : Nat) (d0 dk : Array Nat) (a b i j0 N gk : Nat) (vj : Value) (wr : World) : Prop :=
  ∃ j : Nat, vj = .int .i64 (j : Int) ∧ j ≤ j0 ∧ j + 1 - i ≤ gk ∧ PInv d0 dk a b i j N ∧ (¬ i ≤ j ∨ ¬ dk[i]! < dk[a]!) ∧ Srt w0 blk off dk wr
def UpCut (w0 : World) (blk off : Nat) (d0 dk : Array Nat) (a b i0 j N : Nat) (vi : Value) (wr : World) : Prop :=
  ∃ i : Nat, vi = .int .i64 (i : Int) ∧ i0 ≤ i ∧ PInv d0 dk a b i j N ∧ (¬ i ≤ j ∨ ¬ dk[i]! < dk[a]!) ∧ Srt w0 blk off dk wr
def DownCut (w0 : World) (blk off : Nat) (d0 dk : Array Nat) (a b i j0 N : Nat) (vj : Value) (wr : World) : Prop :=
  ∃ j : Nat, vj = .int .i64 (j : Int) ∧ j ≤ j0 ∧ PInv d0 dk a b i j N ∧ (¬ i ≤ j ∨ ¬ dk[i]! < dk[a]!) ∧ (¬ i ≤ j ∨ dk[j]! < dk[a]!) ∧ Srt w0 blk off dk wr
def SaysMid (w0 : World) (blk off : Nat) (d0 : Array Nat) (a b N : Nat) (e : Ending) (w' : World) : Prop :=
  ∃ (m : Nat) (r : Bool) (d' : Array Nat), e = .returned (.tuple #[.int .i64 (m : Int), .bool r]) ∧ Parted d0 d' a b m N ∧ Srt w0 blk off d' w'
theorem second_cell {W : World} {b x y : Nat} {u1 u2 : Value} (hx : W.cell? ⟨b, x, none⟩ = some u1) (hy : W.cell? ⟨b, y, none⟩ = some u2) (v : Value) : ∃ u, (W.setCell ⟨b, x, none⟩ v).cell? ⟨b, y, none⟩ = some u := by
  by_cases h : x = y
  · subst h
    exact ⟨v, World.cell?_setCell_same _ _ _ hx⟩
  · exact ⟨u2, (World.cell?_setCell_other _ _ _ _ (fun e => h (by injection e with _ e))).trans hy⟩
/-- The great loop: what it knows at its head; what it knows when it is left. -/
def PartRel (w0 : World) (blk off : Nat) (d0 : Array Nat) (a b N gk : Nat) (vi vj : Value) (wr : World) : Prop :=
  ∃ (i j : Nat) (dk : Array Nat), vi = .int .i64 (i : Int) ∧ vj = .int .i64 (j : Int) ∧ j + 1 - i ≤ gk ∧ PInv d0 dk a b i j N ∧ Srt w0 blk off dk wr
def PartCut (w0 : World) (blk off : Nat) (d0 : Array Nat) (a b N : Nat) (vj : Value) (wr : World) : Prop :=
  ∃ (i j : Nat) (dk : Array Nat), vj = .int .i64 (j : Int) ∧ ¬ i ≤ j ∧ PInv d0 dk a b i j N ∧ Srt w0 blk off dk wr
set_option maxRecDepth 100000 in
set_option maxHeartbeats 4000000 in
theorem part_s {w0 W : World} {blk off cap a b p N : Nat} {d : Array Nat} (h : Srt w0 blk off d W) (hN : d.size = N) (hb : b ≤ N) (hsz : N < 50) (hl : a + 1 < b) (hp1 : a ≤ p) (hp2 : p < b) :
    Calls Try.prog 80 #[.slice (some ⟨blk, off, none⟩) N cap, .int .i64 a, .int .i64 b, .int .i64 p] W (SaysMid w0 blk off d a b N) := by
  have HS := Lib.hid h
  have HSK := Lib.hid hN
  have HP0 := Lib.hid (PInv.start (d := d) hN hb hl hp1 hp2)
  obtain ⟨b1, hb1⟩ : ∃ b1, b = b1 + 1 := ⟨b - 1, by omega⟩
  have hbI : (b : Int) - 1 = (b1 : Int) := by omega
  rw [show b - 1 = b1 from by omega] at HP0
  have HB1 := Lib.hid hb1
  clear h hN
  have hci := HS.out.cell (t := a) (by rw [HSK.out]; omega)
  have hcj := HS.out.cell (t := p) (by rw [HSK.out]; omega)
  have hfi := HS.out.frz (t := a) (by rw [HSK.out]; omega)
  have hfj := HS.out.frz (t := p) (by rw [HSK.out]; omega)
  obtain ⟨u0, hu0⟩ := second_cell hci hcj (.int .u64 (((d)[p]! : Nat) : Int))
  have HSW : Hid (Srt w0 blk off (swp d a p) ((W.setCell ⟨blk, off + a, none⟩ (.int .u64 ((d[p]! : Nat) : Int))).setCell ⟨blk, off + p, none⟩ (.int .u64 ((d[a]! : Nat) : Int))).drew) := (HS.out.swap (i := a) (j := p) (by rw [HSK.out]; omega) (by rw [HSK.out]; omega)).drewN 1
  generalize hxx : (d)[a]! = x at hci hcj HSW hu0
  generalize hyy : (d)[p]! = y at hci hcj HSW hu0
  clear hxx hyy
  have hsi0 : (0 : Int) ≤ (a : Int) := by omega
  have hsj0 : (0 : Int) ≤ (p : Int) := by omega
  have hsiN : (a : Int) < (N : Int) := by omega
  have hsjN : (p : Int) < (N : Int) := by omega
  clear hb1
  go_enter Try.func80, Try.ntmps80
  go_wp2_with fail
  go_region
  clear hu0 hci hcj hfi hfj HS HSK
  obtain ⟨dk, hdk⟩ : ∃ dk, dk = swp d a p := ⟨_, rfl⟩
  rw [← hdk] at HSW HP0
  clear hdk
  generalize ((W.setCell ⟨blk, off + a, none⟩ (.int .u64 (y : Int))).setCell ⟨blk, off + p, none⟩ (.int .u64 (x : Int))).drew = w1 at *
  go_upto_block 0 with fail
  go_cut [10] (fun vi wx => UpCut w0 blk off d dk a b (a + 1) b1 N vi wx)
  case first =>
    go_wp2_with fail
    go_loopg [10] (b1 + 1 - (a + 1)) (fun gk vv wr => UpRel w0 blk off d dk a b (a + 1) b1 N gk vv wr)
    case atStart => exact ⟨a + 1, by go_num, Nat.le_refl _, Nat.le_refl _, HP0.out, HSW.out⟩
    case round =>
      obtain ⟨i, rfl, hlim, hg, hI, hS⟩ := hrel
      have HG := Lib.hid hg
      have HI := Lib.hid hI
      have HS := Lib.hid hS
      have hai := hI.ai
      have hjb := hI.jb
      have HSK := Lib.hid hI.size
      clear hg hI hS
      by_cases hij : i ≤ b1
      · have hijI : (i : Int) ≤ (b1 : Int) := by omega
        have hk0 : (0 : Int) ≤ (i : Int) := by omega
        have hkN : (i : Int) < (N : Int) := by omega
        have hk1 : (1 : Int) ≤ (b1 : Int) := by omega
        have hck := HS.out.cell (t := i) (by rw [HSK.out]; omega)
        have hca := HS.out.cell (t := a) (by rw [HSK.out]; omega)
        cases hl2 : ltB (dk)[i]! (dk)[a]!
        · have HL2 := Lib.hid hl2
          have HLT := Lib.hid (ltB_false hl2)
          clear hl2
          generalize hxx : (dk)[i]! = x at hck HL2
          generalize hyy : (dk)[a]! = y at hca HL2
          clear hxx hyy
          go_wp2_with fail
          go_quiet (first | (go_at_call 78; refine Calls.quiet_of_same (cmpLess_is _ _ _ _ HL2.out)))
          go_wp2
          go_meet
          exact ⟨i, rfl, hlim, HI.out, .inr HLT.out, HS.out.drewN nq⟩
        · have HL2 := Lib.hid hl2
          have HLT := Lib.hid (ltB_true hl2)
          clear hl2
          generalize hxx : (dk)[i]! = x at hck HL2
          generalize hyy : (dk)[a]! = y at hca HL2
          clear hxx hyy
          go_wp2_with fail
          go_quiet (first | (go_at_call 78; refine Calls.quiet_of_same (cmpLess_is _ _ _ _ HL2.out)))
          go_wp2
          go_roundg (gk - 1)
          case measure => have := HG.out; omega
          case rel => exact ⟨i + 1, by go_num, by omega, by have := HG.out; omega, HI.out.up hij HLT.out, HS.out.drewN nq⟩
      · have hijI : decide ((i : Int) ≤ (b1 : Int)) = false := by simp; omega
        have hijN : decide (i ≤ b1) = false := by simp; omega
        go_wp2_with fail
        go_quiet (fail)
        go_wp2
        go_meet
        exact ⟨i, rfl, hlim, HI.out, .inl hij, HS.out.drewN nq⟩
  case rest =>
    obtain ⟨i, rfl, hlow, hI, hst, hS⟩ := hcut
    have HI1 := Lib.hid hI
    have HS1 := Lib.hid hS
    have HST1 := Lib.hid hst
    clear hI hS hst HSW HP0
    go_upto_block 2 with fail
    go_cut [11] (fun vj wx => DownCut w0 blk off d dk a b i b1 N vj wx)
    case first =>
      go_wp2_with fail
      go_loopg [11] (b1 + 1 - i) (fun gk vv wr => DownRel w0 blk off d dk a b i (b1) N gk vv wr)
      case atStart => exact ⟨b1, rfl, Nat.le_refl _, Nat.le_refl _, HI1.out, HST1.out, HS1.out⟩
      case round =>
        obtain ⟨j, rfl, hlim, hg, hI, hst, hS⟩ := hrel
        have HG := Lib.hid hg
        have HI := Lib.hid hI
        have HS := Lib.hid hS
        have hai := hI.ai
        have hjb := hI.jb
        have HSK := Lib.hid hI.size
        clear hg hI hS
        by_cases hij : i ≤ j
        · have hijI : (i : Int) ≤ (j : Int) := by omega
          have hk0 : (0 : Int) ≤ (j : Int) := by omega
          have hkN : (j : Int) < (N : Int) := by omega
          have hk1 : (1 : Int) ≤ (j : Int) := by omega
          have hck := HS.out.cell (t := j) (by rw [HSK.out]; omega)
          have hca := HS.out.cell (t := a) (by rw [HSK.out]; omega)
          cases hl2 : ltB (dk)[j]! (dk)[a]!
          · have HL2 := Lib.hid hl2
            have HLT := Lib.hid (ltB_false hl2)
            clear hl2
            generalize hxx : (dk)[j]! = x at hck HL2
            generalize hyy : (dk)[a]! = y at hca HL2
            clear hxx hyy
            go_wp2_with fail
            go_quiet (first | (go_at_call 78; refine Calls.quiet_of_same (cmpLess_is _ _ _ _ HL2.out)))
            go_wp2
            go_roundg (gk - 1)
            case measure => have := HG.out; omega
            case rel => exact ⟨j - 1, by congr 1; omega, by omega, by have := HG.out; omega, HI.out.down hij HLT.out, hst.elim (fun h => .inl (by omega)) .inr, HS.out.drewN nq⟩
          · have HL2 := Lib.hid hl2
            have HLT := Lib.hid (ltB_true hl2)
            clear hl2
            generalize hxx : (dk)[j]! = x at hck HL2
            generalize hyy : (dk)[a]! = y at hca HL2
            clear hxx hyy
            go_wp2_with fail
            go_quiet (first | (go_at_call 78; refine Calls.quiet_of_same (cmpLess_is _ _ _ _ HL2.out)))
            go_wp2
            go_meet
            exact ⟨j, rfl, hlim, HI.out, hst, .inr HLT.out, HS.out.drewN nq⟩
        · have hijI : decide ((i : Int) ≤ (j : Int)) = false := by simp; omega
          have hijN : decide (i ≤ j) = false := by simp; omega
          go_wp2_with fail
          go_quiet (fail)
          go_wp2
          go_meet
          exact ⟨j, rfl, hlim, HI.out, .inl hij, .inl hij, HS.out.drewN nq⟩
    case rest =>
      obtain ⟨j, rfl, hup, hI, hst, hsd, hS⟩ := hcut
      have HI2 := Lib.hid hI
      have HS2 := Lib.hid hS
      have HSK2 := Lib.hid hI.size
      have hai := hI.ai
      have hjb := hI.jb
      have haj := hI.aj
      clear hI hS HS1 HI1 HST1
      by_cases hgt : i ≤ j
      · have hgtI : ¬ (j : Int) < (i : Int) := by omega
        have hgtJ : (i : Int) ≤ (j : Int) := by omega
        have hci := HS2.out.cell (t := i) (by rw [HSK2.out]; omega)
        have hcj := HS2.out.cell (t := j) (by rw [HSK2.out]; omega)
        have hfi := HS2.out.frz (t := i) (by rw [HSK2.out]; omega)
        have hfj := HS2.out.frz (t := j) (by rw [HSK2.out]; omega)
        obtain ⟨u0, hu0⟩ := second_cell hci hcj (.int .u64 (((dk)[j]! : Nat) : Int))
        have HSW : Hid (Srt w0 blk off (swp dk i j) ((wc.setCell ⟨blk, off + i, none⟩ (.int .u64 ((dk[j]! : Nat) : Int))).setCell ⟨blk, off + j, none⟩ (.int .u64 ((dk[i]! : Nat) : Int))).drew) := (HS2.out.swap (i := i) (j := j) (by rw [HSK2.out]; omega) (by rw [HSK2.out]; omega)).drewN 1
        generalize hxx : (dk)[i]! = x at hci hcj HSW hu0
        generalize hyy : (dk)[j]! = y at hci hcj HSW hu0
        clear hxx hyy
        have hsi0 : (0 : Int) ≤ (i : Int) := by omega
        have hsj0 : (0 : Int) ≤ (j : Int) := by omega
        have hsiN : (i : Int) < (N : Int) := by omega
        have hsjN : (j : Int) < (N : Int) := by omega
        have HI3 := Lib.hid (HI2.out.swap hgt (hst.elim (fun h => absurd hgt h) id) (hsd.elim (fun h => absurd hgt h) id))
        have hj1 : (1 : Int) ≤ (j : Int) := by omega
        clear hst hsd
        go_wp2_with fail
        go_region
        clear hu0 hci hcj hfi hfj HS2 HSK2 HI2
        obtain ⟨dl, hdl⟩ : ∃ dl, dl = swp dk i j := ⟨_, rfl⟩
        rw [← hdl] at HSW HI3
        clear hdl
        generalize ((wc.setCell ⟨blk, off + i, none⟩ (.int .u64 (y : Int))).setCell ⟨blk, off + j, none⟩ (.int .u64 (x : Int))).drew = w2 at *
        obtain ⟨i1, hi1⟩ : ∃ i1, i1 = i + 1 := ⟨_, rfl⟩
        obtain ⟨j1, hj1'⟩ : ∃ j1, j1 = j - 1 := ⟨_, rfl⟩
        rw [← hi1, ← hj1'] at HI3
        have hi1I : (i : Int) + 1 = (i1 : Int) := by omega
        have hj1I : (j : Int) - 1 = (j1 : Int) := by omega
        clear hi1 hj1'
        go_upto_block 4 with fail
        go_cut [11] (fun vj wx => PartCut w0 blk off d a b N vj wx)
        case first =>
          go_wp2_with fail
          go_loopg [10, 11] (j1 + 1 - i1) (fun gk vi vj wr => PartRel w0 blk off d a b N gk vi vj wr)
          case atStart => exact ⟨i1, j1, dl, rfl, rfl, Nat.le_refl _, HI3.out, HSW.out⟩
          case round =>
            clear HSW HI3
            obtain ⟨i, j, dk, rfl, rfl, hg, hI, hS⟩ := hrel
            have HG0 := Lib.hid hg
            have HI1 := Lib.hid hI
            have HS1 := Lib.hid hS
            clear hg hI hS
            go_upto_block 6 with fail
            go_cut [10] from 99 to 152 (fun vi wx => UpCut w0 blk off d dk a b i j N vi wx)
            case first =>
              go_wp2_with fail
              go_loopg [10] (j + 1 - i) (fun gk vv wr => UpRel w0 blk off d dk a b (i) j N gk vv wr)
              case atStart => exact ⟨i, rfl, Nat.le_refl _, Nat.le_refl _, HI1.out, HS1.out⟩
              case round =>
                obtain ⟨i, rfl, hlim, hg, hI, hS⟩ := hrel
                have HG := Lib.hid hg
                have HI := Lib.hid hI
                have HS := Lib.hid hS
                have hai := hI.ai
                have hjb := hI.jb
                have HSK := Lib.hid hI.size
                clear hg hI hS
                by_cases hij : i ≤ j
                · have hijI : (i : Int) ≤ (j : Int) := by omega
                  have hk0 : (0 : Int) ≤ (i : Int) := by omega
                  have hkN : (i : Int) < (N : Int) := by omega
                  have hk1 : (1 : Int) ≤ (j : Int) := by omega
                  have hck := HS.out.cell (t := i) (by rw [HSK.out]; omega)
                  have hca := HS.out.cell (t := a) (by rw [HSK.out]; omega)
                  cases hl2 : ltB (dk)[i]! (dk)[a]!
                  · have HL2 := Lib.hid hl2
                    have HLT := Lib.hid (ltB_false hl2)
                    clear hl2
                    generalize hxx : (dk)[i]! = x at hck HL2
                    generalize hyy : (dk)[a]! = y at hca HL2
                    clear hxx hyy
                    go_wp2_with fail
                    go_quiet (first | (go_at_call 78; refine Calls.quiet_of_same (cmpLess_is _ _ _ _ HL2.out)))
                    go_wp2
                    go_meet
                    exact ⟨i, rfl, hlim, HI.out, .inr HLT.out, HS.out.drewN nq⟩
                  · have HL2 := Lib.hid hl2
                    have HLT := Lib.hid (ltB_true hl2)
                    clear hl2
                    generalize hxx : (dk)[i]! = x at hck HL2
                    generalize hyy : (dk)[a]! = y at hca HL2
                    clear hxx hyy
                    go_wp2_with fail
                    go_quiet (first | (go_at_call 78; refine Calls.quiet_of_same (cmpLess_is _ _ _ _ HL2.out)))
                    go_wp2
                    go_roundg (gk - 1)
                    case measure => have := HG.out; omega
                    case rel => exact ⟨i + 1, by go_num, by omega, by have := HG.out; omega, HI.out.up hij HLT.out, HS.out.drewN nq⟩
                · have hijI : decide ((i : Int) ≤ (j : Int)) = false := by simp; omega
                  have hijN : decide (i ≤ j) = false := by simp; omega
                  go_wp2_with fail
                  go_quiet (fail)
                  go_wp2
                  go_meet
                  exact ⟨i, rfl, hlim, HI.out, .inl hij, HS.out.drewN nq⟩
            case rest =>
              obtain ⟨i, rfl, hlow, hI, hst, hS⟩ := hcut
              have hge := hI.ij
              have HI1' := Lib.hid hI
              have HS1' := Lib.hid hS
              have HST1 := Lib.hid hst
              clear hI hS hst HS1
              have HG1 : Hid (j + 1 - i ≤ gk) := by have := HG0.out; show _ ≤ _; omega
              go_upto_block 8 with fail
              go_cut [11] from 99 to 152 (fun vj wx => DownCut w0 blk off d dk a b i j N vj wx)
              case first =>
                go_wp2_with fail
                go_loopg [11] (j + 1 - i) (fun gk vv wr => DownRel w0 blk off d dk a b i (j) N gk vv wr)
                case atStart => exact ⟨j, rfl, Nat.le_refl _, Nat.le_refl _, HI1'.out, HST1.out, HS1'.out⟩
                case round =>
                  obtain ⟨j, rfl, hlim, hg, hI, hst, hS⟩ := hrel
                  have HG := Lib.hid hg
                  have HI := Lib.hid hI
                  have HS := Lib.hid hS
                  have hai := hI.ai
                  have hjb := hI.jb
                  have HSK := Lib.hid hI.size
                  clear hg hI hS
                  by_cases hij : i ≤ j
                  · have hijI : (i : Int) ≤ (j : Int) := by omega
                    have hk0 : (0 : Int) ≤ (j : Int) := by omega
                    have hkN : (j : Int) < (N : Int) := by omega
                    have hk1 : (1 : Int) ≤ (j : Int) := by omega
                    have hck := HS.out.cell (t := j) (by rw [HSK.out]; omega)
                    have hca := HS.out.cell (t := a) (by rw [HSK.out]; omega)
                    cases hl2 : ltB (dk)[j]! (dk)[a]!
                    · have HL2 := Lib.hid hl2
                      have HLT := Lib.hid (ltB_false hl2)
                      clear hl2
                      generalize hxx : (dk)[j]! = x at hck HL2
                      generalize hyy : (dk)[a]! = y at hca HL2
                      clear hxx hyy
                      go_wp2_with fail
                      go_quiet (first | (go_at_call 78; refine Calls.quiet_of_same (cmpLess_is _ _ _ _ HL2.out)))
                      go_wp2
                      go_roundg (gk - 1)
                      case measure => have := HG.out; omega
                      case rel => exact ⟨j - 1, by congr 1; omega, by omega, by have := HG.out; omega, HI.out.down hij HLT.out, hst.elim (fun h => .inl (by omega)) .inr, HS.out.drewN nq⟩
                    · have HL2 := Lib.hid hl2
                      have HLT := Lib.hid (ltB_true hl2)
                      clear hl2
                      generalize hxx : (dk)[j]! = x at hck HL2
                      generalize hyy : (dk)[a]! = y at hca HL2
                      clear hxx hyy
                      go_wp2_with fail
                      go_quiet (first | (go_at_call 78; refine Calls.quiet_of_same (cmpLess_is _ _ _ _ HL2.out)))
                      go_wp2
                      go_meet
                      exact ⟨j, rfl, hlim, HI.out, hst, .inr HLT.out, HS.out.drewN nq⟩
                  · have hijI : decide ((i : Int) ≤ (j : Int)) = false := by simp; omega
                    have hijN : decide (i ≤ j) = false := by simp; omega
                    go_wp2_with fail
                    go_quiet (fail)
                    go_wp2
                    go_meet
                    exact ⟨j, rfl, hlim, HI.out, .inl hij, .inl hij, HS.out.drewN nq⟩
              case rest =>
                obtain ⟨j, rfl, hup, hI, hst, hsd, hS⟩ := hcut
                have HI2 := Lib.hid hI
                have HS2 := Lib.hid hS
                have HSK2 := Lib.hid hI.size
                have hai := hI.ai
                have hjb := hI.jb
                have haj := hI.aj
                clear hI hS HS1' HST1
                by_cases hgt : i ≤ j
                · have hgtI : ¬ (j : Int) < (i : Int) := by omega
                  have hgtJ : (i : Int) ≤ (j : Int) := by omega
                  have hci := HS2.out.cell (t := i) (by rw [HSK2.out]; omega)
                  have hcj := HS2.out.cell (t := j) (by rw [HSK2.out]; omega)
                  have hfi := HS2.out.frz (t := i) (by rw [HSK2.out]; omega)
                  have hfj := HS2.out.frz (t := j) (by rw [HSK2.out]; omega)
                  obtain ⟨u0, hu0⟩ := second_cell hci hcj (.int .u64 (((dk)[j]! : Nat) : Int))
                  have HSW : Hid (Srt w0 blk off (swp dk i j) ((wc.setCell ⟨blk, off + i, none⟩ (.int .u64 ((dk[j]! : Nat) : Int))).setCell ⟨blk, off + j, none⟩ (.int .u64 ((dk[i]! : Nat) : Int))).drew) := (HS2.out.swap (i := i) (j := j) (by rw [HSK2.out]; omega) (by rw [HSK2.out]; omega)).drewN 1
                  generalize hxx : (dk)[i]! = x at hci hcj HSW hu0
                  generalize hyy : (dk)[j]! = y at hci hcj HSW hu0
                  clear hxx hyy
                  have hsi0 : (0 : Int) ≤ (i : Int) := by omega
                  have hsj0 : (0 : Int) ≤ (j : Int) := by omega
                  have hsiN : (i : Int) < (N : Int) := by omega
                  have hsjN : (j : Int) < (N : Int) := by omega
                  have HI3 := Lib.hid (HI2.out.swap hgt (hst.elim (fun h => absurd hgt h) id) (hsd.elim (fun h => absurd hgt h) id))
                  have hj1 : (1 : Int) ≤ (j : Int) := by omega
                  clear hst hsd
                  go_wp2_with fail
                  go_region
                  clear hu0 hci hcj hfi hfj HS2 HSK2 HI2
                  go_wp2
                  go_roundg (gk - 1)
                  case measure => have := HG1.out; omega
                  case rel => exact ⟨i + 1, j - 1, swp dk i j, by go_num, by congr 1; omega, by have := HG1.out; omega, HI3.out, HSW.out⟩
                · have hgtI : (j : Int) < (i : Int) := by omega
                  clear hst hsd
                  go_wp2_with fail
                  go_meet
                  exact ⟨i, j, dk, rfl, hgt, HI2.out, HS2.out⟩
        case rest =>
          obtain ⟨i, j, dk, rfl, hgt, hI, hS⟩ := hcut
          have HI2 := Lib.hid hI
          have HS2 := Lib.hid hS
          have HSK2 := Lib.hid hI.size
          have hai := hI.ai
          have hjb := hI.jb
          have haj := hI.aj
          clear hI hS HSW HI3
          have hci := HS2.out.cell (t := j) (by rw [HSK2.out]; omega)
          have hcj := HS2.out.cell (t := a) (by rw [HSK2.out]; omega)
          have hfi := HS2.out.frz (t := j) (by rw [HSK2.out]; omega)
          have hfj := HS2.out.frz (t := a) (by rw [HSK2.out]; omega)
          obtain ⟨u0, hu0⟩ := second_cell hci hcj (.int .u64 (((dk)[a]! : Nat) : Int))
          have HSW : Hid (Srt w0 blk off (swp dk j a) ((wc.setCell ⟨blk, off + j, none⟩ (.int .u64 ((dk[a]! : Nat) : Int))).setCell ⟨blk, off + a, none⟩ (.int .u64 ((dk[j]! : Nat) : Int))).drew) := (HS2.out.swap (i := j) (j := a) (by rw [HSK2.out]; omega) (by rw [HSK2.out]; omega)).drewN 1
          generalize hxx : (dk)[j]! = x at hci hcj HSW hu0
          generalize hyy : (dk)[a]! = y at hci hcj HSW hu0
          clear hxx hyy
          have hsi0 : (0 : Int) ≤ (j : Int) := by omega
          have hsj0 : (0 : Int) ≤ (a : Int) := by omega
          have hsiN : (j : Int) < (N : Int) := by omega
          have hsjN : (a : Int) < (N : Int) := by omega
          have HD := Lib.hid (HI2.out.done hgt)
          go_wp2_with fail
          go_region
          clear hu0 hci hcj hfi hfj
          go_wp2
          go_ret2
          exact ⟨j, false, _, rfl, HD.out, HSW.out⟩
      · have hgtI : (j : Int) < (i : Int) := by omega
        clear hst hsd
        have hci := HS2.out.cell (t := j) (by rw [HSK2.out]; omega)
        have hcj := HS2.out.cell (t := a) (by rw [HSK2.out]; omega)
        have hfi := HS2.out.frz (t := j) (by rw [HSK2.out]; omega)
        have hfj := HS2.out.frz (t := a) (by rw [HSK2.out]; omega)
        obtain ⟨u0, hu0⟩ := second_cell hci hcj (.int .u64 (((dk)[a]! : Nat) : Int))
        have HSW : Hid (Srt w0 blk off (swp dk j a) ((wc.setCell ⟨blk, off + j, none⟩ (.int .u64 ((dk[a]! : Nat) : Int))).setCell ⟨blk, off + a, none⟩ (.int .u64 ((dk[j]! : Nat) : Int))).drew) := (HS2.out.swap (i := j) (j := a) (by rw [HSK2.out]; omega) (by rw [HSK2.out]; omega)).drewN 1
        generalize hxx : (dk)[j]! = x at hci hcj HSW hu0
        generalize hyy : (dk)[a]! = y at hci hcj HSW hu0
        clear hxx hyy
        have hsi0 : (0 : Int) ≤ (j : Int) := by omega
        have hsj0 : (0 : Int) ≤ (a : Int) := by omega
        have hsiN : (j : Int) < (N : Int) := by omega
        have hsjN : (a : Int) < (N : Int) := by omega
        have HD := Lib.hid (HI2.out.done hgt)
        go_wp2_with fail
        go_region
        clear hu0 hci hcj hfi hfj
        go_wp2
        go_ret2
        exact ⟨j, true, _, rfl, HD.out, HSW.out⟩
end Go.Proofs.Ytbnhemmklbbnmaa

/-! ## SortEqual -/
namespace Go.Proofs.Ytbnhemmklbbnmaa
open Go.RowKit Go.Sort

/-- While a range is parted: what is ahead of i isn't above the first, what is behind j is. -/
structure QInv (d0 d : Array Nat) (a b i j N p : Nat) : Prop where
  perm : PermIn a b d0 d
  size : d.size = N
  bN : b ≤ N
  ai : a < i
  ij : i ≤ j + 1
  jb : j < b
  aj : a ≤ j
  pv : d[a]! = d0[p]!
  lo : ∀ t, a ≤ t → t < i → ¬ d[a]! < d[t]!
  hi : ∀ t, j < t → t < b → d[a]! < d[t]!
section
variable {d0 d : Array Nat} {a b i j N p : Nat}
theorem QInv.up (h : QInv d0 d a b i j N p) (hij : i ≤ j) (hl : ¬ d[a]! < d[i]!) : QInv d0 d a b (i + 1) j N p :=
  ⟨h.perm, h.size, h.bN, by have := h.ai; omega, by omega, h.jb, h.aj, h.pv, fun t h1 h2 => by
    rcases Nat.lt_or_ge t i with h3 | h3
    · exact h.lo t h1 h3
    · obtain rfl : t = i := by omega
      exact hl, h.hi⟩
theorem QInv.down (h : QInv d0 d a b i j N p) (hij : i ≤ j) (hl : d[a]! < d[j]!) : QInv d0 d a b i (j - 1) N p :=
  ⟨h.perm, h.size, h.bN, h.ai, by have := h.ai; omega, by have := h.jb; omega, by have := h.ai; omega, h.pv, h.lo, fun t h1 h2 => by
    rcases Nat.lt_or_ge j t with h3 | h3
    · exact h.hi t h3 h2
    · obtain rfl : t = j := by have := h.ai; omega
      exact hl⟩
theorem QInv.swap (h : QInv d0 d a b i j N p) (hij : i ≤ j) (h1 : d[a]! < d[i]!) (h2 : ¬ d[a]! < d[j]!) : QInv d0 (swp d i j) a b (i + 1) (j - 1) N p := by
  have hne : i ≠ j := fun e => by subst e; exact h2 h1
  have hai := h.ai
  have hjb := h.jb
  have hbN := h.bN
  have hsz := h.size
  have hi' : i < d.size := by omega
  have hj' : j < d.size := by omega
  have ha : (swp d i j)[a]! = d[a]! := swp_other d i j a (by omega) (by omega)
  refine ⟨permIn_trans _ _ _ _ _ h.perm (swp_permIn d a b i j (by omega) (by omega) (by omega) hjb (by omega)), by rw [size_swp]; exact hsz, hbN, by omega, by omega, by omega, by omega, ha.trans h.pv, fun t k1 k2 => ?_, fun t k1 k2 => ?_⟩
  · rw [ha]
    rcases Nat.lt_or_ge t i with h3 | h3
    · rw [swp_other d i j t (by omega) (by omega)]
      exact h.lo t k1 h3
    · obtain rfl : t = i := by omega
      rw [swp_left d t j hi' hne]
      exact h2
  · rw [ha]
    rcases Nat.lt_or_ge j t with h3 | h3
    · rw [swp_other d i j t (by omega) (by omega)]
      exact h.hi t h3 k2
    · obtain rfl : t = j := by omega
      rw [swp_right d i t hj']
      exact h1
theorem QInv.start (hs : d.size = N) (hb : b ≤ N) (hab : a + 1 < b) (hp1 : a ≤ p) (hp2 : p < b) : QInv d (swp d a p) a b (a + 1) (b - 1) N p :=
  ⟨swp_permIn d a b a p (Nat.le_refl _) (by omega) hp1 hp2 (by omega), by rw [size_swp]; exact hs, hb, by omega, by omega, by omega, by omega, by rw [swp_get d (by omega) (by omega) a]; by_cases e : a = p <;> simp_all, fun t h1 h2 => ((show t = a by omega) ▸ Nat.lt_irrefl _), fun t h1 h2 => (by omega)⟩
/-- Parted at m: what is ahead of m isn't above the first, what is from m on is. -/
structure PartedE (d0 d : Array Nat) (a b m N p : Nat) : Prop where
  perm : PermIn a b d0 d
  size : d.size = N
  am : a < m
  mb : m ≤ b
  pv : d[a]! = d0[p]!
  lo : ∀ t, a ≤ t → t < m → ¬ d[a]! < d[t]!
  hi : ∀ t, m ≤ t → t < b → d[a]! < d[t]!
theorem QInv.done (h : QInv d0 d a b i j N p) (hij : ¬ i ≤ j) : PartedE d0 d a b i N p :=
  ⟨h.perm, h.size, h.ai, by have := h.ij; have := h.jb; omega, h.pv, h.lo, fun t h1 h2 => h.hi t (by omega) h2⟩
end
def UpRelE (w0 : World) (blk off : Nat) (d0 dk : Array Nat) (p a b i0 j N gk : Nat) (vi : Value) (wr : World) : Prop :=
  ∃ i : Nat, vi = .int .i64 (i : Int) ∧ i0 ≤ i ∧ j + 1 - i ≤ gk ∧ QInv d0 dk a b i j N p ∧ Srt w0 blk off dk wr
def DownRelE (w0 : World) (blk off : Nat) (d0 dk : Array Nat) (p a b i j0 N gk : Nat) (vj : Value) (wr : World) : Prop :=
  ∃ j : Nat, vj = .int .i64 (j : Int) ∧ j ≤ j0 ∧ j + 1 - i ≤ gk ∧ QInv d0 dk a b i j N p ∧ (¬ i ≤ j ∨ dk[a]! < dk[i]!) ∧ Srt w0 blk off dk wr
def UpCutE (w0 : World) (blk off : Nat) (d0 dk : Array Nat) (p a b i0 j N : Nat) (vi : Value) (wr : World) : Prop :=
  ∃ i : Nat, vi = .int .i64 (i : Int) ∧ i0 ≤ i ∧ QInv d0 dk a b i j N p ∧ (¬ i ≤ j ∨ dk[a]! < dk[i]!) ∧ Srt w0 blk off dk wr
def DownCutE (w0 : World) (blk off : Nat) (d0 dk : Array Nat) (p a b i j0 N : Nat) (vj : Value) (wr : World) : Prop :=
  ∃ j : Nat, vj = .int .i64 (j : Int) ∧ j ≤ j0 ∧ QInv d0 dk a b i j N p ∧ (¬ i ≤ j ∨ dk[a]! < dk[i]!) ∧ (¬ i ≤ j ∨ ¬ dk[a]! < dk[j]!) ∧ Srt w0 blk off dk wr
def SaysEqual (w0 : World) (blk off : Nat) (d0 : Array Nat) (p a b N : Nat) (e : Ending) (w' : World) : Prop :=
  ∃ (m : Nat) (d' : Array Nat), e = .returned (.int .i64 (m : Int)) ∧ PartedE d0 d' a b m N p ∧ Srt w0 blk off d' w'
def PartRelE (w0 : World) (blk off : Nat) (d0 : Array Nat) (p a b N gk : Nat) (vi vj : Value) (wr : World) : Prop :=
  ∃ (i j : Nat) (dk : Array Nat), vi = .int .i64 (i : Int) ∧ vj = .int .i64 (j : Int) ∧ j + 1 - i ≤ gk ∧ QInv d0 dk a b i j N p ∧ Srt w0 blk off dk wr
set_option maxRecDepth 100000 in
set_option maxHeartbeats 4000000 in
theorem equal_s {w0 W : World} {blk off cap a b p N : Nat} {d : Array Nat} (h : Srt w0 blk off d W) (hN : d.size = N) (hb : b ≤ N) (hsz : N < 50) (hl : a + 1 < b) (hp1 : a ≤ p) (hp2 : p < b) :
    Calls Try.prog 79 #[.slice (some ⟨blk, off, none⟩) N cap, .int .i64 a, .int .i64 b, .int .i64 p] W (SaysEqual w0 blk off d p a b N) := by
  have HS := Lib.hid h
  have HSK := Lib.hid hN
  have HP0 := Lib.hid (QInv.start (d := d) hN hb hl hp1 hp2)
  obtain ⟨b1, hb1⟩ : ∃ b1, b = b1 + 1 := ⟨b - 1, by omega⟩
  have hbI : (b : Int) - 1 = (b1 : Int) := by omega
  rw [show b - 1 = b1 from by omega] at HP0
  have HB1 := Lib.hid hb1
  clear h hN
  have hci := HS.out.cell (t := a) (by rw [HSK.out]; omega)
  have hcj := HS.out.cell (t := p) (by rw [HSK.out]; omega)
  have hfi := HS.out.frz (t := a) (by rw [HSK.out]; omega)
  have hfj := HS.out.frz (t := p) (by rw [HSK.out]; omega)
  obtain ⟨u0, hu0⟩ := second_cell hci hcj (.int .u64 (((d)[p]! : Nat) : Int))
  have HSW : Hid (Srt w0 blk off (swp d a p) ((W.setCell ⟨blk, off + a, none⟩ (.int .u64 ((d[p]! : Nat) : Int))).setCell ⟨blk, off + p, none⟩ (.int .u64 ((d[a]! : Nat) : Int))).drew) := (HS.out.swap (i := a) (j := p) (by rw [HSK.out]; omega) (by rw [HSK.out]; omega)).drewN 1
  generalize hxx : (d)[a]! = x at hci hcj HSW hu0
  generalize hyy : (d)[p]! = y at hci hcj HSW hu0
  clear hxx hyy
  have hsi0 : (0 : Int) ≤ (a : Int) := by omega
  have hsj0 : (0 : Int) ≤ (p : Int) := by omega
  have hsiN : (a : Int) < (N : Int) := by omega
  have hsjN : (p : Int) < (N : Int) := by omega
  clear hb1
  go_enter Try.func79, Try.ntmps79
  go_wp2_with fail
  go_region
  clear hu0 hci hcj hfi hfj HS HSK
  obtain ⟨dk, hdk⟩ : ∃ dk, dk = swp d a p := ⟨_, rfl⟩
  rw [← hdk] at HSW HP0
  clear hdk
  generalize ((W.setCell ⟨blk, off + a, none⟩ (.int .u64 (y : Int))).setCell ⟨blk, off + p, none⟩ (.int .u64 (x : Int))).drew = w1 at *
  go_wp2_with fail
  go_loopg [9, 10] (b1 + 1 - (a + 1)) (fun gk vi vj wr => PartRelE w0 blk off d p a b N gk vi vj wr)
  case atStart => exact ⟨a + 1, b1, dk, by go_num, rfl, Nat.le_refl _, HP0.out, HSW.out⟩
  case round =>
    clear HSW HP0
    obtain ⟨i, j, dk, rfl, rfl, hg, hI, hS⟩ := hrel
    have HG0 := Lib.hid hg
    have HI1 := Lib.hid hI
    have HS1 := Lib.hid hS
    clear hg hI hS
    go_upto_block 2 with fail
    go_cut [9] from 29 to 82 (fun vi wx => UpCutE w0 blk off d dk p a b i j N vi wx)
    case first =>
      go_wp2_with fail
      go_loopg [9] (j + 1 - i) (fun gk vv wr => UpRelE w0 blk off d dk p a b (i) j N gk vv wr)
      case atStart => exact ⟨i, rfl, Nat.le_refl _, Nat.le_refl _, HI1.out, HS1.out⟩
      case round =>
        obtain ⟨i, rfl, hlim, hg, hI, hS⟩ := hrel
        have HG := Lib.hid hg
        have HI := Lib.hid hI
        have HS := Lib.hid hS
        have hai := hI.ai
        have hjb := hI.jb
        have HSK := Lib.hid hI.size
        clear hg hI hS
        by_cases hij : i ≤ j
        · have hijI : (i : Int) ≤ (j : Int) := by omega
          have hk0 : (0 : Int) ≤ (i : Int) := by omega
          have hkN : (i : Int) < (N : Int) := by omega
          have hk1 : (1 : Int) ≤ (j : Int) := by omega
          have hck := HS.out.cell (t := i) (by rw [HSK.out]; omega)
          have hca := HS.out.cell (t := a) (by rw [HSK.out]; omega)
          cases hl2 : ltB (dk)[a]! (dk)[i]!
          · have HL2 := Lib.hid hl2
            have HLT := Lib.hid (ltB_false hl2)
            clear hl2
            generalize hxx : (dk)[i]! = x at hck HL2
            generalize hyy : (dk)[a]! = y at hca HL2
            clear hxx hyy
            go_wp2_with fail
            go_quiet (first | (go_at_call 78; refine Calls.quiet_of_same (cmpLess_is _ _ _ _ HL2.out)))
            go_wp2
            go_roundg (gk - 1)
            case measure => have := HG.out; omega
            case rel => exact ⟨i + 1, by go_num, by omega, by have := HG.out; omega, HI.out.up hij HLT.out, HS.out.drewN nq⟩
          · have HL2 := Lib.hid hl2
            have HLT := Lib.hid (ltB_true hl2)
            clear hl2
            generalize hxx : (dk)[i]! = x at hck HL2
            generalize hyy : (dk)[a]! = y at hca HL2
            clear hxx hyy
            go_wp2_with fail
            go_quiet (first | (go_at_call 78; refine Calls.quiet_of_same (cmpLess_is _ _ _ _ HL2.out)))
            go_wp2
            go_meet
            exact ⟨i, rfl, hlim, HI.out, .inr HLT.out, HS.out.drewN nq⟩
        · have hijI : decide ((i : Int) ≤ (j : Int)) = false := by simp; omega
          have hijN : decide (i ≤ j) = false := by simp; omega
          go_wp2_with fail
          go_quiet (fail)
          go_wp2
          go_meet
          exact ⟨i, rfl, hlim, HI.out, .inl hij, HS.out.drewN nq⟩
    case rest =>
      obtain ⟨i, rfl, hlow, hI, hst, hS⟩ := hcut
      have hge := hI.ij
      have HI1' := Lib.hid hI
      have HS1' := Lib.hid hS
      have HST1 := Lib.hid hst
      clear hI hS hst HS1
      have HG1 : Hid (j + 1 - i ≤ gk) := by have := HG0.out; show _ ≤ _; omega
      go_upto_block 4 with fail
      go_cut [10] from 29 to 82 (fun vj wx => DownCutE w0 blk off d dk p a b i j N vj wx)
      case first =>
        go_wp2_with fail
        go_loopg [10] (j + 1 - i) (fun gk vv wr => DownRelE w0 blk off d dk p a b i (j) N gk vv wr)
        case atStart => exact ⟨j, rfl, Nat.le_refl _, Nat.le_refl _, HI1'.out, HST1.out, HS1'.out⟩
        case round =>
          obtain ⟨j, rfl, hlim, hg, hI, hst, hS⟩ := hrel
          have HG := Lib.hid hg
          have HI := Lib.hid hI
          have HS := Lib.hid hS
          have hai := hI.ai
          have hjb := hI.jb
          have HSK := Lib.hid hI.size
          clear hg hI hS
          by_cases hij : i ≤ j
          · have hijI : (i : Int) ≤ (j : Int) := by omega
            have hk0 : (0 : Int) ≤ (j : Int) := by omega
            have hkN : (j : Int) < (N : Int) := by omega
            have hk1 : (1 : Int) ≤ (j : Int) := by omega
            have hck := HS.out.cell (t := j) (by rw [HSK.out]; omega)
            have hca := HS.out.cell (t := a) (by rw [HSK.out]; omega)
            cases hl2 : ltB (dk)[a]! (dk)[j]!
            · have HL2 := Lib.hid hl2
              have HLT := Lib.hid (ltB_false hl2)
              clear hl2
              generalize hxx : (dk)[j]! = x at hck HL2
              generalize hyy : (dk)[a]! = y at hca HL2
              clear hxx hyy
              go_wp2_with fail
              go_quiet (first | (go_at_call 78; refine Calls.quiet_of_same (cmpLess_is _ _ _ _ HL2.out)))
              go_wp2
              go_meet
              exact ⟨j, rfl, hlim, HI.out, hst, .inr HLT.out, HS.out.drewN nq⟩
            · have HL2 := Lib.hid hl2
              have HLT := Lib.hid (ltB_true hl2)
              clear hl2
              generalize hxx : (dk)[j]! = x at hck HL2
              generalize hyy : (dk)[a]! = y at hca HL2
              clear hxx hyy
              go_wp2_with fail
              go_quiet (first | (go_at_call 78; refine Calls.quiet_of_same (cmpLess_is _ _ _ _ HL2.out)))
              go_wp2
              go_roundg (gk - 1)
              case measure => have := HG.out; omega
              case rel => exact ⟨j - 1, by congr 1; omega, by omega, by have := HG.out; omega, HI.out.down hij HLT.out, hst.elim (fun h => .inl (by omega)) .inr, HS.out.drewN nq⟩
          · have hijI : decide ((i : Int) ≤ (j : Int)) = false := by simp; omega
            have hijN : decide (i ≤ j) = false := by simp; omega
            go_wp2_with fail
            go_quiet (fail)
            go_wp2
            go_meet
            exact ⟨j, rfl, hlim, HI.out, .inl hij, .inl hij, HS.out.drewN nq⟩
      case rest =>
        obtain ⟨j, rfl, hup, hI, hst, hsd, hS⟩ := hcut
        have HI2 := Lib.hid hI
        have HS2 := Lib.hid hS
        have HSK2 := Lib.hid hI.size
        have hai := hI.ai
        have hjb := hI.jb
        have haj := hI.aj
        clear hI hS HS1' HST1
        by_cases hgt : i ≤ j
        · have hgtI : ¬ (j : Int) < (i : Int) := by omega
          have hgtJ : (i : Int) ≤ (j : Int) := by omega
          have hci := HS2.out.cell (t := i) (by rw [HSK2.out]; omega)
          have hcj := HS2.out.cell (t := j) (by rw [HSK2.out]; omega)
          have hfi := HS2.out.frz (t := i) (by rw [HSK2.out]; omega)
          have hfj := HS2.out.frz (t := j) (by rw [HSK2.out]; omega)
          obtain ⟨u0, hu0⟩ := second_cell hci hcj (.int .u64 (((dk)[j]! : Nat) : Int))
          have HSW : Hid (Srt w0 blk off (swp dk i j) ((wc.setCell ⟨blk, off + i, none⟩ (.int .u64 ((dk[j]! : Nat) : Int))).setCell ⟨blk, off + j, none⟩ (.int .u64 ((dk[i]! : Nat) : Int))).drew) := (HS2.out.swap (i := i) (j := j) (by rw [HSK2.out]; omega) (by rw [HSK2.out]; omega)).drewN 1
          generalize hxx : (dk)[i]! = x at hci hcj HSW hu0
          generalize hyy : (dk)[j]! = y at hci hcj HSW hu0
          clear hxx hyy
          have hsi0 : (0 : Int) ≤ (i : Int) := by omega
          have hsj0 : (0 : Int) ≤ (j : Int) := by omega
          have hsiN : (i : Int) < (N : Int) := by omega
          have hsjN : (j : Int) < (N : Int) := by omega
          have HI3 := Lib.hid (HI2.out.swap hgt (hst.elim (fun h => absurd hgt h) id) (hsd.elim (fun h => absurd hgt h) id))
          have hj1 : (1 : Int) ≤ (j : Int) := by omega
          clear hst hsd
          go_wp2_with fail
          go_region
          clear hu0 hci hcj hfi hfj HS2 HSK2 HI2
          go_wp2
          go_roundg (gk - 1)
          case measure => have := HG1.out; omega
          case rel => exact ⟨i + 1, j - 1, swp dk i j, by go_num, by congr 1; omega, by have := HG1.out; omega, HI3.out, HSW.out⟩
        · have hgtI : (j : Int) < (i : Int) := by omega
          clear hst hsd
          go_wp2_with fail
          go_ret
          exact ⟨i, dk, rfl, HI2.out.done hgt, HS2.out⟩
end Go.Proofs.Ytbnhemmklbbnmaa

/-! ## SortHeap -/
namespace Go.Proofs.Ytbnhemmklbbnmaa
open Go.RowKit Go.Sort

section
variable {hi F r : Nat} {d : Array Nat}
theorem sift_stop (h : hi ≤ 2 * r + 1) : Sort.siftDown ltB hi F r d = d := by rw [Sort.siftDown, dif_pos h]
theorem sift_two (h : 2 * r + 2 < hi) (h1 : ltB d[F + (2 * r + 1)]! d[F + (2 * r + 1) + 1]! = true) (h2 : ltB d[F + r]! d[F + (2 * r + 2)]! = true) :
    Sort.siftDown ltB hi F r d = Sort.siftDown ltB hi F (2 * r + 2) (swp d (F + r) (F + (2 * r + 2))) := by
  rw [Sort.siftDown, dif_neg (by omega), if_pos (by simp only [h1, Bool.and_true, decide_eq_true_eq]; omega), if_neg (by simp [h2]), dif_pos h]
theorem sift_two_stop (h : 2 * r + 2 < hi) (h1 : ltB d[F + (2 * r + 1)]! d[F + (2 * r + 1) + 1]! = true) (h2 : ltB d[F + r]! d[F + (2 * r + 2)]! = false) :
    Sort.siftDown ltB hi F r d = d := by
  rw [Sort.siftDown, dif_neg (by omega), if_pos (by simp only [h1, Bool.and_true, decide_eq_true_eq]; omega), if_pos (by simp [h2])]
theorem sift_one (h : 2 * r + 1 < hi) (h1 : 2 * r + 2 < hi → ltB d[F + (2 * r + 1)]! d[F + (2 * r + 1) + 1]! = false) (h2 : ltB d[F + r]! d[F + (2 * r + 1)]! = true) :
    Sort.siftDown ltB hi F r d = Sort.siftDown ltB hi F (2 * r + 1) (swp d (F + r) (F + (2 * r + 1))) := by
  rw [Sort.siftDown, dif_neg (by omega), if_neg (by
    by_cases h3 : 2 * r + 2 < hi
    · simp [h1 h3]
    · simp only [Bool.and_eq_true, decide_eq_true_eq]; rintro ⟨h4, _⟩; omega), if_neg (by simp [h2])]
theorem sift_one_stop (h : 2 * r + 1 < hi) (h1 : 2 * r + 2 < hi → ltB d[F + (2 * r + 1)]! d[F + (2 * r + 1) + 1]! = false) (h2 : ltB d[F + r]! d[F + (2 * r + 1)]! = false) :
    Sort.siftDown ltB hi F r d = d := by
  rw [Sort.siftDown, dif_neg (by omega), if_neg (by
    by_cases h3 : 2 * r + 2 < hi
    · simp [h1 h3]
    · simp only [Bool.and_eq_true, decide_eq_true_eq]; rintro ⟨h4, _⟩; omega), if_pos (by simp [h2])]
end
theorem sift_all {hi F r c1 c2 fr f1 f2 : Nat} {d tot : Array Nat} (hc1 : c1 = 2 * r + 1) (hc2 : c2 = c1 + 1) (hfr : fr = F + r) (hf1 : f1 = F + c1) (hf2 : f2 = f1 + 1) (ht : Sort.siftDown ltB hi F r d = tot) :
    (c2 < hi → ltB d[f1]! d[f2]! = true → ltB d[fr]! d[f2]! = true → Sort.siftDown ltB hi F c2 (swp d fr f2) = tot) ∧
    (c2 < hi → ltB d[f1]! d[f2]! = true → ltB d[fr]! d[f2]! = false → d = tot) ∧
    (c1 < hi → (c2 < hi → ltB d[f1]! d[f2]! = false) → ltB d[fr]! d[f1]! = true → Sort.siftDown ltB hi F c1 (swp d fr f1) = tot) ∧
    (c1 < hi → (c2 < hi → ltB d[f1]! d[f2]! = false) → ltB d[fr]! d[f1]! = false → d = tot) := by
  subst hc1 hc2 hfr hf1 hf2 ht
  exact ⟨fun h h1 h2 => (sift_two h h1 h2).symm, fun h h1 h2 => (sift_two_stop h h1 h2).symm, fun h h1 h2 => (sift_one h h1 h2).symm, fun h h1 h2 => (sift_one_stop h h1 h2).symm⟩
def SiftRel (w0 : World) (blk off N hi F : Nat) (tot : Array Nat) (gk : Nat) (v : Value) (wr : World) : Prop :=
  ∃ (r : Nat) (dk : Array Nat), v = .int .i64 (r : Int) ∧ hi - r ≤ gk ∧ dk.size = N ∧ Srt w0 blk off dk wr ∧ Sort.siftDown ltB hi F r dk = tot
set_option maxRecDepth 100000 in
set_option maxHeartbeats 4000000 in
theorem sift_s {w0 W : World} {blk off cap lo hi F N : Nat} {d : Array Nat} (h : Srt w0 blk off d W) (hN : d.size = N) (hb : F + hi ≤ N) (hsz : N < 50) (hlo : lo < 50) :
    Calls Try.prog 89 #[.slice (some ⟨blk, off, none⟩) N cap, .int .i64 lo, .int .i64 hi, .int .i64 F] W (Sorts w0 blk off (Sort.siftDown ltB hi F lo d)) := by
  obtain ⟨tot, HT⟩ : ∃ tot, Hid (Sort.siftDown ltB hi F lo d = tot) := ⟨_, rfl⟩
  rw [HT.out]
  have H := Lib.hid h
  have HN := Lib.hid hN
  clear h hN
  go_enter Try.func89, Try.ntmps89
  go_wp2
  go_loopg [8] (hi - lo) (fun gk v wr => (∃ r : Nat, r < 50 ∧ v = .int .i64 (r : Int)) ∧ SiftRel w0 blk off N hi F tot gk v wr)
  case atStart => exact ⟨⟨lo, hlo, rfl⟩, lo, d, rfl, Nat.le_refl _, HN.out, H.out, HT.out⟩
  case round =>
    clear H HN HT
    obtain ⟨⟨r0, hr50, hr0⟩, r, dk, rfl, hg, hs, hS, htot⟩ := hrel
    have hrr : r0 = r := by injection hr0 with _ h1; omega
    subst hrr
    clear hr0
    have HG := Lib.hid hg
    have HSK := Lib.hid hs
    have HS := Lib.hid hS
    have HTT := Lib.hid htot
    clear hg hs hS htot
    obtain ⟨c1, hc1⟩ : ∃ c, c = 2 * r0 + 1 := ⟨_, rfl⟩
    have hc1I : 2 * (r0 : Int) + 1 = (c1 : Int) := by omega
    by_cases hst : hi ≤ c1
    · have hstI : (hi : Int) ≤ (c1 : Int) := by omega
      have HT2 : Hid (dk = tot) := by show _ = _; rw [← HTT.out]; exact (sift_stop (by omega)).symm
      clear hc1
      go_wp2
      go_end0
      exact ⟨rfl, HT2.out ▸ HS.out⟩
    · have hstI : ¬ (hi : Int) ≤ (c1 : Int) := by omega
      obtain ⟨fr, hfr⟩ : ∃ f, f = F + r0 := ⟨_, rfl⟩
      obtain ⟨f1, hf1⟩ : ∃ f, f = F + c1 := ⟨_, rfl⟩
      obtain ⟨c2, hc2⟩ : ∃ c, c = c1 + 1 := ⟨_, rfl⟩
      obtain ⟨f2, hf2⟩ : ∃ f, f = f1 + 1 := ⟨_, rfl⟩
      have hfrI : (F : Int) + (r0 : Int) = (fr : Int) := by omega
      have hf1I : (F : Int) + (c1 : Int) = (f1 : Int) := by omega
      have hc2I : (c1 : Int) + 1 = (c2 : Int) := by omega
      have hf2I : (f1 : Int) + 1 = (f2 : Int) := by omega
      have hf2J : (F : Int) + (c2 : Int) = (f2 : Int) := by omega
      have hr0I : (0 : Int) ≤ (fr : Int) := by omega
      have hrNI : (fr : Int) < (N : Int) := by omega
      have h10I : (0 : Int) ≤ (f1 : Int) := by omega
      have h1NI : (f1 : Int) < (N : Int) := by omega
      have h20I : (0 : Int) ≤ (f2 : Int) := by omega
      have HA := Lib.hid (sift_all hc1 hc2 hfr hf1 hf2 HTT.out)
      have HN1 : Hid (fr < N ∧ f1 < N ∧ (c2 < hi → f2 < N) ∧ r0 < c1 ∧ r0 < c2) := by exact ⟨by omega, by omega, by omega, by omega, by omega⟩
      have hc50 : c1 < 50 := by omega
      have hc50' : c2 < 50 + 1 := by omega
      have hf50 : f1 < 50 := by omega
      have hfr50 : fr < 50 := by omega
      have hwfr : IntKind.i64.wrap (fr : Int) = (fr : Int) := by rw [IntKind.wrap_i64]; omega
      have hwf1 : IntKind.i64.wrap (f1 : Int) = (f1 : Int) := by rw [IntKind.wrap_i64]; omega
      have hwf2 : IntKind.i64.wrap (f2 : Int) = (f2 : Int) := by rw [IntKind.wrap_i64]; omega
      clear hc1 hc2 hfr hf1 hf2
      have hcr := HS.out.cell (t := fr) (by rw [HSK.out]; have := HN1.out; omega)
      have hca := HS.out.cell (t := f1) (by rw [HSK.out]; have := HN1.out; omega)
      by_cases h2 : c2 < hi
      · have h2I : (c2 : Int) < (hi : Int) := by omega
        have h2NI : (f2 : Int) < (N : Int) := by have := HN1.out; omega
        have hcb := HS.out.cell (t := f2) (by rw [HSK.out]; have := HN1.out; omega)
        cases hl2 : ltB dk[f1]! dk[f2]!
        · have HL2 := Lib.hid hl2
          have HE := Lib.hid (HA.out.2.2.1 (by omega) (fun _ => hl2))
          have HEs := Lib.hid (HA.out.2.2.2 (by omega) (fun _ => hl2))
          clear hl2 HA
          generalize dk[f2]! = z at hcb HL2
          obtain ⟨y, hy⟩ : ∃ y, y = dk[f1]! := ⟨_, rfl⟩
          rw [← hy] at hca HL2
          have HY0 := Lib.hid hy
          clear hy
          go_wp2_with fail
          go_quiet (first | (go_at_call 78; refine Calls.quiet_of_same (cmpLess_is _ _ _ _ HL2.out)))
          go_wp2_with fail
          clear hcb hca HL2
          have HS3 := Lib.hid (HS.out.drewN nq)
          clear hcr HS
          generalize wr.drewN nq = w3 at *
          clear nq
          have HS := Lib.hid HS3.out
          clear HS3
          have hcr := HS.out.cell (t := fr) (by rw [HSK.out]; have := HN1.out; omega)
          have hcc := HS.out.cell (t := f1) (by rw [HSK.out]; have := HN1.out; omega)
          cases hl3 : ltB dk[fr]! dk[f1]!
          · have HT2 : Hid (dk = tot) := HEs.out hl3
            have HL3 := Lib.hid hl3
            clear hl3
            generalize dk[fr]! = x at hcr HL3
            generalize dk[f1]! = y at hcc HL3
            go_quiet (first | (go_at_call 78; refine Calls.quiet_of_same (cmpLess_is _ _ _ _ HL3.out)))
            go_wp2
            go_end0
            exact ⟨rfl, HT2.out ▸ (HS.out.drewN _)⟩
          · have HT2 : Hid (Sort.siftDown ltB hi F c1 (swp dk fr f1) = tot) := HE.out hl3
            have HL3 := Lib.hid hl3
            clear hl3
            obtain ⟨x, hx⟩ : ∃ x, x = dk[fr]! := ⟨_, rfl⟩
            obtain ⟨y, hy⟩ : ∃ y, y = dk[f1]! := ⟨_, rfl⟩
            rw [← hx] at hcr HL3
            rw [← hy] at hcc HL3
            have HX := Lib.hid hx
            have HY := Lib.hid hy
            clear hx hy
            go_quiet (first | (go_at_call 78; refine Calls.quiet_of_same (cmpLess_is _ _ _ _ HL3.out)))
            go_wp2_with fail
            have HS4 := Lib.hid (HS.out.drewN nq)
            clear hcr hcc HL3 HS HX HY
            generalize w3.drewN nq = w4 at *
            clear nq
            have hci := HS4.out.cell (t := fr) (by rw [HSK.out]; have := HN1.out; omega)
            have hcj := HS4.out.cell (t := f1) (by rw [HSK.out]; have := HN1.out; omega)
            have hfi := HS4.out.frz (t := fr) (by rw [HSK.out]; have := HN1.out; omega)
            have hfj := HS4.out.frz (t := f1) (by rw [HSK.out]; have := HN1.out; omega)
            obtain ⟨u0, hu0⟩ := second_cell hci hcj (.int .u64 (((dk)[f1]! : Nat) : Int))
            have HSW : Hid (Srt w0 blk off (swp dk fr f1) ((w4.setCell ⟨blk, off + fr, none⟩ (.int .u64 ((dk[f1]! : Nat) : Int))).setCell ⟨blk, off + f1, none⟩ (.int .u64 ((dk[fr]! : Nat) : Int))).drew) := (HS4.out.swap (i := fr) (j := f1) (by rw [HSK.out]; have := HN1.out; omega) (by rw [HSK.out]; have := HN1.out; omega)).drewN 1
            generalize hxx : (dk)[fr]! = x at hci hcj HSW hu0
            generalize hyy : (dk)[f1]! = y at hci hcj HSW hu0
            clear hxx hyy
            have hsi0 : (0 : Int) ≤ (fr : Int) := by have := HN1.out; omega
            have hsj0 : (0 : Int) ≤ (f1 : Int) := by have := HN1.out; omega
            have hsiN : (fr : Int) < (N : Int) := by have := HN1.out; omega
            have hsjN : (f1 : Int) < (N : Int) := by have := HN1.out; omega
            go_region
            clear hu0 hci hcj hfi hfj HS4
            go_wp2
            go_roundg (gk - 1)
            case measure => have := HG.out; have := HN1.out; omega
            case rel => exact ⟨⟨c1, by have := HN1.out; omega, rfl⟩, c1, swp dk fr f1, rfl, by have := HG.out; have := HN1.out; omega, by rw [size_swp]; exact HSK.out, HSW.out, HT2.out⟩
        · have HL2 := Lib.hid hl2
          have HE := Lib.hid (HA.out.1 h2 hl2)
          have HEs := Lib.hid (HA.out.2.1 h2 hl2)
          clear hl2 HA
          generalize dk[f2]! = z at hcb HL2
          generalize dk[f1]! = y at hca HL2
          go_wp2_with fail
          go_quiet (first | (go_at_call 78; refine Calls.quiet_of_same (cmpLess_is _ _ _ _ HL2.out)))
          go_wp2_with fail
          clear hcb hca HL2
          have HS3 := Lib.hid (HS.out.drewN nq)
          clear hcr HS
          generalize wr.drewN nq = w3 at *
          clear nq
          have HS := Lib.hid HS3.out
          clear HS3
          have hcr := HS.out.cell (t := fr) (by rw [HSK.out]; have := HN1.out; omega)
          have hcc := HS.out.cell (t := f2) (by rw [HSK.out]; have := HN1.out; omega)
          cases hl3 : ltB dk[fr]! dk[f2]!
          · have HT2 : Hid (dk = tot) := HEs.out hl3
            have HL3 := Lib.hid hl3
            clear hl3
            generalize dk[fr]! = x at hcr HL3
            generalize dk[f2]! = y at hcc HL3
            go_quiet (first | (go_at_call 78; refine Calls.quiet_of_same (cmpLess_is _ _ _ _ HL3.out)))
            go_wp2
            go_end0
            exact ⟨rfl, HT2.out ▸ (HS.out.drewN _)⟩
          · have HT2 : Hid (Sort.siftDown ltB hi F c2 (swp dk fr f2) = tot) := HE.out hl3
            have HL3 := Lib.hid hl3
            clear hl3
            obtain ⟨x, hx⟩ : ∃ x, x = dk[fr]! := ⟨_, rfl⟩
            obtain ⟨y, hy⟩ : ∃ y, y = dk[f2]! := ⟨_, rfl⟩
            rw [← hx] at hcr HL3
            rw [← hy] at hcc HL3
            have HX := Lib.hid hx
            have HY := Lib.hid hy
            clear hx hy
            go_quiet (first | (go_at_call 78; refine Calls.quiet_of_same (cmpLess_is _ _ _ _ HL3.out)))
            go_wp2_with fail
            have HS4 := Lib.hid (HS.out.drewN nq)
            clear hcr hcc HL3 HS HX HY
            generalize w3.drewN nq = w4 at *
            clear nq
            have hci := HS4.out.cell (t := fr) (by rw [HSK.out]; have := HN1.out; omega)
            have hcj := HS4.out.cell (t := f2) (by rw [HSK.out]; have := HN1.out; omega)
            have hfi := HS4.out.frz (t := fr) (by rw [HSK.out]; have := HN1.out; omega)
            have hfj := HS4.out.frz (t := f2) (by rw [HSK.out]; have := HN1.out; omega)
            obtain ⟨u0, hu0⟩ := second_cell hci hcj (.int .u64 (((dk)[f2]! : Nat) : Int))
            have HSW : Hid (Srt w0 blk off (swp dk fr f2) ((w4.setCell ⟨blk, off + fr, none⟩ (.int .u64 ((dk[f2]! : Nat) : Int))).setCell ⟨blk, off + f2, none⟩ (.int .u64 ((dk[fr]! : Nat) : Int))).drew) := (HS4.out.swap (i := fr) (j := f2) (by rw [HSK.out]; have := HN1.out; omega) (by rw [HSK.out]; have := HN1.out; omega)).drewN 1
            generalize hxx : (dk)[fr]! = x at hci hcj HSW hu0
            generalize hyy : (dk)[f2]! = y at hci hcj HSW hu0
            clear hxx hyy
            have hsi0 : (0 : Int) ≤ (fr : Int) := by have := HN1.out; omega
            have hsj0 : (0 : Int) ≤ (f2 : Int) := by have := HN1.out; omega
            have hsiN : (fr : Int) < (N : Int) := by have := HN1.out; omega
            have hsjN : (f2 : Int) < (N : Int) := by have := HN1.out; omega
            go_region
            clear hu0 hci hcj hfi hfj HS4
            go_wp2
            go_roundg (gk - 1)
            case measure => have := HG.out; have := HN1.out; omega
            case rel => exact ⟨⟨c2, by have := HN1.out; omega, rfl⟩, c2, swp dk fr f2, rfl, by have := HG.out; have := HN1.out; omega, by rw [size_swp]; exact HSK.out, HSW.out, HT2.out⟩
      · have h2I : decide ((c2 : Int) < (hi : Int)) = false := by simp; omega
        have HE := Lib.hid (HA.out.2.2.1 (by omega) (fun h => absurd h h2))
        have HEs := Lib.hid (HA.out.2.2.2 (by omega) (fun h => absurd h h2))
        have h2N : decide (c2 < hi) = false := by simp; omega
        clear HA
        go_wp2_with fail
        go_quiet (fail)
        go_wp2_with fail
        clear hca
        have HS3 := Lib.hid (HS.out.drewN nq)
        clear hcr HS
        generalize wr.drewN nq = w3 at *
        clear nq
        have HS := Lib.hid HS3.out
        clear HS3
        have hcr := HS.out.cell (t := fr) (by rw [HSK.out]; have := HN1.out; omega)
        have hcc := HS.out.cell (t := f1) (by rw [HSK.out]; have := HN1.out; omega)
        cases hl3 : ltB dk[fr]! dk[f1]!
        · have HT2 : Hid (dk = tot) := HEs.out hl3
          have HL3 := Lib.hid hl3
          clear hl3
          generalize dk[fr]! = x at hcr HL3
          generalize dk[f1]! = y at hcc HL3
          go_quiet (first | (go_at_call 78; refine Calls.quiet_of_same (cmpLess_is _ _ _ _ HL3.out)))
          go_wp2
          go_end0
          exact ⟨rfl, HT2.out ▸ (HS.out.drewN _)⟩
        · have HT2 : Hid (Sort.siftDown ltB hi F c1 (swp dk fr f1) = tot) := HE.out hl3
          have HL3 := Lib.hid hl3
          clear hl3
          obtain ⟨x, hx⟩ : ∃ x, x = dk[fr]! := ⟨_, rfl⟩
          obtain ⟨y, hy⟩ : ∃ y, y = dk[f1]! := ⟨_, rfl⟩
          rw [← hx] at hcr HL3
          rw [← hy] at hcc HL3
          have HX := Lib.hid hx
          have HY := Lib.hid hy
          clear hx hy
          go_quiet (first | (go_at_call 78; refine Calls.quiet_of_same (cmpLess_is _ _ _ _ HL3.out)))
          go_wp2_with fail
          have HS4 := Lib.hid (HS.out.drewN nq)
          clear hcr hcc HL3 HS HX HY
          generalize w3.drewN nq = w4 at *
          clear nq
          have hci := HS4.out.cell (t := fr) (by rw [HSK.out]; have := HN1.out; omega)
          have hcj := HS4.out.cell (t := f1) (by rw [HSK.out]; have := HN1.out; omega)
          have hfi := HS4.out.frz (t := fr) (by rw [HSK.out]; have := HN1.out; omega)
          have hfj := HS4.out.frz (t := f1) (by rw [HSK.out]; have := HN1.out; omega)
          obtain ⟨u0, hu0⟩ := second_cell hci hcj (.int .u64 (((dk)[f1]! : Nat) : Int))
          have HSW : Hid (Srt w0 blk off (swp dk fr f1) ((w4.setCell ⟨blk, off + fr, none⟩ (.int .u64 ((dk[f1]! : Nat) : Int))).setCell ⟨blk, off + f1, none⟩ (.int .u64 ((dk[fr]! : Nat) : Int))).drew) := (HS4.out.swap (i := fr) (j := f1) (by rw [HSK.out]; have := HN1.out; omega) (by rw [HSK.out]; have := HN1.out; omega)).drewN 1
          generalize hxx : (dk)[fr]! = x at hci hcj HSW hu0
          generalize hyy : (dk)[f1]! = y at hci hcj HSW hu0
          clear hxx hyy
          have hsi0 : (0 : Int) ≤ (fr : Int) := by have := HN1.out; omega
          have hsj0 : (0 : Int) ≤ (f1 : Int) := by have := HN1.out; omega
          have hsiN : (fr : Int) < (N : Int) := by have := HN1.out; omega
          have hsjN : (f1 : Int) < (N : Int) := by have := HN1.out; omega
          go_region
          clear hu0 hci hcj hfi hfj HS4
          go_wp2
          go_roundg (gk - 1)
          case measure => have := HG.out; have := HN1.out; omega
          case rel => exact ⟨⟨c1, by have := HN1.out; omega, rfl⟩, c1, swp dk fr f1, rfl, by have := HG.out; have := HN1.out; omega, by rw [size_swp]; exact HSK.out, HSW.out, HT2.out⟩
theorem size_sift (hi F : Nat) : ∀ (n root : Nat) (d : Array Nat), hi - root ≤ n → (Sort.siftDown ltB hi F root d).size = d.size := by
  intro n
  induction n with
  | zero => intro root d h; rw [sift_stop (by omega)]
  | succ n ih =>
    intro root d h
    rw [Sort.siftDown]
    split
    · rfl
    · split
      · split
        · rfl
        · split
          · rw [ih _ _ (by omega), size_swp]
          · rfl
      · split
        · rfl
        · rw [ih _ _ (by omega), size_swp]
def BuildRel (w0 : World) (blk off N a m : Nat) (tot : Array Nat) (gk : Nat) (v : Value) (wr : World) : Prop :=
  ∃ dk : Array Nat, v = .int .i64 ((gk : Int) - 1) ∧ gk ≤ 50 ∧ dk.size = N ∧ Srt w0 blk off dk wr ∧ Sort.heapBuild ltB m a gk dk = tot
def PopRel (w0 : World) (blk off N a m : Nat) (tot : Array Nat) (gk : Nat) (v : Value) (wr : World) : Prop :=
  ∃ dk : Array Nat, v = .int .i64 ((gk : Int) - 1) ∧ gk ≤ m ∧ dk.size = N ∧ Srt w0 blk off dk wr ∧ Sort.heapPop ltB a gk dk = tot
set_option maxRecDepth 100000 in
set_option maxHeartbeats 4000000 in
theorem heap_s {w0 W : World} {blk off cap a b N : Nat} {d : Array Nat} (h : Srt w0 blk off d W) (hN : d.size = N) (hab : a < b) (hb : b ≤ N) (hsz : N < 50) :
    Calls Try.prog 73 #[.slice (some ⟨blk, off, none⟩) N cap, .int .i64 a, .int .i64 b] W (Sorts w0 blk off (Sort.heapSort ltB d a b)) := by
  obtain ⟨m, hm⟩ : ∃ m, b = a + m := ⟨b - a, by omega⟩
  obtain ⟨k0, hk0⟩ : ∃ k, k = (m - 1) / 2 + 1 := ⟨_, rfl⟩
  obtain ⟨t1, HT1⟩ : ∃ t, Hid (Sort.heapBuild ltB m a k0 d = t) := ⟨_, rfl⟩
  obtain ⟨tot, HT⟩ : ∃ tot, Hid (Sort.heapPop ltB a m t1 = tot) := ⟨_, rfl⟩
  have hE : Sort.heapSort ltB d a b = tot := by
    unfold Sort.heapSort
    rw [show b - a = m from by omega, ← hk0, HT1.out, HT.out]
  rw [hE]
  have H := Lib.hid h
  have HN := Lib.hid hN
  have hmI : (b : Int) - (a : Int) = (m : Int) := by omega
  have hkI : ((m : Int) - 1) / 2 = (k0 : Int) - 1 := by omega
  have hm1 : (1 : Int) ≤ (m : Int) := by omega
  have HAM : Hid (a + m ≤ N ∧ k0 ≤ 50 ∧ 1 ≤ k0) := by exact ⟨by omega, by omega, by omega⟩
  clear h hN hE hm hk0
  go_enter Try.func73, Try.ntmps73
  go_wp2_with fail
  rw [hkI]
  clear hkI
  go_loopg [9] k0 (fun gk v wr => BuildRel w0 blk off N a m t1 gk v wr)
  case atStart => exact ⟨d, rfl, HAM.out.2.1, HN.out, H.out, HT1.out⟩
  case round =>
    clear H HN HT1
    obtain ⟨dk, rfl, hg, hs, hS, htot⟩ := hrel
    have HSK := Lib.hid hs
    have HS := Lib.hid hS
    have HTT := Lib.hid htot
    clear hs hS htot
    cases gk with
    | zero =>
      have HE : Hid (dk = t1) := HTT.out
      rw [show ((0 : Nat) : Int) - 1 = -1 from rfl]
      go_wp2_with fail
      go_loopg [10] m (fun gk v wr => PopRel w0 blk off N a m tot gk v wr)
      case atStart => exact ⟨dk, rfl, Nat.le_refl _, HSK.out, HS.out, HE.out ▸ HT.out⟩
      case round =>
        clear HS HSK HT HTT HE
        obtain ⟨dk, rfl, hg, hs, hS, htot⟩ := hrel
        have HSK := Lib.hid hs
        have HS := Lib.hid hS
        have HTT := Lib.hid htot
        clear hs hS htot
        cases gk with
        | zero =>
          have HE : Hid (dk = tot) := HTT.out
          rw [show ((0 : Nat) : Int) - 1 = -1 from rfl]
          go_wp2
          go_end0
          exact ⟨rfl, HE.out ▸ HS.out⟩
        | succ k =>
          rw [show ((k + 1 : Nat) : Int) - 1 = (k : Int) from by omega]
          obtain ⟨fk, hfk⟩ : ∃ f, f = a + k := ⟨_, rfl⟩
          have hfkI : (a : Int) + (k : Int) = (fk : Int) := by omega
          have HFK : Hid (fk = a + k ∧ fk < N ∧ a < N ∧ k < 50) := by have := HAM.out; exact ⟨hfk, by omega, by omega, by omega⟩
          have hwfk : IntKind.i64.wrap (fk : Int) = (fk : Int) := by rw [IntKind.wrap_i64]; have := HFK.out; omega
          have hk0I : (0 : Int) ≤ (k : Int) := by omega
          have hk50 : k < 50 := HFK.out.2.2.2
          have HTS : Hid (Sort.heapPop ltB a k (Sort.siftDown ltB k a 0 (swp dk a fk)) = tot) := by show _ = _; rw [hfk]; exact HTT.out
          clear hfk
          have hci := HS.out.cell (t := a) (by rw [HSK.out]; have := HFK.out; omega)
          have hcj := HS.out.cell (t := fk) (by rw [HSK.out]; have := HFK.out; omega)
          have hfi := HS.out.frz (t := a) (by rw [HSK.out]; have := HFK.out; omega)
          have hfj := HS.out.frz (t := fk) (by rw [HSK.out]; have := HFK.out; omega)
          obtain ⟨u0, hu0⟩ := second_cell hci hcj (.int .u64 (((dk)[fk]! : Nat) : Int))
          have HSW : Hid (Srt w0 blk off (swp dk a fk) ((wr.setCell ⟨blk, off + a, none⟩ (.int .u64 ((dk[fk]! : Nat) : Int))).setCell ⟨blk, off + fk, none⟩ (.int .u64 ((dk[a]! : Nat) : Int))).drew) := (HS.out.swap (i := a) (j := fk) (by rw [HSK.out]; have := HFK.out; omega) (by rw [HSK.out]; have := HFK.out; omega)).drewN 1
          generalize hxx : (dk)[a]! = x at hci hcj HSW hu0
          generalize hyy : (dk)[fk]! = y at hci hcj HSW hu0
          clear hxx hyy
          have hsi0 : (0 : Int) ≤ (a : Int) := by have := HFK.out; omega
          have hsj0 : (0 : Int) ≤ (fk : Int) := by have := HFK.out; omega
          have hsiN : (a : Int) < (N : Int) := by have := HFK.out; omega
          have hsjN : (fk : Int) < (N : Int) := by have := HFK.out; omega
          go_wp2_with fail
          go_region
          clear hu0 hci hcj hfi hfj HS
          generalize ((wr.setCell ⟨blk, off + a, none⟩ (.int .u64 (y : Int))).setCell ⟨blk, off + fk, none⟩ (.int .u64 (x : Int))).drew = w2 at *
          go_wp2_with fail
          refine (sift_s (lo := 0) HSW.out (by rw [size_swp]; exact HSK.out) (by have := HAM.out; omega) hsz (by omega)).mono ?_
          rintro e w1 ⟨rfl, hS1⟩
          have HS1 := Lib.hid hS1
          clear hS1 HSW
          go_wp2
          go_roundg k
          case measure => omega
          case rel => exact ⟨_, rfl, by omega, by rw [size_sift _ _ _ _ _ (Nat.le_refl _), size_swp]; exact HSK.out, HS1.out, HTS.out⟩
    | succ k =>
      rw [show ((k + 1 : Nat) : Int) - 1 = (k : Int) from by omega]
      have hk0I : (0 : Int) ≤ (k : Int) := by omega
      go_wp2_with fail
      refine (sift_s (lo := k) HS.out HSK.out (by have := HAM.out; omega) hsz (by omega)).mono ?_
      rintro e w1 ⟨rfl, hS1⟩
      have HS1 := Lib.hid hS1
      clear hS1 HS
      go_wp2
      go_roundg k
      case measure => omega
      case rel => exact ⟨_, rfl, by omega, by rw [size_sift _ _ _ _ _ (Nat.le_refl _)]; exact HSK.out, HS1.out, HTT.out⟩
end Go.Proofs.Ytbnhemmklbbnmaa

/-! ## SortBreak -/
namespace Go.Proofs.Ytbnhemmklbbnmaa
open Go.RowKit Go.Sort

/-- A state of the xorshift in a new block. -/
def Rnd (w0 : World) (s : Nat) (W : World) : Prop := w0.heap.size ≤ s ∧ ∃ z : Int, W.heap[s]? = some (.cells #[.int .u64 z] 148 (0, 0))
def SaysNext (w0 : World) (blk off s : Nat) (d : Array Nat) (e : Ending) (w' : World) : Prop :=
  ∃ z : Int, e = .returned (.int .u64 z) ∧ 0 ≤ z ∧ z < 18446744073709551616 ∧ Srt w0 blk off d w' ∧ Rnd w0 s w'
theorem row_setX {W : World} {s : Nat} {z : Int} (h : W.heap[s]? = some (.cells #[.int .u64 z] 148 (0, 0))) (u : Value) : (W.setCell ⟨s, 0, none⟩ u).drew.heap[s]? = some (.cells #[u] 148 (0, 0)) := by
  show (W.setCell ⟨s, 0, none⟩ u).heap[s]? = _
  simp [World.setCell, Array.getElem?_modify, h]
theorem next_step {w0 W : World} {blk off s : Nat} {d : Array Nat} {z : Int} (h : Srt w0 blk off d W) (hs : w0.heap.size ≤ s) (hz : W.heap[s]? = some (.cells #[.int .u64 z] 148 (0, 0))) (q : Int) :
    Srt w0 blk off d (W.setCell ⟨s, 0, none⟩ (.int .u64 q)).drew ∧ (W.setCell ⟨s, 0, none⟩ (.int .u64 q)).drew.heap[s]? = some (.cells #[.int .u64 q] 148 (0, 0)) :=
  ⟨(h.setNew _ hs).drewN 1, row_setX hz _⟩
theorem bits_u64_in (op : BinOp) (a b : Int) : 0 ≤ bits op .u64 a b ∧ bits op .u64 a b < 18446744073709551616 := by
  unfold bits
  rw [IntKind.wrap_u64]
  omega
set_option maxRecDepth 100000 in
set_option maxHeartbeats 4000000 in
theorem next_s {w0 W : World} {blk off s : Nat} {d : Array Nat} (h : Srt w0 blk off d W) (hr : Rnd w0 s W) :
    Calls Try.prog 91 #[.pointer (some ⟨s, 0, none⟩)] W (SaysNext w0 blk off s d) := by
  obtain ⟨hs, z, hz⟩ := hr
  have HA := Lib.hid (next_step h hs hz)
  have HSS := Lib.hid hs
  have hcz : W.cell? ⟨s, 0, none⟩ = some (.int .u64 z) := by rw [cell_of_row W _ 0 _ _ _ hz]; rfl
  have hfz := frz_row (i := 0) hz
  clear h hz hs
  go_enter Try.func91, Try.ntmps91
  go_wp2_with fail
  go_region
  go_wp2_with fail
  obtain ⟨hS1, hz1⟩ := HA.out (bits BinOp.xor IntKind.u64 z (IntKind.u64.wrap (z * 8192)))
  clear HA hcz hfz
  generalize bits BinOp.xor IntKind.u64 z (IntKind.u64.wrap (z * 8192)) = q at *
  generalize (W.setCell ⟨s, 0, none⟩ (.int .u64 q)).drew = w1 at *
  have HA := Lib.hid (next_step hS1 HSS.out hz1)
  have hcz : w1.cell? ⟨s, 0, none⟩ = some (.int .u64 q) := by rw [cell_of_row w1 _ 0 _ _ _ hz1]; rfl
  have hfz := frz_row (i := 0) hz1
  clear hS1 hz1
  go_region
  go_wp2_with fail
  obtain ⟨hS1, hz1⟩ := HA.out (bits BinOp.xor IntKind.u64 q (q / 128))
  clear HA hcz hfz
  generalize bits BinOp.xor IntKind.u64 q (q / 128) = q2 at *
  generalize (w1.setCell ⟨s, 0, none⟩ (.int .u64 q2)).drew = w2 at *
  have HA := Lib.hid (next_step hS1 HSS.out hz1)
  have hcz : w2.cell? ⟨s, 0, none⟩ = some (.int .u64 q2) := by rw [cell_of_row w2 _ 0 _ _ _ hz1]; rfl
  have hfz := frz_row (i := 0) hz1
  clear hS1 hz1
  go_region
  go_wp2_with fail
  obtain ⟨hS1, hz1⟩ := HA.out (bits BinOp.xor IntKind.u64 q2 (IntKind.u64.wrap (q2 * 131072)))
  have HB := Lib.hid (bits_u64_in BinOp.xor q2 (IntKind.u64.wrap (q2 * 131072)))
  clear HA hcz hfz
  generalize bits BinOp.xor IntKind.u64 q2 (IntKind.u64.wrap (q2 * 131072)) = q3 at *
  generalize (w2.setCell ⟨s, 0, none⟩ (.int .u64 q3)).drew = w3 at *
  have hcz : w3.cell? ⟨s, 0, none⟩ = some (.int .u64 q3) := by rw [cell_of_row w3 _ 0 _ _ _ hz1]; rfl
  have HS1 := Lib.hid hS1
  have HZ1 := Lib.hid hz1
  clear hS1 hz1
  go_wp2
  go_ret
  exact ⟨q3, rfl, HB.out.1, HB.out.2, HS1.out, HSS.out, q3, HZ1.out⟩
/-- The row has been stirred within [a, b). -/
def Breaks (w0 : World) (blk off a b N : Nat) (d : Array Nat) (e : Ending) (w' : World) : Prop := e = .returned (.tuple #[]) ∧ ∃ d' : Array Nat, PermIn a b d d' ∧ d'.size = N ∧ Srt w0 blk off d' w'
def StirRel (w0 : World) (blk off s a b N base : Nat) (d : Array Nat) (gk : Nat) (v : Value) (wr : World) : Prop :=
  ∃ (i : Nat) (dk : Array Nat), v = .int .i64 (i : Int) ∧ base ≤ i + 1 ∧ i ≤ base + 2 ∧ base + 2 - i ≤ gk ∧ PermIn a b d dk ∧ dk.size = N ∧ Srt w0 blk off dk wr ∧ Rnd w0 s wr
theorem and_is (z : Int) (M1 : Nat) (h0 : 0 ≤ z) (h1 : z < 18446744073709551616) (hM : M1 < 64) : ∃ t : Nat, bits .and .u64 z (M1 : Int) = (t : Int) ∧ t ≤ M1 := by
  obtain ⟨n, rfl⟩ : ∃ n : Nat, z = (n : Int) := ⟨z.toNat, by omega⟩
  exact ⟨n &&& M1, bits_and_u64_nat n M1 (by omega) (by omega), Nat.and_le_right⟩
theorem row_new (W : World) (z : Int) : (W.alloc (.cells #[.int .u64 z] 148)).heap[W.heap.size]? = some (.cells #[.int .u64 z] 148 (0, 0)) := heap_alloc_new W _
theorem rnd_set {w0 w1 : World} {blk off s x y : Nat} {d : Array Nat} (h : Srt w0 blk off d w1) (hr : Rnd w0 s w1) (v1 v2 : Value) : Rnd w0 s ((w1.setCell ⟨blk, x, none⟩ v1).setCell ⟨blk, y, none⟩ v2).drew := by
  obtain ⟨hs, z, hz⟩ := hr
  have hne : blk ≠ s := by have := h.lt; omega
  refine ⟨hs, z, ?_⟩
  show ((w1.setCell ⟨blk, x, none⟩ v1).setCell ⟨blk, y, none⟩ v2).heap[s]? = _
  simp [World.setCell, Array.getElem?_modify, hne, hz]
set_option maxRecDepth 100000 in
set_option maxHeartbeats 4000000 in
theorem break_s {w0 W : World} {blk off cap a b N : Nat} {d : Array Nat} (h : Srt w0 blk off d W) (hN : d.size = N) (hb : b ≤ N) (hsz : N < 50) (hl : a + 12 < b) :
    Calls Try.prog 74 #[.slice (some ⟨blk, off, none⟩) N cap, .int .i64 a, .int .i64 b] W (Breaks w0 blk off a b N d) := by
  obtain ⟨m, hm⟩ : ∃ m, b = a + m := ⟨b - a, by omega⟩
  obtain ⟨q, hq⟩ : ∃ q, q = m / 4 := ⟨_, rfl⟩
  obtain ⟨base, hbase⟩ : ∃ c, c = a + q * 2 := ⟨_, rfl⟩
  obtain ⟨i0, hi0⟩ : ∃ c, base = c + 1 := ⟨base - 1, by omega⟩
  have hmI : (b : Int) - (a : Int) = (m : Int) := by omega
  have hqI : (m : Int) / 4 = (q : Int) := by omega
  have hbI : (a : Int) + (q : Int) * 2 = (base : Int) := by omega
  have hiI : (base : Int) - 1 = (i0 : Int) := by omega
  have hm8 : (8 : Int) ≤ (m : Int) := by omega
  have hm50 : m < 50 := by omega
  have hq50 : q < 50 := by omega
  have hbase50 : base < 50 := by omega
  have HM : Hid (b = a + m ∧ a < base ∧ base + 1 < b ∧ 8 ≤ m ∧ base = i0 + 1) := by exact ⟨hm, by omega, by omega, by omega, hi0⟩
  have H := Lib.hid h
  have HN := Lib.hid hN
  clear h hN hm hq hbase hi0
  go_enter Try.func74, Try.ntmps74
  go_wp2_with fail
  refine (pow_x _ m hm50 HM.out.2.2.2.1).mono ?_
  rintro e w1 ⟨⟨M, rfl, hM1, hM2, hM3⟩, rfl⟩
  go_wp2_with fail
  obtain ⟨M1, hM1'⟩ : ∃ c, M = c + 1 := ⟨M - 1, by omega⟩
  have hMI : (M : Int) - 1 = (M1 : Int) := by omega
  have HMM : Hid (M1 < 2 * m ∧ M1 < 64) := by exact ⟨by omega, by omega⟩
  have hM64 : M < 65 := by omega
  clear hM1' hM2 hM3 hM1
  go_loopg [9] 3 (fun gk v wr => StirRel w0 blk off W.heap.size a b N base d gk v wr)
  case atStart => exact ⟨i0, d, rfl, by have := HM.out; omega, by have := HM.out; omega, by have := HM.out; omega, permIn_refl _ _ _, HN.out, H.out.alloc _, H.out.size, m, row_new W m⟩
  case round =>
    clear H HN
    obtain ⟨i, dk, rfl, hlo, hup, hg, hP, hs, hS, hR⟩ := hrel
    have HG := Lib.hid hg
    have HP := Lib.hid hP
    have HSK := Lib.hid hs
    have HS := Lib.hid hS
    have HR := Lib.hid hR
    have HI : Hid (base ≤ i + 1 ∧ i ≤ base + 2) := by exact ⟨hlo, hup⟩
    clear hg hP hs hS hR hlo hup
    by_cases hir : i ≤ base + 1
    · have hirI : (i : Int) ≤ (base : Int) + 1 := by omega
      have HI2 : Hid (a ≤ i ∧ i < b ∧ i < N ∧ b = a + m) := by have := HI.out; have := HM.out; exact ⟨by omega, by omega, by omega, by omega⟩
      have hiN : (i : Int) < (N : Int) := by have := HI2.out; omega
      have hi50 : i < 50 := by omega
      have hMIw : IntKind.u64.wrap (M1 : Int) = (M1 : Int) := by rw [IntKind.wrap_u64]; have := HMM.out; omega
      go_wp2_with fail
      refine (next_s HS.out HR.out).mono ?_
      rintro e w1 ⟨z, rfl, hz0, hz1, hS1, hR1⟩
      obtain ⟨t, hB, hT⟩ := and_is z M1 hz0 hz1 HMM.out.2
      have HS1 := Lib.hid hS1
      have HR1 := Lib.hid hR1
      clear hz0 hz1 hS1 hR1 HS HR
      by_cases htm : t < m
      · have htmI : ¬ (m : Int) ≤ (t : Int) := by omega
        obtain ⟨f, hf⟩ : ∃ f, f = a + t := ⟨_, rfl⟩
        have HF : Hid (a ≤ f ∧ f < b ∧ f < N ∧ a ≤ i ∧ i < b ∧ i < N) := by have := HI2.out; exact ⟨by omega, by omega, by omega, by omega, by omega, by omega⟩
        have hfI : (a : Int) + (t : Int) = (f : Int) := by omega
        have hwf : IntKind.i64.wrap (f : Int) = (f : Int) := by rw [IntKind.wrap_i64]; have := HF.out; omega
        clear hf hT
        have hci := HS1.out.cell (t := i) (by rw [HSK.out]; have := HF.out; omega)
        have hcj := HS1.out.cell (t := f) (by rw [HSK.out]; have := HF.out; omega)
        have hfi := HS1.out.frz (t := i) (by rw [HSK.out]; have := HF.out; omega)
        have hfj := HS1.out.frz (t := f) (by rw [HSK.out]; have := HF.out; omega)
        obtain ⟨u0, hu0⟩ := second_cell hci hcj (.int .u64 (((dk)[f]! : Nat) : Int))
        have HSW : Hid (Srt w0 blk off (swp dk i f) ((w1.setCell ⟨blk, off + i, none⟩ (.int .u64 ((dk[f]! : Nat) : Int))).setCell ⟨blk, off + f, none⟩ (.int .u64 ((dk[i]! : Nat) : Int))).drew) := (HS1.out.swap (i := i) (j := f) (by rw [HSK.out]; have := HF.out; omega) (by rw [HSK.out]; have := HF.out; omega)).drewN 1
        generalize hxx : (dk)[i]! = x at hci hcj HSW hu0
        generalize hyy : (dk)[f]! = y at hci hcj HSW hu0
        clear hxx hyy
        have hsi0 : (0 : Int) ≤ (i : Int) := by have := HF.out; omega
        have hsj0 : (0 : Int) ≤ (f : Int) := by have := HF.out; omega
        have hsiN : (i : Int) < (N : Int) := by have := HF.out; omega
        have hsjN : (f : Int) < (N : Int) := by have := HF.out; omega
        have HRN : Hid (∀ v1 v2, Rnd w0 W.heap.size ((w1.setCell ⟨blk, off + i, none⟩ v1).setCell ⟨blk, off + f, none⟩ v2).drew) := fun v1 v2 => rnd_set HS1.out HR1.out v1 v2
        have HPP := Lib.hid (permIn_trans _ _ _ _ _ HP.out (swp_permIn dk a b i f (by have := HF.out; omega) (by have := HF.out; omega) (by have := HF.out; omega) (by have := HF.out; omega) (by rw [HSK.out]; omega)))
        go_wp2_with fail
        go_region
        clear hu0 hci hcj hfi hfj HS1
        go_wp2
        go_roundg (gk - 1)
        case measure => have := HG.out; have := HI.out; omega
        case rel => exact ⟨i + 1, swp dk i f, by go_num, by have := HI.out; omega, by omega, by have := HG.out; omega, HPP.out, by rw [size_swp]; exact HSK.out, HSW.out, HRN.out _ _⟩
      · have htmI : (m : Int) ≤ (t : Int) := by omega
        have ht64 : t < 64 := by have := HMM.out; omega
        obtain ⟨t1, ht1⟩ : ∃ c, t = m + c := ⟨t - m, by omega⟩
        have ht1I : (t : Int) - (m : Int) = (t1 : Int) := by omega
        obtain ⟨f, hf⟩ : ∃ f, f = a + t1 := ⟨_, rfl⟩
        have HF : Hid (a ≤ f ∧ f < b ∧ f < N ∧ a ≤ i ∧ i < b ∧ i < N) := by have := HI2.out; have := HMM.out; exact ⟨by omega, by omega, by omega, by omega, by omega, by omega⟩
        have hfI : (a : Int) + (t1 : Int) = (f : Int) := by omega
        have hwf : IntKind.i64.wrap (f : Int) = (f : Int) := by rw [IntKind.wrap_i64]; have := HF.out; omega
        have hwt : IntKind.i64.wrap (t1 : Int) = (t1 : Int) := by rw [IntKind.wrap_i64]; omega
        clear hf hT ht1
        have hci := HS1.out.cell (t := i) (by rw [HSK.out]; have := HF.out; omega)
        have hcj := HS1.out.cell (t := f) (by rw [HSK.out]; have := HF.out; omega)
        have hfi := HS1.out.frz (t := i) (by rw [HSK.out]; have := HF.out; omega)
        have hfj := HS1.out.frz (t := f) (by rw [HSK.out]; have := HF.out; omega)
        obtain ⟨u0, hu0⟩ := second_cell hci hcj (.int .u64 (((dk)[f]! : Nat) : Int))
        have HSW : Hid (Srt w0 blk off (swp dk i f) ((w1.setCell ⟨blk, off + i, none⟩ (.int .u64 ((dk[f]! : Nat) : Int))).setCell ⟨blk, off + f, none⟩ (.int .u64 ((dk[i]! : Nat) : Int))).drew) := (HS1.out.swap (i := i) (j := f) (by rw [HSK.out]; have := HF.out; omega) (by rw [HSK.out]; have := HF.out; omega)).drewN 1
        generalize hxx : (dk)[i]! = x at hci hcj HSW hu0
        generalize hyy : (dk)[f]! = y at hci hcj HSW hu0
        clear hxx hyy
        have hsi0 : (0 : Int) ≤ (i : Int) := by have := HF.out; omega
        have hsj0 : (0 : Int) ≤ (f : Int) := by have := HF.out; omega
        have hsiN : (i : Int) < (N : Int) := by have := HF.out; omega
        have hsjN : (f : Int) < (N : Int) := by have := HF.out; omega
        have HRN : Hid (∀ v1 v2, Rnd w0 W.heap.size ((w1.setCell ⟨blk, off + i, none⟩ v1).setCell ⟨blk, off + f, none⟩ v2).drew) := fun v1 v2 => rnd_set HS1.out HR1.out v1 v2
        have HPP := Lib.hid (permIn_trans _ _ _ _ _ HP.out (swp_permIn dk a b i f (by have := HF.out; omega) (by have := HF.out; omega) (by have := HF.out; omega) (by have := HF.out; omega) (by rw [HSK.out]; omega)))
        go_wp2_with fail
        go_region
        clear hu0 hci hcj hfi hfj HS1
        go_wp2
        go_roundg (gk - 1)
        case measure => have := HG.out; have := HI.out; omega
        case rel => exact ⟨i + 1, swp dk i f, by go_num, by have := HI.out; omega, by omega, by have := HG.out; omega, HPP.out, by rw [size_swp]; exact HSK.out, HSW.out, HRN.out _ _⟩
    · have hirI : ¬ (i : Int) ≤ (base : Int) + 1 := by omega
      go_wp2
      go_end0
      exact ⟨rfl, dk, HP.out, HSK.out, HS.out⟩
end Go.Proofs.Ytbnhemmklbbnmaa

/-! ## SortRounds -/
namespace Go.Proofs.Ytbnhemmklbbnmaa
open Go.RowKit Go.Sort

theorem ltB_of {x y : Nat} (h : x < y) : ltB x y = true := by simpa [ltB] using h
theorem ltB_not {x y : Nat} (h : ¬ x < y) : ltB x y = false := by simpa [ltB] using h
theorem equal_round {d3 d4 : Array Nat} {a b m N p : Nat} (h : PartedE d3 d4 a b m N p) (ha0 : 0 < a) (hb : b ≤ d3.size) (hB : Below ltB a b d3) (hnl : ltB d3[a - 1]! d3[p]! = false) :
    Below ltB m b d4 ∧ ∀ R, PermIn m b d4 R → SortedIn ltB m b R → PermIn a b d3 R ∧ SortedIn ltB a b R := by
  have hge : ∀ i, a ≤ i → i < b → ltB d3[i]! d3[p]! = false := fun i hi hi' => by
    rcases hB with h0 | hB
    · omega
    · exact swo_ltB.ntrans _ _ _ (hB i hi hi') hnl
  have h1 := h.am
  have h2 := h.mb
  have hperm := h.perm
  have hle : ∀ i, a ≤ i → i < m → ltB d3[p]! d4[i]! = false := fun i k1 k2 => ltB_not (h.pv ▸ h.lo i k1 k2)
  have hgt : ∀ i, m ≤ i → i < b → ltB d3[p]! d4[i]! = true := fun i k1 k2 => ltB_of (h.pv ▸ h.hi i k1 k2)
  have hge4 := permIn_all d3 d4 a b (fun x => ltB x d3[p]! = false) hb hperm hge
  have hb4 : b ≤ d4.size := by rw [hperm.1]; exact hb
  refine ⟨Or.inr fun i hi hi' => ?_, fun R hR hs => ⟨permIn_trans _ _ _ a b hperm (permIn_mono _ _ m b a b (by omega) (Nat.le_refl _) hb4 hR), ?_⟩⟩
  · have k1 := ltB_true (hgt i hi hi')
    have k2 := ltB_false (hle (m - 1) (by omega) (by omega))
    exact ltB_not (by omega)
  · refine sorted_glue_eq swo_ltB d3[p]! hs (fun i hi hi' => ?_) (fun i hi hi' => ?_) (permIn_all d4 R m b (fun x => ltB d3[p]! x = true) hb4 hR hgt)
    · rw [hR.2.1 i (Or.inl hi')]; exact hle i hi hi'
    · rw [hR.2.1 i (Or.inl hi')]; exact hge4 i hi (by omega)
theorem part_round {d3 d4 : Array Nat} {a b m N : Nat} (h : Parted d3 d4 a b m N) (hb : b ≤ d3.size) (hB : Below ltB a b d3) :
    Below ltB a m d4 ∧ Below ltB (m + 1) b d4 ∧
    (∀ L, PermIn a m d4 L → SortedIn ltB a m L → Below ltB (m + 1) b L ∧ ∀ R, PermIn (m + 1) b L R → SortedIn ltB (m + 1) b R → PermIn a b d3 R ∧ SortedIn ltB a b R) ∧
    (∀ L, PermIn (m + 1) b d4 L → SortedIn ltB (m + 1) b L → Below ltB a m L ∧ ∀ R, PermIn a m L R → SortedIn ltB a m R → PermIn a b d3 R ∧ SortedIn ltB a b R) := by
  have h1 := h.am
  have h2 := h.mb
  have hperm := h.perm
  have hlo : ∀ i, a ≤ i → i < m → ltB d4[i]! d4[m]! = true := fun i k1 k2 => ltB_of (h.lo i k1 k2)
  have hhi : ∀ i, m < i → i < b → ltB d4[i]! d4[m]! = false := fun i k1 k2 => ltB_not (h.hi i k1 k2)
  have hb4 : b ≤ d4.size := by rw [hperm.1]; exact hb
  have hBa : Below ltB a m d4 := (hB.perm hb hperm).mono (by omega)
  have hBr : Below ltB (m + 1) b d4 := Or.inr fun i hi hi' => by rw [Nat.add_sub_cancel]; exact hhi i (by omega) hi'
  have glue : ∀ R : Array Nat, PermIn a b d4 R → R[m]! = d4[m]! → SortedIn ltB a m R → SortedIn ltB (m + 1) b R → (∀ i, a ≤ i → i < m → ltB R[i]! d4[m]! = true) → (∀ i, m < i → i < b → ltB R[i]! d4[m]! = false) → PermIn a b d3 R ∧ SortedIn ltB a b R :=
    fun R hP he s1 s2 q1 q2 => ⟨permIn_trans _ _ _ a b hperm hP, sorted_glue swo_ltB s1 s2 (fun i k1 k2 => by rw [he]; exact q1 i k1 k2) (fun i k1 k2 => by rw [he]; exact q2 i k1 k2)⟩
  refine ⟨hBa, hBr, fun L hL hsL => ?_, fun L hL hsL => ?_⟩
  · have hbL : b ≤ L.size := by rw [hL.1]; exact hb4
    have eL : ∀ i, m ≤ i → L[i]! = d4[i]! := fun i hi => hL.2.1 i (Or.inr hi)
    refine ⟨Or.inr fun i hi hi' => by rw [Nat.add_sub_cancel, eL i (by omega), eL m (Nat.le_refl _)]; exact hhi i (by omega) hi', fun R hR hsR => ?_⟩
    have eR : ∀ i, i ≤ m → R[i]! = L[i]! := fun i hi => hR.2.1 i (Or.inl (by omega))
    refine glue R (permIn_trans _ _ _ a b (permIn_mono _ _ a m a b (Nat.le_refl _) (by omega) hb4 hL) (permIn_mono _ _ (m + 1) b a b (by omega) (Nat.le_refl _) hbL hR)) ((eR m (Nat.le_refl _)).trans (eL m (Nat.le_refl _))) (hsL.congr fun i _ hi' => eR i (by omega)) hsR (fun i hi hi' => ?_) (fun i hi hi' => ?_)
    · rw [eR i (by omega)]
      exact permIn_all d4 L a m (fun x => ltB x d4[m]! = true) (by omega) hL hlo i hi hi'
    · exact permIn_all L R (m + 1) b (fun x => ltB x d4[m]! = false) hbL hR (fun k hk hk' => by rw [eL k (by omega)]; exact hhi k (by omega) hk') i (by omega) hi'
  · have hbL : b ≤ L.size := by rw [hL.1]; exact hb4
    have eL : ∀ i, i ≤ m → L[i]! = d4[i]! := fun i hi => hL.2.1 i (Or.inl (by omega))
    refine ⟨?_, fun R hR hsR => ?_⟩
    · rcases hBa with h0 | hBa
      · exact Or.inl h0
      · exact Or.inr fun i hi hi' => by rw [eL i (by omega), eL (a - 1) (by omega)]; exact hBa i hi hi'
    have eR : ∀ i, m ≤ i → R[i]! = L[i]! := fun i hi => hR.2.1 i (Or.inr hi)
    refine glue R (permIn_trans _ _ _ a b (permIn_mono _ _ (m + 1) b a b (by omega) (Nat.le_refl _) hb4 hL) (permIn_mono _ _ a m a b (Nat.le_refl _) (by omega) hbL hR)) ((eR m (Nat.le_refl _)).trans (eL m (Nat.le_refl _))) hsR (hsL.congr fun i hi _ => eR i (by omega)) (fun i hi hi' => ?_) (fun i hi hi' => ?_)
    · exact permIn_all L R a m (fun x => ltB x d4[m]! = true) (by omega) hR (fun k hk hk' => by rw [eL k (by omega)]; exact hlo k hk hk') i hi hi'
    · rw [eR i (by omega)]
      exact permIn_all d4 L (m + 1) b (fun x => ltB x d4[m]! = false) hb4 hL (fun k hk hk' => hhi k (by omega) hk') i (by omega) hi'
end Go.Proofs.Ytbnhemmklbbnmaa

/-! ## SortPdq -/
namespace Go.Proofs.Ytbnhemmklbbnmaa
open Go.RowKit Go.Sort

def SortsTo (w0 : World) (blk off a b : Nat) (d : Array Nat) (e : Ending) (w' : World) : Prop :=
  e = .returned (.tuple #[]) ∧ ∃ d' : Array Nat, PermIn a b d d' ∧ SortedIn ltB a b d' ∧ Srt w0 blk off d' w'
/-- What is left to do: whatever sorted row comes of [a1, b1) of dk, the whole is sorted. -/
def Rest (a b : Nat) (d : Array Nat) (a1 b1 : Nat) (dk : Array Nat) : Prop := ∀ R, PermIn a1 b1 dk R → SortedIn ltB a1 b1 R → PermIn a b d R ∧ SortedIn ltB a b R
theorem Rest.perm {a b a1 b1 : Nat} {d dk dl : Array Nat} (h : Rest a b d a1 b1 dk) (hp : PermIn a1 b1 dk dl) : Rest a b d a1 b1 dl := fun R hR hs => h R (permIn_trans _ _ _ _ _ hp hR) hs
def PdqRel (w0 : World) (blk off N a b : Nat) (d : Array Nat) (gk : Nat) (v1 v2 v3 v8 v9 : Value) (wr : World) : Prop :=
  ∃ (a1 b1 l : Nat) (wb wp : Bool) (dk : Array Nat), v1 = .int .i64 (a1 : Int) ∧ v2 = .int .i64 (b1 : Int) ∧ v3 = .int .i64 (l : Int) ∧ v8 = .bool wb ∧ v9 = .bool wp ∧
    b1 - a1 ≤ gk ∧ b1 - a1 ≤ b - a ∧ a1 ≤ b1 ∧ b1 ≤ N ∧ l ≤ 64 ∧ dk.size = N ∧ Srt w0 blk off dk wr ∧ Below ltB a1 b1 dk ∧ Rest a b d a1 b1 dk
theorem mirror {a1 b1 p : Nat} (h1 : a1 ≤ p) (h2 : p < b1) : ∃ p2 : Nat, (b1 : Int) - 1 - ((p : Int) - (a1 : Int)) = (p2 : Int) ∧ a1 ≤ p2 ∧ p2 < b1 := ⟨b1 - 1 - (p - a1), by omega, by omega, by omega⟩
set_option maxRecDepth 100000 in
set_option maxHeartbeats 40000000 in
theorem pdq_s {w0 : World} {blk off cap N : Nat} (hsz : N < 50) : ∀ (n : Nat) {W : World} {a b l : Nat} {d : Array Nat}, b - a = n → a ≤ b → b ≤ N → Srt w0 blk off d W → d.size = N → Below ltB a b d → l ≤ 64 →
    Calls Try.prog 57 #[.slice (some ⟨blk, off, none⟩) N cap, .int .i64 a, .int .i64 b, .int .i64 l] W (SortsTo w0 blk off a b d) := by
  intro n
  induction n using Nat.strongRecOn with
  | _ n ih =>
  intro W a b l d hn hab hb h hN hB hl
  have IH := Lib.hid ih
  have HN0 := Lib.hid hn
  have H := Lib.hid h
  have HN := Lib.hid hN
  have HB0 := Lib.hid hB
  have HL0 := Lib.hid hl
  clear ih hn h hN hB hl
  go_enter Try.func57, Try.ntmps57
  go_wp2_with fail
  go_loopg [1, 2, 3, 8, 9] (b - a) (fun gk v1 v2 v3 v8 v9 wr => PdqRel w0 blk off N a b d gk v1 v2 v3 v8 v9 wr)
  case atStart => exact ⟨a, b, l, true, true, d, rfl, rfl, rfl, rfl, rfl, Nat.le_refl _, Nat.le_refl _, hab, hb, HL0.out, HN.out, H.out, HB0.out, fun R h1 h2 => ⟨h1, h2⟩⟩
  case round =>
    clear H HN HB0 HL0
    obtain ⟨a1, b1, l1, wb, wp, dk, rfl, rfl, rfl, rfl, rfl, hg, hgb, hab1, hbN, hl64, hs, hS, hBl, hRs⟩ := hrel
    have HGB : Hid (b1 - a1 ≤ gk ∧ b1 - a1 ≤ n) := by have := HN0.out; exact ⟨hg, by omega⟩
    have HSK := Lib.hid hs
    have HS := Lib.hid hS
    have HB := Lib.hid hBl
    have HR := Lib.hid hRs
    have HL := Lib.hid hl64
    clear hg hgb hs hS hBl hRs
    obtain ⟨m, hm⟩ : ∃ m, b1 = a1 + m := ⟨b1 - a1, by omega⟩
    have hmI : (b1 : Int) - (a1 : Int) = (m : Int) := by omega
    have hm50 : m < 50 := by omega
    have HM := Lib.hid hm
    by_cases h12 : m ≤ 12
    · have h12I : (m : Int) ≤ 12 := by omega
      clear hm
      go_wp2_with fail
      refine (insertion_s HS.out HSK.out hab1 hbN (by omega)).mono ?_
      rintro e w1 ⟨rfl, hS1⟩
      have HS1 := Lib.hid hS1
      have HE := Lib.hid (insertionSort_holds swo_ltB dk a1 b1 hab1 (by rw [HSK.out]; exact hbN))
      clear hS1
      go_wp2
      go_end0
      exact ⟨rfl, _, (HR.out _ HE.out.1 HE.out.2).1, (HR.out _ HE.out.1 HE.out.2).2, HS1.out⟩
    · have h12I : ¬ (m : Int) ≤ 12 := by omega
      have H13 : Hid (a1 + 12 < b1) := by show _ < _; omega
      clear hm
      by_cases hl0 : l1 = 0
      · subst hl0
        go_wp2_with fail
        refine (heap_s HS.out HSK.out (by have := H13.out; omega) hbN hsz).mono ?_
        rintro e w1 ⟨rfl, hS1⟩
        have HS1 := Lib.hid hS1
        have HE := Lib.hid (heapSort_holds swo_ltB dk a1 b1 hab1 (by rw [HSK.out]; exact hbN))
        clear hS1
        go_wp2
        go_end0
        exact ⟨rfl, _, (HR.out _ HE.out.1 HE.out.2).1, (HR.out _ HE.out.1 HE.out.2).2, HS1.out⟩
      · have hl0B : ((l1 : Int) == 0) = false := by simp; omega
        cases wb
        · obtain ⟨l2, hl2'⟩ : ∃ c, l1 = c + 1 := ⟨l1 - 1, by omega⟩
          have hl2I : (l1 : Int) - 1 = (l2 : Int) := by omega
          have HL2l : Hid (l2 ≤ 64) := by show _ ≤ _; omega
          have hwl2 : wrap64 (l2 : Int) = (l2 : Int) := by unfold wrap64; omega
          have hwl3 : IntKind.i64.wrap (l2 : Int) = (l2 : Int) := by rw [IntKind.wrap_i64]; omega
          clear hl2' hl0
          go_wp2_with fail
          refine (break_s HS.out HSK.out hbN hsz (by have := H13.out; omega)).mono ?_
          rintro e w1 ⟨rfl, dk, hPv, hs1, hS1⟩
          have HS3 := Lib.hid hS1
          have HB2 := Lib.hid (HB.out.perm (by rw [HSK.out]; exact hbN) hPv)
          have HR2 := Lib.hid (HR.out.perm hPv)
          have HSK2 := Lib.hid hs1
          clear HB HR HSK HS hPv hs1 hS1 HL hl64
          have HB := Lib.hid HB2.out
          have HR := Lib.hid HR2.out
          have HSK := Lib.hid HSK2.out
          have HS := Lib.hid HS3.out
          have HL := Lib.hid HL2l.out
          clear HB2 HR2 HSK2 HS3 HL2l
          go_wp2_with fail
          refine (pivot_s HS.out HSK.out hbN hsz (by have := H13.out; omega)).mono ?_
          rintro e w2 ⟨p, q, rfl, hp1, hp2, hq, hS2⟩
          have HS2 := Lib.hid hS2
          have HP := Lib.hid (And.intro hp1 hp2)
          clear hS2 HS
          obtain rfl | rfl | rfl : q = 0 ∨ q = 1 ∨ q = 2 := by omega
          · as_aux_lemma =>
              have HS := Lib.hid HS2.out
              clear HS2 hq hp1 hp2
              go_wp2_with fail
              by_cases ha0 : a1 = 0
              · have ha0I : decide ((0 : Int) < (a1 : Int)) = false := by simp; omega
                have ha0N : decide (0 < a1) = false := by simp; omega
                clear ha0
                go_quiet (fail)
                have HS5 := Lib.hid (HS.out.drewN nq)
                clear HS
                go_wp2_with fail
                have HS := Lib.hid HS5.out
                refine (part_s HS.out HSK.out hbN hsz (by have := H13.out; omega) HP.out.1 HP.out.2).mono ?_
                rintro e w5 ⟨mid, r, d4, rfl, hPd, hS4⟩
                have hmid1 := hPd.am
                have hmid2 := hPd.mb
                have HPR := Lib.hid (part_round hPd (by rw [HSK.out]; exact hbN) HB.out)
                have HS4 := Lib.hid hS4
                have HSK4 := Lib.hid hPd.size
                clear hPd hS4
                obtain ⟨le, hle⟩ : ∃ c, mid = a1 + c := ⟨mid - a1, by omega⟩
                obtain ⟨ri, hri⟩ : ∃ c, b1 = mid + c := ⟨b1 - mid, by omega⟩
                have hleI : (mid : Int) - (a1 : Int) = (le : Int) := by omega
                have hriI : (b1 : Int) - (mid : Int) = (ri : Int) := by omega
                have HLR : Hid (mid = a1 + le ∧ b1 = mid + ri ∧ b1 = a1 + m ∧ 1 ≤ ri) := by have := HM.out; exact ⟨hle, hri, by omega, by omega⟩
                clear hle hri
                by_cases hlr : le < ri
                · have hlrI : (le : Int) < (ri : Int) := by omega
                  go_wp2_with fail
                  refine (IH.out le (by have := HLR.out; have := HGB.out; have := HN0.out; omega) (W := w5) (d := d4) (a := a1) (b := mid) (l := l2) (by have := HLR.out; omega) (by omega) (by omega) HS4.out HSK4.out HPR.out.1 (by have := HL.out; omega)).mono ?_
                  rintro e w6 ⟨rfl, L, hL1, hL2, hS6⟩
                  have HS6 := Lib.hid hS6
                  have HL6 := Lib.hid (HPR.out.2.2.1 L hL1 hL2)
                  have HSZ : Hid (L.size = N) := by show _ = _; rw [hL1.1]; exact HSK4.out
                  clear hL1 hL2 hS6
                  go_wp2_with fail
                  go_roundg (gk - 1)
                  case measure => have := HLR.out; have := HGB.out; have := H13.out; omega
                  case rel => exact ⟨mid + 1, b1, l2, _, r, L, by go_num, rfl, rfl, rfl, rfl, by have := HLR.out; have := HGB.out; have := HN0.out; omega, by have := HLR.out; have := HGB.out; have := HN0.out; omega, by have := HLR.out; omega, hbN, by have := HL.out; omega, HSZ.out, HS6.out, HL6.out.1, fun R hR hs => have hh := HL6.out.2 R hR hs; HR.out R hh.1 hh.2⟩
                · have hlrI : ¬ (le : Int) < (ri : Int) := by omega
                  obtain ⟨m1, hm1⟩ : ∃ c, c = mid + 1 := ⟨_, rfl⟩
                  have hm1I : (mid : Int) + 1 = (m1 : Int) := by omega
                  have HM1 := Lib.hid hm1
                  rw [← hm1] at HPR
                  clear hm1
                  go_wp2_with fail
                  refine (IH.out (ri - 1) (by have := HLR.out; have := HGB.out; have := HN0.out; omega) (W := w5) (d := d4) (a := m1) (b := b1) (l := l2) (by have := HLR.out; have := HM1.out; omega) (by have := HM1.out; omega) hbN HS4.out HSK4.out HPR.out.2.1 (by have := HL.out; omega)).mono ?_
                  rintro e w6 ⟨rfl, L, hL1, hL2, hS6⟩
                  have HS6 := Lib.hid hS6
                  have HL6 := Lib.hid (HPR.out.2.2.2 L hL1 hL2)
                  have HSZ : Hid (L.size = N) := by show _ = _; rw [hL1.1]; exact HSK4.out
                  clear hL1 hL2 hS6
                  go_wp2_with fail
                  go_roundg (gk - 1)
                  case measure => have := HLR.out; have := HGB.out; have := H13.out; omega
                  case rel => exact ⟨a1, mid, l2, _, r, L, rfl, rfl, rfl, rfl, rfl, by have := HLR.out; have := HGB.out; have := HN0.out; omega, by have := HLR.out; have := HGB.out; have := HN0.out; omega, by omega, by omega, by have := HL.out; omega, HSZ.out, HS6.out, HL6.out.1, fun R hR hs => have hh := HL6.out.2 R hR hs; HR.out R hh.1 hh.2⟩
              · have ha0I : (0 : Int) < (a1 : Int) := by omega
                have ha0P : 0 < a1 := by omega
                have ha0D : decide (0 < a1) = true := by simp; omega
                have ha0E : decide ((0 : Int) < (a1 : Int)) = true := by simp; omega
                obtain ⟨a0, ha0'⟩ : ∃ c, a1 = c + 1 := ⟨a1 - 1, by omega⟩
                have ha0J : (a1 : Int) - 1 = (a0 : Int) := by omega
                have hwa0 : IntKind.i64.wrap (a0 : Int) = (a0 : Int) := by rw [IntKind.wrap_i64]; omega
                have h00 : (0 : Int) ≤ (a0 : Int) := by omega
                have ha0N : (a0 : Int) < (N : Int) := by omega
                have hpN : (p : Int) < (N : Int) := by have := HP.out; omega
                have hp0 : (0 : Int) ≤ (p : Int) := by omega
                have hc0 := HS.out.cell (t := a0) (by rw [HSK.out]; omega)
                have hcp := HS.out.cell (t := p) (by rw [HSK.out]; have := HP.out; omega)
                have HA0 : Hid (a1 - 1 = a0 ∧ 0 < a1) := by exact ⟨by omega, by omega⟩
                cases hl2 : ltB dk[a0]! dk[p]!
                · have HL2 := Lib.hid hl2
                  clear hl2 ha0 ha0'
                  have HL2' := Lib.hid HL2.out
                  generalize dk[a0]! = x at hc0 HL2
                  generalize dk[p]! = y at hcp HL2
                  go_quiet (first | (go_at_call 78; refine Calls.quiet_of_same (cmpLess_is _ _ _ _ HL2.out)))
                  have HS5 := Lib.hid (HS.out.drewN nq)
                  clear HS hc0 hcp
                  go_wp2_with fail
                  refine (equal_s HS5.out HSK.out hbN hsz (by have := H13.out; omega) HP.out.1 HP.out.2).mono ?_
                  rintro e w5 ⟨mid, d4, rfl, hPE, hS4⟩
                  have hmid1 := hPE.am
                  have hmid2 := hPE.mb
                  have HER := Lib.hid (equal_round hPE HA0.out.2 (by rw [HSK.out]; exact hbN) HB.out (by rw [HA0.out.1]; exact HL2'.out))
                  have HS4 := Lib.hid hS4
                  have HSK4 := Lib.hid hPE.size
                  clear hPE hS4
                  go_wp2_with fail
                  go_roundg (gk - 1)
                  case measure => have := HGB.out; have := H13.out; omega
                  case rel => exact ⟨mid, b1, l2, false, wp, d4, rfl, rfl, rfl, rfl, rfl, by have := HGB.out; have := HN0.out; omega, by have := HGB.out; have := HN0.out; omega, by omega, hbN, by have := HL.out; omega, HSK4.out, HS4.out, HER.out.1, fun R hR hs => have hh := HER.out.2 R hR hs; HR.out R hh.1 hh.2⟩
                · have HL2 := Lib.hid hl2
                  clear hl2 ha0 ha0'
                  generalize dk[a0]! = x at hc0 HL2
                  generalize dk[p]! = y at hcp HL2
                  go_quiet (first | (go_at_call 78; refine Calls.quiet_of_same (cmpLess_is _ _ _ _ HL2.out)))
                  have HS5 := Lib.hid (HS.out.drewN nq)
                  clear HS hc0 hcp
                  go_wp2_with fail
                  have HS := Lib.hid HS5.out
                  refine (part_s HS.out HSK.out hbN hsz (by have := H13.out; omega) HP.out.1 HP.out.2).mono ?_
                  rintro e w5 ⟨mid, r, d4, rfl, hPd, hS4⟩
                  have hmid1 := hPd.am
                  have hmid2 := hPd.mb
                  have HPR := Lib.hid (part_round hPd (by rw [HSK.out]; exact hbN) HB.out)
                  have HS4 := Lib.hid hS4
                  have HSK4 := Lib.hid hPd.size
                  clear hPd hS4
                  obtain ⟨le, hle⟩ : ∃ c, mid = a1 + c := ⟨mid - a1, by omega⟩
                  obtain ⟨ri, hri⟩ : ∃ c, b1 = mid + c := ⟨b1 - mid, by omega⟩
                  have hleI : (mid : Int) - (a1 : Int) = (le : Int) := by omega
                  have hriI : (b1 : Int) - (mid : Int) = (ri : Int) := by omega
                  have HLR : Hid (mid = a1 + le ∧ b1 = mid + ri ∧ b1 = a1 + m ∧ 1 ≤ ri) := by have := HM.out; exact ⟨hle, hri, by omega, by omega⟩
                  clear hle hri
                  by_cases hlr : le < ri
                  · have hlrI : (le : Int) < (ri : Int) := by omega
                    go_wp2_with fail
                    refine (IH.out le (by have := HLR.out; have := HGB.out; have := HN0.out; omega) (W := w5) (d := d4) (a := a1) (b := mid) (l := l2) (by have := HLR.out; omega) (by omega) (by omega) HS4.out HSK4.out HPR.out.1 (by have := HL.out; omega)).mono ?_
                    rintro e w6 ⟨rfl, L, hL1, hL2, hS6⟩
                    have HS6 := Lib.hid hS6
                    have HL6 := Lib.hid (HPR.out.2.2.1 L hL1 hL2)
                    have HSZ : Hid (L.size = N) := by show _ = _; rw [hL1.1]; exact HSK4.out
                    clear hL1 hL2 hS6
                    go_wp2_with fail
                    go_roundg (gk - 1)
                    case measure => have := HLR.out; have := HGB.out; have := H13.out; omega
                    case rel => exact ⟨mid + 1, b1, l2, _, r, L, by go_num, rfl, rfl, rfl, rfl, by have := HLR.out; have := HGB.out; have := HN0.out; omega, by have := HLR.out; have := HGB.out; have := HN0.out; omega, by have := HLR.out; omega, hbN, by have := HL.out; omega, HSZ.out, HS6.out, HL6.out.1, fun R hR hs => have hh := HL6.out.2 R hR hs; HR.out R hh.1 hh.2⟩
                  · have hlrI : ¬ (le : Int) < (ri : Int) := by omega
                    obtain ⟨m1, hm1⟩ : ∃ c, c = mid + 1 := ⟨_, rfl⟩
                    have hm1I : (mid : Int) + 1 = (m1 : Int) := by omega
                    have HM1 := Lib.hid hm1
                    rw [← hm1] at HPR
                    clear hm1
                    go_wp2_with fail
                    refine (IH.out (ri - 1) (by have := HLR.out; have := HGB.out; have := HN0.out; omega) (W := w5) (d := d4) (a := m1) (b := b1) (l := l2) (by have := HLR.out; have := HM1.out; omega) (by have := HM1.out; omega) hbN HS4.out HSK4.out HPR.out.2.1 (by have := HL.out; omega)).mono ?_
                    rintro e w6 ⟨rfl, L, hL1, hL2, hS6⟩
                    have HS6 := Lib.hid hS6
                    have HL6 := Lib.hid (HPR.out.2.2.2 L hL1 hL2)
                    have HSZ : Hid (L.size = N) := by show _ = _; rw [hL1.1]; exact HSK4.out
                    clear hL1 hL2 hS6
                    go_wp2_with fail
                    go_roundg (gk - 1)
                    case measure => have := HLR.out; have := HGB.out; have := H13.out; omega
                    case rel => exact ⟨a1, mid, l2, _, r, L, rfl, rfl, rfl, rfl, rfl, by have := HLR.out; have := HGB.out; have := HN0.out; omega, by have := HLR.out; have := HGB.out; have := HN0.out; omega, by omega, by omega, by have := HL.out; omega, HSZ.out, HS6.out, HL6.out.1, fun R hR hs => have hh := HL6.out.2 R hR hs; HR.out R hh.1 hh.2⟩
          · as_aux_lemma =>
              have HS := Lib.hid HS2.out
              clear HS2 hq hp1 hp2
              go_wp2_with fail
              by_cases ha0 : a1 = 0
              · have ha0I : decide ((0 : Int) < (a1 : Int)) = false := by simp; omega
                have ha0N : decide (0 < a1) = false := by simp; omega
                clear ha0
                go_quiet (fail)
                have HS5 := Lib.hid (HS.out.drewN nq)
                clear HS
                go_wp2_with fail
                have HS := Lib.hid HS5.out
                refine (part_s HS.out HSK.out hbN hsz (by have := H13.out; omega) HP.out.1 HP.out.2).mono ?_
                rintro e w5 ⟨mid, r, d4, rfl, hPd, hS4⟩
                have hmid1 := hPd.am
                have hmid2 := hPd.mb
                have HPR := Lib.hid (part_round hPd (by rw [HSK.out]; exact hbN) HB.out)
                have HS4 := Lib.hid hS4
                have HSK4 := Lib.hid hPd.size
                clear hPd hS4
                obtain ⟨le, hle⟩ : ∃ c, mid = a1 + c := ⟨mid - a1, by omega⟩
                obtain ⟨ri, hri⟩ : ∃ c, b1 = mid + c := ⟨b1 - mid, by omega⟩
                have hleI : (mid : Int) - (a1 : Int) = (le : Int) := by omega
                have hriI : (b1 : Int) - (mid : Int) = (ri : Int) := by omega
                have HLR : Hid (mid = a1 + le ∧ b1 = mid + ri ∧ b1 = a1 + m ∧ 1 ≤ ri) := by have := HM.out; exact ⟨hle, hri, by omega, by omega⟩
                clear hle hri
                by_cases hlr : le < ri
                · have hlrI : (le : Int) < (ri : Int) := by omega
                  go_wp2_with fail
                  refine (IH.out le (by have := HLR.out; have := HGB.out; have := HN0.out; omega) (W := w5) (d := d4) (a := a1) (b := mid) (l := l2) (by have := HLR.out; omega) (by omega) (by omega) HS4.out HSK4.out HPR.out.1 (by have := HL.out; omega)).mono ?_
                  rintro e w6 ⟨rfl, L, hL1, hL2, hS6⟩
                  have HS6 := Lib.hid hS6
                  have HL6 := Lib.hid (HPR.out.2.2.1 L hL1 hL2)
                  have HSZ : Hid (L.size = N) := by show _ = _; rw [hL1.1]; exact HSK4.out
                  clear hL1 hL2 hS6
                  go_wp2_with fail
                  go_roundg (gk - 1)
                  case measure => have := HLR.out; have := HGB.out; have := H13.out; omega
                  case rel => exact ⟨mid + 1, b1, l2, _, r, L, by go_num, rfl, rfl, rfl, rfl, by have := HLR.out; have := HGB.out; have := HN0.out; omega, by have := HLR.out; have := HGB.out; have := HN0.out; omega, by have := HLR.out; omega, hbN, by have := HL.out; omega, HSZ.out, HS6.out, HL6.out.1, fun R hR hs => have hh := HL6.out.2 R hR hs; HR.out R hh.1 hh.2⟩
                · have hlrI : ¬ (le : Int) < (ri : Int) := by omega
                  obtain ⟨m1, hm1⟩ : ∃ c, c = mid + 1 := ⟨_, rfl⟩
                  have hm1I : (mid : Int) + 1 = (m1 : Int) := by omega
                  have HM1 := Lib.hid hm1
                  rw [← hm1] at HPR
                  clear hm1
                  go_wp2_with fail
                  refine (IH.out (ri - 1) (by have := HLR.out; have := HGB.out; have := HN0.out; omega) (W := w5) (d := d4) (a := m1) (b := b1) (l := l2) (by have := HLR.out; have := HM1.out; omega) (by have := HM1.out; omega) hbN HS4.out HSK4.out HPR.out.2.1 (by have := HL.out; omega)).mono ?_
                  rintro e w6 ⟨rfl, L, hL1, hL2, hS6⟩
                  have HS6 := Lib.hid hS6
                  have HL6 := Lib.hid (HPR.out.2.2.2 L hL1 hL2)
                  have HSZ : Hid (L.size = N) := by show _ = _; rw [hL1.1]; exact HSK4.out
                  clear hL1 hL2 hS6
                  go_wp2_with fail
                  go_roundg (gk - 1)
                  case measure => have := HLR.out; have := HGB.out; have := H13.out; omega
                  case rel => exact ⟨a1, mid, l2, _, r, L, rfl, rfl, rfl, rfl, rfl, by have := HLR.out; have := HGB.out; have := HN0.out; omega, by have := HLR.out; have := HGB.out; have := HN0.out; omega, by omega, by omega, by have := HL.out; omega, HSZ.out, HS6.out, HL6.out.1, fun R hR hs => have hh := HL6.out.2 R hR hs; HR.out R hh.1 hh.2⟩
              · have ha0I : (0 : Int) < (a1 : Int) := by omega
                have ha0P : 0 < a1 := by omega
                have ha0D : decide (0 < a1) = true := by simp; omega
                have ha0E : decide ((0 : Int) < (a1 : Int)) = true := by simp; omega
                obtain ⟨a0, ha0'⟩ : ∃ c, a1 = c + 1 := ⟨a1 - 1, by omega⟩
                have ha0J : (a1 : Int) - 1 = (a0 : Int) := by omega
                have hwa0 : IntKind.i64.wrap (a0 : Int) = (a0 : Int) := by rw [IntKind.wrap_i64]; omega
                have h00 : (0 : Int) ≤ (a0 : Int) := by omega
                have ha0N : (a0 : Int) < (N : Int) := by omega
                have hpN : (p : Int) < (N : Int) := by have := HP.out; omega
                have hp0 : (0 : Int) ≤ (p : Int) := by omega
                have hc0 := HS.out.cell (t := a0) (by rw [HSK.out]; omega)
                have hcp := HS.out.cell (t := p) (by rw [HSK.out]; have := HP.out; omega)
                have HA0 : Hid (a1 - 1 = a0 ∧ 0 < a1) := by exact ⟨by omega, by omega⟩
                cases hl2 : ltB dk[a0]! dk[p]!
                · have HL2 := Lib.hid hl2
                  clear hl2 ha0 ha0'
                  have HL2' := Lib.hid HL2.out
                  generalize dk[a0]! = x at hc0 HL2
                  generalize dk[p]! = y at hcp HL2
                  go_quiet (first | (go_at_call 78; refine Calls.quiet_of_same (cmpLess_is _ _ _ _ HL2.out)))
                  have HS5 := Lib.hid (HS.out.drewN nq)
                  clear HS hc0 hcp
                  go_wp2_with fail
                  refine (equal_s HS5.out HSK.out hbN hsz (by have := H13.out; omega) HP.out.1 HP.out.2).mono ?_
                  rintro e w5 ⟨mid, d4, rfl, hPE, hS4⟩
                  have hmid1 := hPE.am
                  have hmid2 := hPE.mb
                  have HER := Lib.hid (equal_round hPE HA0.out.2 (by rw [HSK.out]; exact hbN) HB.out (by rw [HA0.out.1]; exact HL2'.out))
                  have HS4 := Lib.hid hS4
                  have HSK4 := Lib.hid hPE.size
                  clear hPE hS4
                  go_wp2_with fail
                  go_roundg (gk - 1)
                  case measure => have := HGB.out; have := H13.out; omega
                  case rel => exact ⟨mid, b1, l2, false, wp, d4, rfl, rfl, rfl, rfl, rfl, by have := HGB.out; have := HN0.out; omega, by have := HGB.out; have := HN0.out; omega, by omega, hbN, by have := HL.out; omega, HSK4.out, HS4.out, HER.out.1, fun R hR hs => have hh := HER.out.2 R hR hs; HR.out R hh.1 hh.2⟩
                · have HL2 := Lib.hid hl2
                  clear hl2 ha0 ha0'
                  generalize dk[a0]! = x at hc0 HL2
                  generalize dk[p]! = y at hcp HL2
                  go_quiet (first | (go_at_call 78; refine Calls.quiet_of_same (cmpLess_is _ _ _ _ HL2.out)))
                  have HS5 := Lib.hid (HS.out.drewN nq)
                  clear HS hc0 hcp
                  go_wp2_with fail
                  have HS := Lib.hid HS5.out
                  refine (part_s HS.out HSK.out hbN hsz (by have := H13.out; omega) HP.out.1 HP.out.2).mono ?_
                  rintro e w5 ⟨mid, r, d4, rfl, hPd, hS4⟩
                  have hmid1 := hPd.am
                  have hmid2 := hPd.mb
                  have HPR := Lib.hid (part_round hPd (by rw [HSK.out]; exact hbN) HB.out)
                  have HS4 := Lib.hid hS4
                  have HSK4 := Lib.hid hPd.size
                  clear hPd hS4
                  obtain ⟨le, hle⟩ : ∃ c, mid = a1 + c := ⟨mid - a1, by omega⟩
                  obtain ⟨ri, hri⟩ : ∃ c, b1 = mid + c := ⟨b1 - mid, by omega⟩
                  have hleI : (mid : Int) - (a1 : Int) = (le : Int) := by omega
                  have hriI : (b1 : Int) - (mid : Int) = (ri : Int) := by omega
                  have HLR : Hid (mid = a1 + le ∧ b1 = mid + ri ∧ b1 = a1 + m ∧ 1 ≤ ri) := by have := HM.out; exact ⟨hle, hri, by omega, by omega⟩
                  clear hle hri
                  by_cases hlr : le < ri
                  · have hlrI : (le : Int) < (ri : Int) := by omega
                    go_wp2_with fail
                    refine (IH.out le (by have := HLR.out; have := HGB.out; have := HN0.out; omega) (W := w5) (d := d4) (a := a1) (b := mid) (l := l2) (by have := HLR.out; omega) (by omega) (by omega) HS4.out HSK4.out HPR.out.1 (by have := HL.out; omega)).mono ?_
                    rintro e w6 ⟨rfl, L, hL1, hL2, hS6⟩
                    have HS6 := Lib.hid hS6
                    have HL6 := Lib.hid (HPR.out.2.2.1 L hL1 hL2)
                    have HSZ : Hid (L.size = N) := by show _ = _; rw [hL1.1]; exact HSK4.out
                    clear hL1 hL2 hS6
                    go_wp2_with fail
                    go_roundg (gk - 1)
                    case measure => have := HLR.out; have := HGB.out; have := H13.out; omega
                    case rel => exact ⟨mid + 1, b1, l2, _, r, L, by go_num, rfl, rfl, rfl, rfl, by have := HLR.out; have := HGB.out; have := HN0.out; omega, by have := HLR.out; have := HGB.out; have := HN0.out; omega, by have := HLR.out; omega, hbN, by have := HL.out; omega, HSZ.out, HS6.out, HL6.out.1, fun R hR hs => have hh := HL6.out.2 R hR hs; HR.out R hh.1 hh.2⟩
                  · have hlrI : ¬ (le : Int) < (ri : Int) := by omega
                    obtain ⟨m1, hm1⟩ : ∃ c, c = mid + 1 := ⟨_, rfl⟩
                    have hm1I : (mid : Int) + 1 = (m1 : Int) := by omega
                    have HM1 := Lib.hid hm1
                    rw [← hm1] at HPR
                    clear hm1
                    go_wp2_with fail
                    refine (IH.out (ri - 1) (by have := HLR.out; have := HGB.out; have := HN0.out; omega) (W := w5) (d := d4) (a := m1) (b := b1) (l := l2) (by have := HLR.out; have := HM1.out; omega) (by have := HM1.out; omega) hbN HS4.out HSK4.out HPR.out.2.1 (by have := HL.out; omega)).mono ?_
                    rintro e w6 ⟨rfl, L, hL1, hL2, hS6⟩
                    have HS6 := Lib.hid hS6
                    have HL6 := Lib.hid (HPR.out.2.2.2 L hL1 hL2)
                    have HSZ : Hid (L.size = N) := by show _ = _; rw [hL1.1]; exact HSK4.out
                    clear hL1 hL2 hS6
                    go_wp2_with fail
                    go_roundg (gk - 1)
                    case measure => have := HLR.out; have := HGB.out; have := H13.out; omega
                    case rel => exact ⟨a1, mid, l2, _, r, L, rfl, rfl, rfl, rfl, rfl, by have := HLR.out; have := HGB.out; have := HN0.out; omega, by have := HLR.out; have := HGB.out; have := HN0.out; omega, by omega, by omega, by have := HL.out; omega, HSZ.out, HS6.out, HL6.out.1, fun R hR hs => have hh := HL6.out.2 R hR hs; HR.out R hh.1 hh.2⟩
          · as_aux_lemma =>
              obtain ⟨p, hp2I, hp3, hp4⟩ := mirror hp1 hp2
              clear hq
              go_wp2_with fail
              refine (reverse_s HS2.out HSK.out (by have := H13.out; omega) hbN hsz).mono ?_
              rintro e w3 ⟨rfl, hS3⟩
              have hPv := reverseRange_holds dk a1 b1 (by omega) (by rw [HSK.out]; exact hbN)
              obtain ⟨dk, hdl⟩ : ∃ c, c = Sort.reverseRange dk a1 b1 := ⟨_, rfl⟩
              rw [← hdl] at hS3 hPv
              have HS := Lib.hid hS3
              have HB2 := Lib.hid (HB.out.perm (by rw [HSK.out]; exact hbN) hPv)
              have HR2 := Lib.hid (HR.out.perm hPv)
              have HSK2 : Hid (dk.size = N) := by show _ = _; rw [hPv.1]; exact HSK.out
              clear HB HR HSK HS2 hS3 hdl hPv HP
              have HB := Lib.hid HB2.out
              have HR := Lib.hid HR2.out
              have HSK := Lib.hid HSK2.out
              have HP := Lib.hid (And.intro hp3 hp4)
              clear HB2 HR2 HSK2 hp3 hp4 hp1 hp2
              go_outline
              go_wp2_with fail
              by_cases ha0 : a1 = 0
              · have ha0I : decide ((0 : Int) < (a1 : Int)) = false := by simp; omega
                have ha0N : decide (0 < a1) = false := by simp; omega
                clear ha0
                go_quiet (fail)
                have HS5 := Lib.hid (HS.out.drewN nq)
                clear HS
                go_wp2_with fail
                have HS := Lib.hid HS5.out
                refine (part_s HS.out HSK.out hbN hsz (by have := H13.out; omega) HP.out.1 HP.out.2).mono ?_
                rintro e w5 ⟨mid, r, d4, rfl, hPd, hS4⟩
                have hmid1 := hPd.am
                have hmid2 := hPd.mb
                have HPR := Lib.hid (part_round hPd (by rw [HSK.out]; exact hbN) HB.out)
                have HS4 := Lib.hid hS4
                have HSK4 := Lib.hid hPd.size
                clear hPd hS4
                obtain ⟨le, hle⟩ : ∃ c, mid = a1 + c := ⟨mid - a1, by omega⟩
                obtain ⟨ri, hri⟩ : ∃ c, b1 = mid + c := ⟨b1 - mid, by omega⟩
                have hleI : (mid : Int) - (a1 : Int) = (le : Int) := by omega
                have hriI : (b1 : Int) - (mid : Int) = (ri : Int) := by omega
                have HLR : Hid (mid = a1 + le ∧ b1 = mid + ri ∧ b1 = a1 + m ∧ 1 ≤ ri) := by have := HM.out; exact ⟨hle, hri, by omega, by omega⟩
                clear hle hri
                by_cases hlr : le < ri
                · have hlrI : (le : Int) < (ri : Int) := by omega
                  go_wp2_with fail
                  refine (IH.out le (by have := HLR.out; have := HGB.out; have := HN0.out; omega) (W := w5) (d := d4) (a := a1) (b := mid) (l := l2) (by have := HLR.out; omega) (by omega) (by omega) HS4.out HSK4.out HPR.out.1 (by have := HL.out; omega)).mono ?_
                  rintro e w6 ⟨rfl, L, hL1, hL2, hS6⟩
                  have HS6 := Lib.hid hS6
                  have HL6 := Lib.hid (HPR.out.2.2.1 L hL1 hL2)
                  have HSZ : Hid (L.size = N) := by show _ = _; rw [hL1.1]; exact HSK4.out
                  clear hL1 hL2 hS6
                  go_wp2_with fail
                  go_roundg (gk - 1)
                  case measure => have := HLR.out; have := HGB.out; have := H13.out; omega
                  case rel => exact ⟨mid + 1, b1, l2, _, r, L, by go_num, rfl, rfl, rfl, rfl, by have := HLR.out; have := HGB.out; have := HN0.out; omega, by have := HLR.out; have := HGB.out; have := HN0.out; omega, by have := HLR.out; omega, hbN, by have := HL.out; omega, HSZ.out, HS6.out, HL6.out.1, fun R hR hs => have hh := HL6.out.2 R hR hs; HR.out R hh.1 hh.2⟩
                · have hlrI : ¬ (le : Int) < (ri : Int) := by omega
                  obtain ⟨m1, hm1⟩ : ∃ c, c = mid + 1 := ⟨_, rfl⟩
                  have hm1I : (mid : Int) + 1 = (m1 : Int) := by omega
                  have HM1 := Lib.hid hm1
                  rw [← hm1] at HPR
                  clear hm1
                  go_wp2_with fail
                  refine (IH.out (ri - 1) (by have := HLR.out; have := HGB.out; have := HN0.out; omega) (W := w5) (d := d4) (a := m1) (b := b1) (l := l2) (by have := HLR.out; have := HM1.out; omega) (by have := HM1.out; omega) hbN HS4.out HSK4.out HPR.out.2.1 (by have := HL.out; omega)).mono ?_
                  rintro e w6 ⟨rfl, L, hL1, hL2, hS6⟩
                  have HS6 := Lib.hid hS6
                  have HL6 := Lib.hid (HPR.out.2.2.2 L hL1 hL2)
                  have HSZ : Hid (L.size = N) := by show _ = _; rw [hL1.1]; exact HSK4.out
                  clear hL1 hL2 hS6
                  go_wp2_with fail
                  go_roundg (gk - 1)
                  case measure => have := HLR.out; have := HGB.out; have := H13.out; omega
                  case rel => exact ⟨a1, mid, l2, _, r, L, rfl, rfl, rfl, rfl, rfl, by have := HLR.out; have := HGB.out; have := HN0.out; omega, by have := HLR.out; have := HGB.out; have := HN0.out; omega, by omega, by omega, by have := HL.out; omega, HSZ.out, HS6.out, HL6.out.1, fun R hR hs => have hh := HL6.out.2 R hR hs; HR.out R hh.1 hh.2⟩
              · have ha0I : (0 : Int) < (a1 : Int) := by omega
                have ha0P : 0 < a1 := by omega
                have ha0D : decide (0 < a1) = true := by simp; omega
                have ha0E : decide ((0 : Int) < (a1 : Int)) = true := by simp; omega
                obtain ⟨a0, ha0'⟩ : ∃ c, a1 = c + 1 := ⟨a1 - 1, by omega⟩
                have ha0J : (a1 : Int) - 1 = (a0 : Int) := by omega
                have hwa0 : IntKind.i64.wrap (a0 : Int) = (a0 : Int) := by rw [IntKind.wrap_i64]; omega
                have h00 : (0 : Int) ≤ (a0 : Int) := by omega
                have ha0N : (a0 : Int) < (N : Int) := by omega
                have hpN : (p : Int) < (N : Int) := by have := HP.out; omega
                have hp0 : (0 : Int) ≤ (p : Int) := by omega
                have hc0 := HS.out.cell (t := a0) (by rw [HSK.out]; omega)
                have hcp := HS.out.cell (t := p) (by rw [HSK.out]; have := HP.out; omega)
                have HA0 : Hid (a1 - 1 = a0 ∧ 0 < a1) := by exact ⟨by omega, by omega⟩
                cases hl2 : ltB dk[a0]! dk[p]!
                · have HL2 := Lib.hid hl2
                  clear hl2 ha0 ha0'
                  have HL2' := Lib.hid HL2.out
                  generalize dk[a0]! = x at hc0 HL2
                  generalize dk[p]! = y at hcp HL2
                  go_quiet (first | (go_at_call 78; refine Calls.quiet_of_same (cmpLess_is _ _ _ _ HL2.out)))
                  have HS5 := Lib.hid (HS.out.drewN nq)
                  clear HS hc0 hcp
                  go_wp2_with fail
                  refine (equal_s HS5.out HSK.out hbN hsz (by have := H13.out; omega) HP.out.1 HP.out.2).mono ?_
                  rintro e w5 ⟨mid, d4, rfl, hPE, hS4⟩
                  have hmid1 := hPE.am
                  have hmid2 := hPE.mb
                  have HER := Lib.hid (equal_round hPE HA0.out.2 (by rw [HSK.out]; exact hbN) HB.out (by rw [HA0.out.1]; exact HL2'.out))
                  have HS4 := Lib.hid hS4
                  have HSK4 := Lib.hid hPE.size
                  clear hPE hS4
                  go_wp2_with fail
                  go_roundg (gk - 1)
                  case measure => have := HGB.out; have := H13.out; omega
                  case rel => exact ⟨mid, b1, l2, false, wp, d4, rfl, rfl, rfl, rfl, rfl, by have := HGB.out; have := HN0.out; omega, by have := HGB.out; have := HN0.out; omega, by omega, hbN, by have := HL.out; omega, HSK4.out, HS4.out, HER.out.1, fun R hR hs => have hh := HER.out.2 R hR hs; HR.out R hh.1 hh.2⟩
                · have HL2 := Lib.hid hl2
                  clear hl2 ha0 ha0'
                  generalize dk[a0]! = x at hc0 HL2
                  generalize dk[p]! = y at hcp HL2
                  go_quiet (first | (go_at_call 78; refine Calls.quiet_of_same (cmpLess_is _ _ _ _ HL2.out)))
                  have HS5 := Lib.hid (HS.out.drewN nq)
                  clear HS hc0 hcp
                  go_wp2_with fail
                  have HS := Lib.hid HS5.out
                  refine (part_s HS.out HSK.out hbN hsz (by have := H13.out; omega) HP.out.1 HP.out.2).mono ?_
                  rintro e w5 ⟨mid, r, d4, rfl, hPd, hS4⟩
                  have hmid1 := hPd.am
                  have hmid2 := hPd.mb
                  have HPR := Lib.hid (part_round hPd (by rw [HSK.out]; exact hbN) HB.out)
                  have HS4 := Lib.hid hS4
                  have HSK4 := Lib.hid hPd.size
                  clear hPd hS4
                  obtain ⟨le, hle⟩ : ∃ c, mid = a1 + c := ⟨mid - a1, by omega⟩
                  obtain ⟨ri, hri⟩ : ∃ c, b1 = mid + c := ⟨b1 - mid, by omega⟩
                  have hleI : (mid : Int) - (a1 : Int) = (le : Int) := by omega
                  have hriI : (b1 : Int) - (mid : Int) = (ri : Int) := by omega
                  have HLR : Hid (mid = a1 + le ∧ b1 = mid + ri ∧ b1 = a1 + m ∧ 1 ≤ ri) := by have := HM.out; exact ⟨hle, hri, by omega, by omega⟩
                  clear hle hri
                  by_cases hlr : le < ri
                  · have hlrI : (le : Int) < (ri : Int) := by omega
                    go_wp2_with fail
                    refine (IH.out le (by have := HLR.out; have := HGB.out; have := HN0.out; omega) (W := w5) (d := d4) (a := a1) (b := mid) (l := l2) (by have := HLR.out; omega) (by omega) (by omega) HS4.out HSK4.out HPR.out.1 (by have := HL.out; omega)).mono ?_
                    rintro e w6 ⟨rfl, L, hL1, hL2, hS6⟩
                    have HS6 := Lib.hid hS6
                    have HL6 := Lib.hid (HPR.out.2.2.1 L hL1 hL2)
                    have HSZ : Hid (L.size = N) := by show _ = _; rw [hL1.1]; exact HSK4.out
                    clear hL1 hL2 hS6
                    go_wp2_with fail
                    go_roundg (gk - 1)
                    case measure => have := HLR.out; have := HGB.out; have := H13.out; omega
                    case rel => exact ⟨mid + 1, b1, l2, _, r, L, by go_num, rfl, rfl, rfl, rfl, by have := HLR.out; have := HGB.out; have := HN0.out; omega, by have := HLR.out; have := HGB.out; have := HN0.out; omega, by have := HLR.out; omega, hbN, by have := HL.out; omega, HSZ.out, HS6.out, HL6.out.1, fun R hR hs => have hh := HL6.out.2 R hR hs; HR.out R hh.1 hh.2⟩
                  · have hlrI : ¬ (le : Int) < (ri : Int) := by omega
                    obtain ⟨m1, hm1⟩ : ∃ c, c = mid + 1 := ⟨_, rfl⟩
                    have hm1I : (mid : Int) + 1 = (m1 : Int) := by omega
                    have HM1 := Lib.hid hm1
                    rw [← hm1] at HPR
                    clear hm1
                    go_wp2_with fail
                    refine (IH.out (ri - 1) (by have := HLR.out; have := HGB.out; have := HN0.out; omega) (W := w5) (d := d4) (a := m1) (b := b1) (l := l2) (by have := HLR.out; have := HM1.out; omega) (by have := HM1.out; omega) hbN HS4.out HSK4.out HPR.out.2.1 (by have := HL.out; omega)).mono ?_
                    rintro e w6 ⟨rfl, L, hL1, hL2, hS6⟩
                    have HS6 := Lib.hid hS6
                    have HL6 := Lib.hid (HPR.out.2.2.2 L hL1 hL2)
                    have HSZ : Hid (L.size = N) := by show _ = _; rw [hL1.1]; exact HSK4.out
                    clear hL1 hL2 hS6
                    go_wp2_with fail
                    go_roundg (gk - 1)
                    case measure => have := HLR.out; have := HGB.out; have := H13.out; omega
                    case rel => exact ⟨a1, mid, l2, _, r, L, rfl, rfl, rfl, rfl, rfl, by have := HLR.out; have := HGB.out; have := HN0.out; omega, by have := HLR.out; have := HGB.out; have := HN0.out; omega, by omega, by omega, by have := HL.out; omega, HSZ.out, HS6.out, HL6.out.1, fun R hR hs => have hh := HL6.out.2 R hR hs; HR.out R hh.1 hh.2⟩
        · clear hl0
          cases wp
          · go_wp2_with fail
            refine (pivot_s HS.out HSK.out hbN hsz (by have := H13.out; omega)).mono ?_
            rintro e w2 ⟨p, q, rfl, hp1, hp2, hq, hS2⟩
            have HS2 := Lib.hid hS2
            have HP := Lib.hid (And.intro hp1 hp2)
            clear hS2 HS
            obtain rfl | rfl | rfl : q = 0 ∨ q = 1 ∨ q = 2 := by omega
            · as_aux_lemma =>
                have HS := Lib.hid HS2.out
                clear HS2 hq hp1 hp2
                go_wp2_with fail
                by_cases ha0 : a1 = 0
                · have ha0I : decide ((0 : Int) < (a1 : Int)) = false := by simp; omega
                  have ha0N : decide (0 < a1) = false := by simp; omega
                  clear ha0
                  go_quiet (fail)
                  have HS5 := Lib.hid (HS.out.drewN nq)
                  clear HS
                  go_wp2_with fail
                  have HS := Lib.hid HS5.out
                  refine (part_s HS.out HSK.out hbN hsz (by have := H13.out; omega) HP.out.1 HP.out.2).mono ?_
                  rintro e w5 ⟨mid, r, d4, rfl, hPd, hS4⟩
                  have hmid1 := hPd.am
                  have hmid2 := hPd.mb
                  have HPR := Lib.hid (part_round hPd (by rw [HSK.out]; exact hbN) HB.out)
                  have HS4 := Lib.hid hS4
                  have HSK4 := Lib.hid hPd.size
                  clear hPd hS4
                  obtain ⟨le, hle⟩ : ∃ c, mid = a1 + c := ⟨mid - a1, by omega⟩
                  obtain ⟨ri, hri⟩ : ∃ c, b1 = mid + c := ⟨b1 - mid, by omega⟩
                  have hleI : (mid : Int) - (a1 : Int) = (le : Int) := by omega
                  have hriI : (b1 : Int) - (mid : Int) = (ri : Int) := by omega
                  have HLR : Hid (mid = a1 + le ∧ b1 = mid + ri ∧ b1 = a1 + m ∧ 1 ≤ ri) := by have := HM.out; exact ⟨hle, hri, by omega, by omega⟩
                  clear hle hri
                  by_cases hlr : le < ri
                  · have hlrI : (le : Int) < (ri : Int) := by omega
                    go_wp2_with fail
                    refine (IH.out le (by have := HLR.out; have := HGB.out; have := HN0.out; omega) (W := w5) (d := d4) (a := a1) (b := mid) (l := l1) (by have := HLR.out; omega) (by omega) (by omega) HS4.out HSK4.out HPR.out.1 (by have := HL.out; omega)).mono ?_
                    rintro e w6 ⟨rfl, L, hL1, hL2, hS6⟩
                    have HS6 := Lib.hid hS6
                    have HL6 := Lib.hid (HPR.out.2.2.1 L hL1 hL2)
                    have HSZ : Hid (L.size = N) := by show _ = _; rw [hL1.1]; exact HSK4.out
                    clear hL1 hL2 hS6
                    go_wp2_with fail
                    go_roundg (gk - 1)
                    case measure => have := HLR.out; have := HGB.out; have := H13.out; omega
                    case rel => exact ⟨mid + 1, b1, l1, _, r, L, by go_num, rfl, rfl, rfl, rfl, by have := HLR.out; have := HGB.out; have := HN0.out; omega, by have := HLR.out; have := HGB.out; have := HN0.out; omega, by have := HLR.out; omega, hbN, by have := HL.out; omega, HSZ.out, HS6.out, HL6.out.1, fun R hR hs => have hh := HL6.out.2 R hR hs; HR.out R hh.1 hh.2⟩
                  · have hlrI : ¬ (le : Int) < (ri : Int) := by omega
                    obtain ⟨m1, hm1⟩ : ∃ c, c = mid + 1 := ⟨_, rfl⟩
                    have hm1I : (mid : Int) + 1 = (m1 : Int) := by omega
                    have HM1 := Lib.hid hm1
                    rw [← hm1] at HPR
                    clear hm1
                    go_wp2_with fail
                    refine (IH.out (ri - 1) (by have := HLR.out; have := HGB.out; have := HN0.out; omega) (W := w5) (d := d4) (a := m1) (b := b1) (l := l1) (by have := HLR.out; have := HM1.out; omega) (by have := HM1.out; omega) hbN HS4.out HSK4.out HPR.out.2.1 (by have := HL.out; omega)).mono ?_
                    rintro e w6 ⟨rfl, L, hL1, hL2, hS6⟩
                    have HS6 := Lib.hid hS6
                    have HL6 := Lib.hid (HPR.out.2.2.2 L hL1 hL2)
                    have HSZ : Hid (L.size = N) := by show _ = _; rw [hL1.1]; exact HSK4.out
                    clear hL1 hL2 hS6
                    go_wp2_with fail
                    go_roundg (gk - 1)
                    case measure => have := HLR.out; have := HGB.out; have := H13.out; omega
                    case rel => exact ⟨a1, mid, l1, _, r, L, rfl, rfl, rfl, rfl, rfl, by have := HLR.out; have := HGB.out; have := HN0.out; omega, by have := HLR.out; have := HGB.out; have := HN0.out; omega, by omega, by omega, by have := HL.out; omega, HSZ.out, HS6.out, HL6.out.1, fun R hR hs => have hh := HL6.out.2 R hR hs; HR.out R hh.1 hh.2⟩
                · have ha0I : (0 : Int) < (a1 : Int) := by omega
                  have ha0P : 0 < a1 := by omega
                  have ha0D : decide (0 < a1) = true := by simp; omega
                  have ha0E : decide ((0 : Int) < (a1 : Int)) = true := by simp; omega
                  obtain ⟨a0, ha0'⟩ : ∃ c, a1 = c + 1 := ⟨a1 - 1, by omega⟩
                  have ha0J : (a1 : Int) - 1 = (a0 : Int) := by omega
                  have hwa0 : IntKind.i64.wrap (a0 : Int) = (a0 : Int) := by rw [IntKind.wrap_i64]; omega
                  have h00 : (0 : Int) ≤ (a0 : Int) := by omega
                  have ha0N : (a0 : Int) < (N : Int) := by omega
                  have hpN : (p : Int) < (N : Int) := by have := HP.out; omega
                  have hp0 : (0 : Int) ≤ (p : Int) := by omega
                  have hc0 := HS.out.cell (t := a0) (by rw [HSK.out]; omega)
                  have hcp := HS.out.cell (t := p) (by rw [HSK.out]; have := HP.out; omega)
                  have HA0 : Hid (a1 - 1 = a0 ∧ 0 < a1) := by exact ⟨by omega, by omega⟩
                  cases hl2 : ltB dk[a0]! dk[p]!
                  · have HL2 := Lib.hid hl2
                    clear hl2 ha0 ha0'
                    have HL2' := Lib.hid HL2.out
                    generalize dk[a0]! = x at hc0 HL2
                    generalize dk[p]! = y at hcp HL2
                    go_quiet (first | (go_at_call 78; refine Calls.quiet_of_same (cmpLess_is _ _ _ _ HL2.out)))
                    have HS5 := Lib.hid (HS.out.drewN nq)
                    clear HS hc0 hcp
                    go_wp2_with fail
                    refine (equal_s HS5.out HSK.out hbN hsz (by have := H13.out; omega) HP.out.1 HP.out.2).mono ?_
                    rintro e w5 ⟨mid, d4, rfl, hPE, hS4⟩
                    have hmid1 := hPE.am
                    have hmid2 := hPE.mb
                    have HER := Lib.hid (equal_round hPE HA0.out.2 (by rw [HSK.out]; exact hbN) HB.out (by rw [HA0.out.1]; exact HL2'.out))
                    have HS4 := Lib.hid hS4
                    have HSK4 := Lib.hid hPE.size
                    clear hPE hS4
                    go_wp2_with fail
                    go_roundg (gk - 1)
                    case measure => have := HGB.out; have := H13.out; omega
                    case rel => exact ⟨mid, b1, l1, true, false, d4, rfl, rfl, rfl, rfl, rfl, by have := HGB.out; have := HN0.out; omega, by have := HGB.out; have := HN0.out; omega, by omega, hbN, by have := HL.out; omega, HSK4.out, HS4.out, HER.out.1, fun R hR hs => have hh := HER.out.2 R hR hs; HR.out R hh.1 hh.2⟩
                  · have HL2 := Lib.hid hl2
                    clear hl2 ha0 ha0'
                    generalize dk[a0]! = x at hc0 HL2
                    generalize dk[p]! = y at hcp HL2
                    go_quiet (first | (go_at_call 78; refine Calls.quiet_of_same (cmpLess_is _ _ _ _ HL2.out)))
                    have HS5 := Lib.hid (HS.out.drewN nq)
                    clear HS hc0 hcp
                    go_wp2_with fail
                    have HS := Lib.hid HS5.out
                    refine (part_s HS.out HSK.out hbN hsz (by have := H13.out; omega) HP.out.1 HP.out.2).mono ?_
                    rintro e w5 ⟨mid, r, d4, rfl, hPd, hS4⟩
                    have hmid1 := hPd.am
                    have hmid2 := hPd.mb
                    have HPR := Lib.hid (part_round hPd (by rw [HSK.out]; exact hbN) HB.out)
                    have HS4 := Lib.hid hS4
                    have HSK4 := Lib.hid hPd.size
                    clear hPd hS4
                    obtain ⟨le, hle⟩ : ∃ c, mid = a1 + c := ⟨mid - a1, by omega⟩
                    obtain ⟨ri, hri⟩ : ∃ c, b1 = mid + c := ⟨b1 - mid, by omega⟩
                    have hleI : (mid : Int) - (a1 : Int) = (le : Int) := by omega
                    have hriI : (b1 : Int) - (mid : Int) = (ri : Int) := by omega
                    have HLR : Hid (mid = a1 + le ∧ b1 = mid + ri ∧ b1 = a1 + m ∧ 1 ≤ ri) := by have := HM.out; exact ⟨hle, hri, by omega, by omega⟩
                    clear hle hri
                    by_cases hlr : le < ri
                    · have hlrI : (le : Int) < (ri : Int) := by omega
                      go_wp2_with fail
                      refine (IH.out le (by have := HLR.out; have := HGB.out; have := HN0.out; omega) (W := w5) (d := d4) (a := a1) (b := mid) (l := l1) (by have := HLR.out; omega) (by omega) (by omega) HS4.out HSK4.out HPR.out.1 (by have := HL.out; omega)).mono ?_
                      rintro e w6 ⟨rfl, L, hL1, hL2, hS6⟩
                      have HS6 := Lib.hid hS6
                      have HL6 := Lib.hid (HPR.out.2.2.1 L hL1 hL2)
                      have HSZ : Hid (L.size = N) := by show _ = _; rw [hL1.1]; exact HSK4.out
                      clear hL1 hL2 hS6
                      go_wp2_with fail
                      go_roundg (gk - 1)
                      case measure => have := HLR.out; have := HGB.out; have := H13.out; omega
                      case rel => exact ⟨mid + 1, b1, l1, _, r, L, by go_num, rfl, rfl, rfl, rfl, by have := HLR.out; have := HGB.out; have := HN0.out; omega, by have := HLR.out; have := HGB.out; have := HN0.out; omega, by have := HLR.out; omega, hbN, by have := HL.out; omega, HSZ.out, HS6.out, HL6.out.1, fun R hR hs => have hh := HL6.out.2 R hR hs; HR.out R hh.1 hh.2⟩
                    · have hlrI : ¬ (le : Int) < (ri : Int) := by omega
                      obtain ⟨m1, hm1⟩ : ∃ c, c = mid + 1 := ⟨_, rfl⟩
                      have hm1I : (mid : Int) + 1 = (m1 : Int) := by omega
                      have HM1 := Lib.hid hm1
                      rw [← hm1] at HPR
                      clear hm1
                      go_wp2_with fail
                      refine (IH.out (ri - 1) (by have := HLR.out; have := HGB.out; have := HN0.out; omega) (W := w5) (d := d4) (a := m1) (b := b1) (l := l1) (by have := HLR.out; have := HM1.out; omega) (by have := HM1.out; omega) hbN HS4.out HSK4.out HPR.out.2.1 (by have := HL.out; omega)).mono ?_
                      rintro e w6 ⟨rfl, L, hL1, hL2, hS6⟩
                      have HS6 := Lib.hid hS6
                      have HL6 := Lib.hid (HPR.out.2.2.2 L hL1 hL2)
                      have HSZ : Hid (L.size = N) := by show _ = _; rw [hL1.1]; exact HSK4.out
                      clear hL1 hL2 hS6
                      go_wp2_with fail
                      go_roundg (gk - 1)
                      case measure => have := HLR.out; have := HGB.out; have := H13.out; omega
                      case rel => exact ⟨a1, mid, l1, _, r, L, rfl, rfl, rfl, rfl, rfl, by have := HLR.out; have := HGB.out; have := HN0.out; omega, by have := HLR.out; have := HGB.out; have := HN0.out; omega, by omega, by omega, by have := HL.out; omega, HSZ.out, HS6.out, HL6.out.1, fun R hR hs => have hh := HL6.out.2 R hR hs; HR.out R hh.1 hh.2⟩
            · as_aux_lemma =>
                have HS := Lib.hid HS2.out
                clear HS2 hq hp1 hp2
                go_wp2_with fail
                by_cases ha0 : a1 = 0
                · have ha0I : decide ((0 : Int) < (a1 : Int)) = false := by simp; omega
                  have ha0N : decide (0 < a1) = false := by simp; omega
                  clear ha0
                  go_quiet (fail)
                  have HS5 := Lib.hid (HS.out.drewN nq)
                  clear HS
                  go_wp2_with fail
                  have HS := Lib.hid HS5.out
                  refine (part_s HS.out HSK.out hbN hsz (by have := H13.out; omega) HP.out.1 HP.out.2).mono ?_
                  rintro e w5 ⟨mid, r, d4, rfl, hPd, hS4⟩
                  have hmid1 := hPd.am
                  have hmid2 := hPd.mb
                  have HPR := Lib.hid (part_round hPd (by rw [HSK.out]; exact hbN) HB.out)
                  have HS4 := Lib.hid hS4
                  have HSK4 := Lib.hid hPd.size
                  clear hPd hS4
                  obtain ⟨le, hle⟩ : ∃ c, mid = a1 + c := ⟨mid - a1, by omega⟩
                  obtain ⟨ri, hri⟩ : ∃ c, b1 = mid + c := ⟨b1 - mid, by omega⟩
                  have hleI : (mid : Int) - (a1 : Int) = (le : Int) := by omega
                  have hriI : (b1 : Int) - (mid : Int) = (ri : Int) := by omega
                  have HLR : Hid (mid = a1 + le ∧ b1 = mid + ri ∧ b1 = a1 + m ∧ 1 ≤ ri) := by have := HM.out; exact ⟨hle, hri, by omega, by omega⟩
                  clear hle hri
                  by_cases hlr : le < ri
                  · have hlrI : (le : Int) < (ri : Int) := by omega
                    go_wp2_with fail
                    refine (IH.out le (by have := HLR.out; have := HGB.out; have := HN0.out; omega) (W := w5) (d := d4) (a := a1) (b := mid) (l := l1) (by have := HLR.out; omega) (by omega) (by omega) HS4.out HSK4.out HPR.out.1 (by have := HL.out; omega)).mono ?_
                    rintro e w6 ⟨rfl, L, hL1, hL2, hS6⟩
                    have HS6 := Lib.hid hS6
                    have HL6 := Lib.hid (HPR.out.2.2.1 L hL1 hL2)
                    have HSZ : Hid (L.size = N) := by show _ = _; rw [hL1.1]; exact HSK4.out
                    clear hL1 hL2 hS6
                    go_wp2_with fail
                    go_roundg (gk - 1)
                    case measure => have := HLR.out; have := HGB.out; have := H13.out; omega
                    case rel => exact ⟨mid + 1, b1, l1, _, r, L, by go_num, rfl, rfl, rfl, rfl, by have := HLR.out; have := HGB.out; have := HN0.out; omega, by have := HLR.out; have := HGB.out; have := HN0.out; omega, by have := HLR.out; omega, hbN, by have := HL.out; omega, HSZ.out, HS6.out, HL6.out.1, fun R hR hs => have hh := HL6.out.2 R hR hs; HR.out R hh.1 hh.2⟩
                  · have hlrI : ¬ (le : Int) < (ri : Int) := by omega
                    obtain ⟨m1, hm1⟩ : ∃ c, c = mid + 1 := ⟨_, rfl⟩
                    have hm1I : (mid : Int) + 1 = (m1 : Int) := by omega
                    have HM1 := Lib.hid hm1
                    rw [← hm1] at HPR
                    clear hm1
                    go_wp2_with fail
                    refine (IH.out (ri - 1) (by have := HLR.out; have := HGB.out; have := HN0.out; omega) (W := w5) (d := d4) (a := m1) (b := b1) (l := l1) (by have := HLR.out; have := HM1.out; omega) (by have := HM1.out; omega) hbN HS4.out HSK4.out HPR.out.2.1 (by have := HL.out; omega)).mono ?_
                    rintro e w6 ⟨rfl, L, hL1, hL2, hS6⟩
                    have HS6 := Lib.hid hS6
                    have HL6 := Lib.hid (HPR.out.2.2.2 L hL1 hL2)
                    have HSZ : Hid (L.size = N) := by show _ = _; rw [hL1.1]; exact HSK4.out
                    clear hL1 hL2 hS6
                    go_wp2_with fail
                    go_roundg (gk - 1)
                    case measure => have := HLR.out; have := HGB.out; have := H13.out; omega
                    case rel => exact ⟨a1, mid, l1, _, r, L, rfl, rfl, rfl, rfl, rfl, by have := HLR.out; have := HGB.out; have := HN0.out; omega, by have := HLR.out; have := HGB.out; have := HN0.out; omega, by omega, by omega, by have := HL.out; omega, HSZ.out, HS6.out, HL6.out.1, fun R hR hs => have hh := HL6.out.2 R hR hs; HR.out R hh.1 hh.2⟩
                · have ha0I : (0 : Int) < (a1 : Int) := by omega
                  have ha0P : 0 < a1 := by omega
                  have ha0D : decide (0 < a1) = true := by simp; omega
                  have ha0E : decide ((0 : Int) < (a1 : Int)) = true := by simp; omega
                  obtain ⟨a0, ha0'⟩ : ∃ c, a1 = c + 1 := ⟨a1 - 1, by omega⟩
                  have ha0J : (a1 : Int) - 1 = (a0 : Int) := by omega
                  have hwa0 : IntKind.i64.wrap (a0 : Int) = (a0 : Int) := by rw [IntKind.wrap_i64]; omega
                  have h00 : (0 : Int) ≤ (a0 : Int) := by omega
                  have ha0N : (a0 : Int) < (N : Int) := by omega
                  have hpN : (p : Int) < (N : Int) := by have := HP.out; omega
                  have hp0 : (0 : Int) ≤ (p : Int) := by omega
                  have hc0 := HS.out.cell (t := a0) (by rw [HSK.out]; omega)
                  have hcp := HS.out.cell (t := p) (by rw [HSK.out]; have := HP.out; omega)
                  have HA0 : Hid (a1 - 1 = a0 ∧ 0 < a1) := by exact ⟨by omega, by omega⟩
                  cases hl2 : ltB dk[a0]! dk[p]!
                  · have HL2 := Lib.hid hl2
                    clear hl2 ha0 ha0'
                    have HL2' := Lib.hid HL2.out
                    generalize dk[a0]! = x at hc0 HL2
                    generalize dk[p]! = y at hcp HL2
                    go_quiet (first | (go_at_call 78; refine Calls.quiet_of_same (cmpLess_is _ _ _ _ HL2.out)))
                    have HS5 := Lib.hid (HS.out.drewN nq)
                    clear HS hc0 hcp
                    go_wp2_with fail
                    refine (equal_s HS5.out HSK.out hbN hsz (by have := H13.out; omega) HP.out.1 HP.out.2).mono ?_
                    rintro e w5 ⟨mid, d4, rfl, hPE, hS4⟩
                    have hmid1 := hPE.am
                    have hmid2 := hPE.mb
                    have HER := Lib.hid (equal_round hPE HA0.out.2 (by rw [HSK.out]; exact hbN) HB.out (by rw [HA0.out.1]; exact HL2'.out))
                    have HS4 := Lib.hid hS4
                    have HSK4 := Lib.hid hPE.size
                    clear hPE hS4
                    go_wp2_with fail
                    go_roundg (gk - 1)
                    case measure => have := HGB.out; have := H13.out; omega
                    case rel => exact ⟨mid, b1, l1, true, false, d4, rfl, rfl, rfl, rfl, rfl, by have := HGB.out; have := HN0.out; omega, by have := HGB.out; have := HN0.out; omega, by omega, hbN, by have := HL.out; omega, HSK4.out, HS4.out, HER.out.1, fun R hR hs => have hh := HER.out.2 R hR hs; HR.out R hh.1 hh.2⟩
                  · have HL2 := Lib.hid hl2
                    clear hl2 ha0 ha0'
                    generalize dk[a0]! = x at hc0 HL2
                    generalize dk[p]! = y at hcp HL2
                    go_quiet (first | (go_at_call 78; refine Calls.quiet_of_same (cmpLess_is _ _ _ _ HL2.out)))
                    have HS5 := Lib.hid (HS.out.drewN nq)
                    clear HS hc0 hcp
                    go_wp2_with fail
                    have HS := Lib.hid HS5.out
                    refine (part_s HS.out HSK.out hbN hsz (by have := H13.out; omega) HP.out.1 HP.out.2).mono ?_
                    rintro e w5 ⟨mid, r, d4, rfl, hPd, hS4⟩
                    have hmid1 := hPd.am
                    have hmid2 := hPd.mb
                    have HPR := Lib.hid (part_round hPd (by rw [HSK.out]; exact hbN) HB.out)
                    have HS4 := Lib.hid hS4
                    have HSK4 := Lib.hid hPd.size
                    clear hPd hS4
                    obtain ⟨le, hle⟩ : ∃ c, mid = a1 + c := ⟨mid - a1, by omega⟩
                    obtain ⟨ri, hri⟩ : ∃ c, b1 = mid + c := ⟨b1 - mid, by omega⟩
                    have hleI : (mid : Int) - (a1 : Int) = (le : Int) := by omega
                    have hriI : (b1 : Int) - (mid : Int) = (ri : Int) := by omega
                    have HLR : Hid (mid = a1 + le ∧ b1 = mid + ri ∧ b1 = a1 + m ∧ 1 ≤ ri) := by have := HM.out; exact ⟨hle, hri, by omega, by omega⟩
                    clear hle hri
                    by_cases hlr : le < ri
                    · have hlrI : (le : Int) < (ri : Int) := by omega
                      go_wp2_with fail
                      refine (IH.out le (by have := HLR.out; have := HGB.out; have := HN0.out; omega) (W := w5) (d := d4) (a := a1) (b := mid) (l := l1) (by have := HLR.out; omega) (by omega) (by omega) HS4.out HSK4.out HPR.out.1 (by have := HL.out; omega)).mono ?_
                      rintro e w6 ⟨rfl, L, hL1, hL2, hS6⟩
                      have HS6 := Lib.hid hS6
                      have HL6 := Lib.hid (HPR.out.2.2.1 L hL1 hL2)
                      have HSZ : Hid (L.size = N) := by show _ = _; rw [hL1.1]; exact HSK4.out
                      clear hL1 hL2 hS6
                      go_wp2_with fail
                      go_roundg (gk - 1)
                      case measure => have := HLR.out; have := HGB.out; have := H13.out; omega
                      case rel => exact ⟨mid + 1, b1, l1, _, r, L, by go_num, rfl, rfl, rfl, rfl, by have := HLR.out; have := HGB.out; have := HN0.out; omega, by have := HLR.out; have := HGB.out; have := HN0.out; omega, by have := HLR.out; omega, hbN, by have := HL.out; omega, HSZ.out, HS6.out, HL6.out.1, fun R hR hs => have hh := HL6.out.2 R hR hs; HR.out R hh.1 hh.2⟩
                    · have hlrI : ¬ (le : Int) < (ri : Int) := by omega
                      obtain ⟨m1, hm1⟩ : ∃ c, c = mid + 1 := ⟨_, rfl⟩
                      have hm1I : (mid : Int) + 1 = (m1 : Int) := by omega
                      have HM1 := Lib.hid hm1
                      rw [← hm1] at HPR
                      clear hm1
                      go_wp2_with fail
                      refine (IH.out (ri - 1) (by have := HLR.out; have := HGB.out; have := HN0.out; omega) (W := w5) (d := d4) (a := m1) (b := b1) (l := l1) (by have := HLR.out; have := HM1.out; omega) (by have := HM1.out; omega) hbN HS4.out HSK4.out HPR.out.2.1 (by have := HL.out; omega)).mono ?_
                      rintro e w6 ⟨rfl, L, hL1, hL2, hS6⟩
                      have HS6 := Lib.hid hS6
                      have HL6 := Lib.hid (HPR.out.2.2.2 L hL1 hL2)
                      have HSZ : Hid (L.size = N) := by show _ = _; rw [hL1.1]; exact HSK4.out
                      clear hL1 hL2 hS6
                      go_wp2_with fail
                      go_roundg (gk - 1)
                      case measure => have := HLR.out; have := HGB.out; have := H13.out; omega
                      case rel => exact ⟨a1, mid, l1, _, r, L, rfl, rfl, rfl, rfl, rfl, by have := HLR.out; have := HGB.out; have := HN0.out; omega, by have := HLR.out; have := HGB.out; have := HN0.out; omega, by omega, by omega, by have := HL.out; omega, HSZ.out, HS6.out, HL6.out.1, fun R hR hs => have hh := HL6.out.2 R hR hs; HR.out R hh.1 hh.2⟩
            · as_aux_lemma =>
                obtain ⟨p, hp2I, hp3, hp4⟩ := mirror hp1 hp2
                clear hq
                go_wp2_with fail
                refine (reverse_s HS2.out HSK.out (by have := H13.out; omega) hbN hsz).mono ?_
                rintro e w3 ⟨rfl, hS3⟩
                have hPv := reverseRange_holds dk a1 b1 (by omega) (by rw [HSK.out]; exact hbN)
                obtain ⟨dk, hdl⟩ : ∃ c, c = Sort.reverseRange dk a1 b1 := ⟨_, rfl⟩
                rw [← hdl] at hS3 hPv
                have HS := Lib.hid hS3
                have HB2 := Lib.hid (HB.out.perm (by rw [HSK.out]; exact hbN) hPv)
                have HR2 := Lib.hid (HR.out.perm hPv)
                have HSK2 : Hid (dk.size = N) := by show _ = _; rw [hPv.1]; exact HSK.out
                clear HB HR HSK HS2 hS3 hdl hPv HP
                have HB := Lib.hid HB2.out
                have HR := Lib.hid HR2.out
                have HSK := Lib.hid HSK2.out
                have HP := Lib.hid (And.intro hp3 hp4)
                clear HB2 HR2 HSK2 hp3 hp4 hp1 hp2
                go_outline
                go_wp2_with fail
                by_cases ha0 : a1 = 0
                · have ha0I : decide ((0 : Int) < (a1 : Int)) = false := by simp; omega
                  have ha0N : decide (0 < a1) = false := by simp; omega
                  clear ha0
                  go_quiet (fail)
                  have HS5 := Lib.hid (HS.out.drewN nq)
                  clear HS
                  go_wp2_with fail
                  have HS := Lib.hid HS5.out
                  refine (part_s HS.out HSK.out hbN hsz (by have := H13.out; omega) HP.out.1 HP.out.2).mono ?_
                  rintro e w5 ⟨mid, r, d4, rfl, hPd, hS4⟩
                  have hmid1 := hPd.am
                  have hmid2 := hPd.mb
                  have HPR := Lib.hid (part_round hPd (by rw [HSK.out]; exact hbN) HB.out)
                  have HS4 := Lib.hid hS4
                  have HSK4 := Lib.hid hPd.size
                  clear hPd hS4
                  obtain ⟨le, hle⟩ : ∃ c, mid = a1 + c := ⟨mid - a1, by omega⟩
                  obtain ⟨ri, hri⟩ : ∃ c, b1 = mid + c := ⟨b1 - mid, by omega⟩
                  have hleI : (mid : Int) - (a1 : Int) = (le : Int) := by omega
                  have hriI : (b1 : Int) - (mid : Int) = (ri : Int) := by omega
                  have HLR : Hid (mid = a1 + le ∧ b1 = mid + ri ∧ b1 = a1 + m ∧ 1 ≤ ri) := by have := HM.out; exact ⟨hle, hri, by omega, by omega⟩
                  clear hle hri
                  by_cases hlr : le < ri
                  · have hlrI : (le : Int) < (ri : Int) := by omega
                    go_wp2_with fail
                    refine (IH.out le (by have := HLR.out; have := HGB.out; have := HN0.out; omega) (W := w5) (d := d4) (a := a1) (b := mid) (l := l1) (by have := HLR.out; omega) (by omega) (by omega) HS4.out HSK4.out HPR.out.1 (by have := HL.out; omega)).mono ?_
                    rintro e w6 ⟨rfl, L, hL1, hL2, hS6⟩
                    have HS6 := Lib.hid hS6
                    have HL6 := Lib.hid (HPR.out.2.2.1 L hL1 hL2)
                    have HSZ : Hid (L.size = N) := by show _ = _; rw [hL1.1]; exact HSK4.out
                    clear hL1 hL2 hS6
                    go_wp2_with fail
                    go_roundg (gk - 1)
                    case measure => have := HLR.out; have := HGB.out; have := H13.out; omega
                    case rel => exact ⟨mid + 1, b1, l1, _, r, L, by go_num, rfl, rfl, rfl, rfl, by have := HLR.out; have := HGB.out; have := HN0.out; omega, by have := HLR.out; have := HGB.out; have := HN0.out; omega, by have := HLR.out; omega, hbN, by have := HL.out; omega, HSZ.out, HS6.out, HL6.out.1, fun R hR hs => have hh := HL6.out.2 R hR hs; HR.out R hh.1 hh.2⟩
                  · have hlrI : ¬ (le : Int) < (ri : Int) := by omega
                    obtain ⟨m1, hm1⟩ : ∃ c, c = mid + 1 := ⟨_, rfl⟩
                    have hm1I : (mid : Int) + 1 = (m1 : Int) := by omega
                    have HM1 := Lib.hid hm1
                    rw [← hm1] at HPR
                    clear hm1
                    go_wp2_with fail
                    refine (IH.out (ri - 1) (by have := HLR.out; have := HGB.out; have := HN0.out; omega) (W := w5) (d := d4) (a := m1) (b := b1) (l := l1) (by have := HLR.out; have := HM1.out; omega) (by have := HM1.out; omega) hbN HS4.out HSK4.out HPR.out.2.1 (by have := HL.out; omega)).mono ?_
                    rintro e w6 ⟨rfl, L, hL1, hL2, hS6⟩
                    have HS6 := Lib.hid hS6
                    have HL6 := Lib.hid (HPR.out.2.2.2 L hL1 hL2)
                    have HSZ : Hid (L.size = N) := by show _ = _; rw [hL1.1]; exact HSK4.out
                    clear hL1 hL2 hS6
                    go_wp2_with fail
                    go_roundg (gk - 1)
                    case measure => have := HLR.out; have := HGB.out; have := H13.out; omega
                    case rel => exact ⟨a1, mid, l1, _, r, L, rfl, rfl, rfl, rfl, rfl, by have := HLR.out; have := HGB.out; have := HN0.out; omega, by have := HLR.out; have := HGB.out; have := HN0.out; omega, by omega, by omega, by have := HL.out; omega, HSZ.out, HS6.out, HL6.out.1, fun R hR hs => have hh := HL6.out.2 R hR hs; HR.out R hh.1 hh.2⟩
                · have ha0I : (0 : Int) < (a1 : Int) := by omega
                  have ha0P : 0 < a1 := by omega
                  have ha0D : decide (0 < a1) = true := by simp; omega
                  have ha0E : decide ((0 : Int) < (a1 : Int)) = true := by simp; omega
                  obtain ⟨a0, ha0'⟩ : ∃ c, a1 = c + 1 := ⟨a1 - 1, by omega⟩
                  have ha0J : (a1 : Int) - 1 = (a0 : Int) := by omega
                  have hwa0 : IntKind.i64.wrap (a0 : Int) = (a0 : Int) := by rw [IntKind.wrap_i64]; omega
                  have h00 : (0 : Int) ≤ (a0 : Int) := by omega
                  have ha0N : (a0 : Int) < (N : Int) := by omega
                  have hpN : (p : Int) < (N : Int) := by have := HP.out; omega
                  have hp0 : (0 : Int) ≤ (p : Int) := by omega
                  have hc0 := HS.out.cell (t := a0) (by rw [HSK.out]; omega)
                  have hcp := HS.out.cell (t := p) (by rw [HSK.out]; have := HP.out; omega)
                  have HA0 : Hid (a1 - 1 = a0 ∧ 0 < a1) := by exact ⟨by omega, by omega⟩
                  cases hl2 : ltB dk[a0]! dk[p]!
                  · have HL2 := Lib.hid hl2
                    clear hl2 ha0 ha0'
                    have HL2' := Lib.hid HL2.out
                    generalize dk[a0]! = x at hc0 HL2
                    generalize dk[p]! = y at hcp HL2
                    go_quiet (first | (go_at_call 78; refine Calls.quiet_of_same (cmpLess_is _ _ _ _ HL2.out)))
                    have HS5 := Lib.hid (HS.out.drewN nq)
                    clear HS hc0 hcp
                    go_wp2_with fail
                    refine (equal_s HS5.out HSK.out hbN hsz (by have := H13.out; omega) HP.out.1 HP.out.2).mono ?_
                    rintro e w5 ⟨mid, d4, rfl, hPE, hS4⟩
                    have hmid1 := hPE.am
                    have hmid2 := hPE.mb
                    have HER := Lib.hid (equal_round hPE HA0.out.2 (by rw [HSK.out]; exact hbN) HB.out (by rw [HA0.out.1]; exact HL2'.out))
                    have HS4 := Lib.hid hS4
                    have HSK4 := Lib.hid hPE.size
                    clear hPE hS4
                    go_wp2_with fail
                    go_roundg (gk - 1)
                    case measure => have := HGB.out; have := H13.out; omega
                    case rel => exact ⟨mid, b1, l1, true, false, d4, rfl, rfl, rfl, rfl, rfl, by have := HGB.out; have := HN0.out; omega, by have := HGB.out; have := HN0.out; omega, by omega, hbN, by have := HL.out; omega, HSK4.out, HS4.out, HER.out.1, fun R hR hs => have hh := HER.out.2 R hR hs; HR.out R hh.1 hh.2⟩
                  · have HL2 := Lib.hid hl2
                    clear hl2 ha0 ha0'
                    generalize dk[a0]! = x at hc0 HL2
                    generalize dk[p]! = y at hcp HL2
                    go_quiet (first | (go_at_call 78; refine Calls.quiet_of_same (cmpLess_is _ _ _ _ HL2.out)))
                    have HS5 := Lib.hid (HS.out.drewN nq)
                    clear HS hc0 hcp
                    go_wp2_with fail
                    have HS := Lib.hid HS5.out
                    refine (part_s HS.out HSK.out hbN hsz (by have := H13.out; omega) HP.out.1 HP.out.2).mono ?_
                    rintro e w5 ⟨mid, r, d4, rfl, hPd, hS4⟩
                    have hmid1 := hPd.am
                    have hmid2 := hPd.mb
                    have HPR := Lib.hid (part_round hPd (by rw [HSK.out]; exact hbN) HB.out)
                    have HS4 := Lib.hid hS4
                    have HSK4 := Lib.hid hPd.size
                    clear hPd hS4
                    obtain ⟨le, hle⟩ : ∃ c, mid = a1 + c := ⟨mid - a1, by omega⟩
                    obtain ⟨ri, hri⟩ : ∃ c, b1 = mid + c := ⟨b1 - mid, by omega⟩
                    have hleI : (mid : Int) - (a1 : Int) = (le : Int) := by omega
                    have hriI : (b1 : Int) - (mid : Int) = (ri : Int) := by omega
                    have HLR : Hid (mid = a1 + le ∧ b1 = mid + ri ∧ b1 = a1 + m ∧ 1 ≤ ri) := by have := HM.out; exact ⟨hle, hri, by omega, by omega⟩
                    clear hle hri
                    by_cases hlr : le < ri
                    · have hlrI : (le : Int) < (ri : Int) := by omega
                      go_wp2_with fail
                      refine (IH.out le (by have := HLR.out; have := HGB.out; have := HN0.out; omega) (W := w5) (d := d4) (a := a1) (b := mid) (l := l1) (by have := HLR.out; omega) (by omega) (by omega) HS4.out HSK4.out HPR.out.1 (by have := HL.out; omega)).mono ?_
                      rintro e w6 ⟨rfl, L, hL1, hL2, hS6⟩
                      have HS6 := Lib.hid hS6
                      have HL6 := Lib.hid (HPR.out.2.2.1 L hL1 hL2)
                      have HSZ : Hid (L.size = N) := by show _ = _; rw [hL1.1]; exact HSK4.out
                      clear hL1 hL2 hS6
                      go_wp2_with fail
                      go_roundg (gk - 1)
                      case measure => have := HLR.out; have := HGB.out; have := H13.out; omega
                      case rel => exact ⟨mid + 1, b1, l1, _, r, L, by go_num, rfl, rfl, rfl, rfl, by have := HLR.out; have := HGB.out; have := HN0.out; omega, by have := HLR.out; have := HGB.out; have := HN0.out; omega, by have := HLR.out; omega, hbN, by have := HL.out; omega, HSZ.out, HS6.out, HL6.out.1, fun R hR hs => have hh := HL6.out.2 R hR hs; HR.out R hh.1 hh.2⟩
                    · have hlrI : ¬ (le : Int) < (ri : Int) := by omega
                      obtain ⟨m1, hm1⟩ : ∃ c, c = mid + 1 := ⟨_, rfl⟩
                      have hm1I : (mid : Int) + 1 = (m1 : Int) := by omega
                      have HM1 := Lib.hid hm1
                      rw [← hm1] at HPR
                      clear hm1
                      go_wp2_with fail
                      refine (IH.out (ri - 1) (by have := HLR.out; have := HGB.out; have := HN0.out; omega) (W := w5) (d := d4) (a := m1) (b := b1) (l := l1) (by have := HLR.out; have := HM1.out; omega) (by have := HM1.out; omega) hbN HS4.out HSK4.out HPR.out.2.1 (by have := HL.out; omega)).mono ?_
                      rintro e w6 ⟨rfl, L, hL1, hL2, hS6⟩
                      have HS6 := Lib.hid hS6
                      have HL6 := Lib.hid (HPR.out.2.2.2 L hL1 hL2)
                      have HSZ : Hid (L.size = N) := by show _ = _; rw [hL1.1]; exact HSK4.out
                      clear hL1 hL2 hS6
                      go_wp2_with fail
                      go_roundg (gk - 1)
                      case measure => have := HLR.out; have := HGB.out; have := H13.out; omega
                      case rel => exact ⟨a1, mid, l1, _, r, L, rfl, rfl, rfl, rfl, rfl, by have := HLR.out; have := HGB.out; have := HN0.out; omega, by have := HLR.out; have := HGB.out; have := HN0.out; omega, by omega, by omega, by have := HL.out; omega, HSZ.out, HS6.out, HL6.out.1, fun R hR hs => have hh := HL6.out.2 R hR hs; HR.out R hh.1 hh.2⟩
          · go_wp2_with fail
            refine (pivot_s HS.out HSK.out hbN hsz (by have := H13.out; omega)).mono ?_
            rintro e w2 ⟨p, q, rfl, hp1, hp2, hq, hS2⟩
            have HS2 := Lib.hid hS2
            have HP := Lib.hid (And.intro hp1 hp2)
            clear hS2 HS
            obtain rfl | rfl | rfl : q = 0 ∨ q = 1 ∨ q = 2 := by omega
            · as_aux_lemma =>
                have HS := Lib.hid HS2.out
                clear HS2 hq hp1 hp2
                go_wp2_with fail
                by_cases ha0 : a1 = 0
                · have ha0I : decide ((0 : Int) < (a1 : Int)) = false := by simp; omega
                  have ha0N : decide (0 < a1) = false := by simp; omega
                  clear ha0
                  go_quiet (fail)
                  have HS5 := Lib.hid (HS.out.drewN nq)
                  clear HS
                  go_wp2_with fail
                  have HS := Lib.hid HS5.out
                  refine (part_s HS.out HSK.out hbN hsz (by have := H13.out; omega) HP.out.1 HP.out.2).mono ?_
                  rintro e w5 ⟨mid, r, d4, rfl, hPd, hS4⟩
                  have hmid1 := hPd.am
                  have hmid2 := hPd.mb
                  have HPR := Lib.hid (part_round hPd (by rw [HSK.out]; exact hbN) HB.out)
                  have HS4 := Lib.hid hS4
                  have HSK4 := Lib.hid hPd.size
                  clear hPd hS4
                  obtain ⟨le, hle⟩ : ∃ c, mid = a1 + c := ⟨mid - a1, by omega⟩
                  obtain ⟨ri, hri⟩ : ∃ c, b1 = mid + c := ⟨b1 - mid, by omega⟩
                  have hleI : (mid : Int) - (a1 : Int) = (le : Int) := by omega
                  have hriI : (b1 : Int) - (mid : Int) = (ri : Int) := by omega
                  have HLR : Hid (mid = a1 + le ∧ b1 = mid + ri ∧ b1 = a1 + m ∧ 1 ≤ ri) := by have := HM.out; exact ⟨hle, hri, by omega, by omega⟩
                  clear hle hri
                  by_cases hlr : le < ri
                  · have hlrI : (le : Int) < (ri : Int) := by omega
                    go_wp2_with fail
                    refine (IH.out le (by have := HLR.out; have := HGB.out; have := HN0.out; omega) (W := w5) (d := d4) (a := a1) (b := mid) (l := l1) (by have := HLR.out; omega) (by omega) (by omega) HS4.out HSK4.out HPR.out.1 (by have := HL.out; omega)).mono ?_
                    rintro e w6 ⟨rfl, L, hL1, hL2, hS6⟩
                    have HS6 := Lib.hid hS6
                    have HL6 := Lib.hid (HPR.out.2.2.1 L hL1 hL2)
                    have HSZ : Hid (L.size = N) := by show _ = _; rw [hL1.1]; exact HSK4.out
                    clear hL1 hL2 hS6
                    go_wp2_with fail
                    go_roundg (gk - 1)
                    case measure => have := HLR.out; have := HGB.out; have := H13.out; omega
                    case rel => exact ⟨mid + 1, b1, l1, _, r, L, by go_num, rfl, rfl, rfl, rfl, by have := HLR.out; have := HGB.out; have := HN0.out; omega, by have := HLR.out; have := HGB.out; have := HN0.out; omega, by have := HLR.out; omega, hbN, by have := HL.out; omega, HSZ.out, HS6.out, HL6.out.1, fun R hR hs => have hh := HL6.out.2 R hR hs; HR.out R hh.1 hh.2⟩
                  · have hlrI : ¬ (le : Int) < (ri : Int) := by omega
                    obtain ⟨m1, hm1⟩ : ∃ c, c = mid + 1 := ⟨_, rfl⟩
                    have hm1I : (mid : Int) + 1 = (m1 : Int) := by omega
                    have HM1 := Lib.hid hm1
                    rw [← hm1] at HPR
                    clear hm1
                    go_wp2_with fail
                    refine (IH.out (ri - 1) (by have := HLR.out; have := HGB.out; have := HN0.out; omega) (W := w5) (d := d4) (a := m1) (b := b1) (l := l1) (by have := HLR.out; have := HM1.out; omega) (by have := HM1.out; omega) hbN HS4.out HSK4.out HPR.out.2.1 (by have := HL.out; omega)).mono ?_
                    rintro e w6 ⟨rfl, L, hL1, hL2, hS6⟩
                    have HS6 := Lib.hid hS6
                    have HL6 := Lib.hid (HPR.out.2.2.2 L hL1 hL2)
                    have HSZ : Hid (L.size = N) := by show _ = _; rw [hL1.1]; exact HSK4.out
                    clear hL1 hL2 hS6
                    go_wp2_with fail
                    go_roundg (gk - 1)
                    case measure => have := HLR.out; have := HGB.out; have := H13.out; omega
                    case rel => exact ⟨a1, mid, l1, _, r, L, rfl, rfl, rfl, rfl, rfl, by have := HLR.out; have := HGB.out; have := HN0.out; omega, by have := HLR.out; have := HGB.out; have := HN0.out; omega, by omega, by omega, by have := HL.out; omega, HSZ.out, HS6.out, HL6.out.1, fun R hR hs => have hh := HL6.out.2 R hR hs; HR.out R hh.1 hh.2⟩
                · have ha0I : (0 : Int) < (a1 : Int) := by omega
                  have ha0P : 0 < a1 := by omega
                  have ha0D : decide (0 < a1) = true := by simp; omega
                  have ha0E : decide ((0 : Int) < (a1 : Int)) = true := by simp; omega
                  obtain ⟨a0, ha0'⟩ : ∃ c, a1 = c + 1 := ⟨a1 - 1, by omega⟩
                  have ha0J : (a1 : Int) - 1 = (a0 : Int) := by omega
                  have hwa0 : IntKind.i64.wrap (a0 : Int) = (a0 : Int) := by rw [IntKind.wrap_i64]; omega
                  have h00 : (0 : Int) ≤ (a0 : Int) := by omega
                  have ha0N : (a0 : Int) < (N : Int) := by omega
                  have hpN : (p : Int) < (N : Int) := by have := HP.out; omega
                  have hp0 : (0 : Int) ≤ (p : Int) := by omega
                  have hc0 := HS.out.cell (t := a0) (by rw [HSK.out]; omega)
                  have hcp := HS.out.cell (t := p) (by rw [HSK.out]; have := HP.out; omega)
                  have HA0 : Hid (a1 - 1 = a0 ∧ 0 < a1) := by exact ⟨by omega, by omega⟩
                  cases hl2 : ltB dk[a0]! dk[p]!
                  · have HL2 := Lib.hid hl2
                    clear hl2 ha0 ha0'
                    have HL2' := Lib.hid HL2.out
                    generalize dk[a0]! = x at hc0 HL2
                    generalize dk[p]! = y at hcp HL2
                    go_quiet (first | (go_at_call 78; refine Calls.quiet_of_same (cmpLess_is _ _ _ _ HL2.out)))
                    have HS5 := Lib.hid (HS.out.drewN nq)
                    clear HS hc0 hcp
                    go_wp2_with fail
                    refine (equal_s HS5.out HSK.out hbN hsz (by have := H13.out; omega) HP.out.1 HP.out.2).mono ?_
                    rintro e w5 ⟨mid, d4, rfl, hPE, hS4⟩
                    have hmid1 := hPE.am
                    have hmid2 := hPE.mb
                    have HER := Lib.hid (equal_round hPE HA0.out.2 (by rw [HSK.out]; exact hbN) HB.out (by rw [HA0.out.1]; exact HL2'.out))
                    have HS4 := Lib.hid hS4
                    have HSK4 := Lib.hid hPE.size
                    clear hPE hS4
                    go_wp2_with fail
                    go_roundg (gk - 1)
                    case measure => have := HGB.out; have := H13.out; omega
                    case rel => exact ⟨mid, b1, l1, true, true, d4, rfl, rfl, rfl, rfl, rfl, by have := HGB.out; have := HN0.out; omega, by have := HGB.out; have := HN0.out; omega, by omega, hbN, by have := HL.out; omega, HSK4.out, HS4.out, HER.out.1, fun R hR hs => have hh := HER.out.2 R hR hs; HR.out R hh.1 hh.2⟩
                  · have HL2 := Lib.hid hl2
                    clear hl2 ha0 ha0'
                    generalize dk[a0]! = x at hc0 HL2
                    generalize dk[p]! = y at hcp HL2
                    go_quiet (first | (go_at_call 78; refine Calls.quiet_of_same (cmpLess_is _ _ _ _ HL2.out)))
                    have HS5 := Lib.hid (HS.out.drewN nq)
                    clear HS hc0 hcp
                    go_wp2_with fail
                    have HS := Lib.hid HS5.out
                    refine (part_s HS.out HSK.out hbN hsz (by have := H13.out; omega) HP.out.1 HP.out.2).mono ?_
                    rintro e w5 ⟨mid, r, d4, rfl, hPd, hS4⟩
                    have hmid1 := hPd.am
                    have hmid2 := hPd.mb
                    have HPR := Lib.hid (part_round hPd (by rw [HSK.out]; exact hbN) HB.out)
                    have HS4 := Lib.hid hS4
                    have HSK4 := Lib.hid hPd.size
                    clear hPd hS4
                    obtain ⟨le, hle⟩ : ∃ c, mid = a1 + c := ⟨mid - a1, by omega⟩
                    obtain ⟨ri, hri⟩ : ∃ c, b1 = mid + c := ⟨b1 - mid, by omega⟩
                    have hleI : (mid : Int) - (a1 : Int) = (le : Int) := by omega
                    have hriI : (b1 : Int) - (mid : Int) = (ri : Int) := by omega
                    have HLR : Hid (mid = a1 + le ∧ b1 = mid + ri ∧ b1 = a1 + m ∧ 1 ≤ ri) := by have := HM.out; exact ⟨hle, hri, by omega, by omega⟩
                    clear hle hri
                    by_cases hlr : le < ri
                    · have hlrI : (le : Int) < (ri : Int) := by omega
                      go_wp2_with fail
                      refine (IH.out le (by have := HLR.out; have := HGB.out; have := HN0.out; omega) (W := w5) (d := d4) (a := a1) (b := mid) (l := l1) (by have := HLR.out; omega) (by omega) (by omega) HS4.out HSK4.out HPR.out.1 (by have := HL.out; omega)).mono ?_
                      rintro e w6 ⟨rfl, L, hL1, hL2, hS6⟩
                      have HS6 := Lib.hid hS6
                      have HL6 := Lib.hid (HPR.out.2.2.1 L hL1 hL2)
                      have HSZ : Hid (L.size = N) := by show _ = _; rw [hL1.1]; exact HSK4.out
                      clear hL1 hL2 hS6
                      go_wp2_with fail
                      go_roundg (gk - 1)
                      case measure => have := HLR.out; have := HGB.out; have := H13.out; omega
                      case rel => exact ⟨mid + 1, b1, l1, _, r, L, by go_num, rfl, rfl, rfl, rfl, by have := HLR.out; have := HGB.out; have := HN0.out; omega, by have := HLR.out; have := HGB.out; have := HN0.out; omega, by have := HLR.out; omega, hbN, by have := HL.out; omega, HSZ.out, HS6.out, HL6.out.1, fun R hR hs => have hh := HL6.out.2 R hR hs; HR.out R hh.1 hh.2⟩
                    · have hlrI : ¬ (le : Int) < (ri : Int) := by omega
                      obtain ⟨m1, hm1⟩ : ∃ c, c = mid + 1 := ⟨_, rfl⟩
                      have hm1I : (mid : Int) + 1 = (m1 : Int) := by omega
                      have HM1 := Lib.hid hm1
                      rw [← hm1] at HPR
                      clear hm1
                      go_wp2_with fail
                      refine (IH.out (ri - 1) (by have := HLR.out; have := HGB.out; have := HN0.out; omega) (W := w5) (d := d4) (a := m1) (b := b1) (l := l1) (by have := HLR.out; have := HM1.out; omega) (by have := HM1.out; omega) hbN HS4.out HSK4.out HPR.out.2.1 (by have := HL.out; omega)).mono ?_
                      rintro e w6 ⟨rfl, L, hL1, hL2, hS6⟩
                      have HS6 := Lib.hid hS6
                      have HL6 := Lib.hid (HPR.out.2.2.2 L hL1 hL2)
                      have HSZ : Hid (L.size = N) := by show _ = _; rw [hL1.1]; exact HSK4.out
                      clear hL1 hL2 hS6
                      go_wp2_with fail
                      go_roundg (gk - 1)
                      case measure => have := HLR.out; have := HGB.out; have := H13.out; omega
                      case rel => exact ⟨a1, mid, l1, _, r, L, rfl, rfl, rfl, rfl, rfl, by have := HLR.out; have := HGB.out; have := HN0.out; omega, by have := HLR.out; have := HGB.out; have := HN0.out; omega, by omega, by omega, by have := HL.out; omega, HSZ.out, HS6.out, HL6.out.1, fun R hR hs => have hh := HL6.out.2 R hR hs; HR.out R hh.1 hh.2⟩
            · as_aux_lemma =>
                have HS := Lib.hid HS2.out
                clear HS2 hq hp1 hp2
                go_wp2_with fail
                refine (partial_s HS.out HSK.out hbN hsz (by have := H13.out; omega)).mono ?_
                rintro e w4 ⟨r, rfl, hr1, hS4⟩
                have HS4 := Lib.hid hS4
                clear hS4 HS
                cases r
                · clear hr1
                  go_wp2_with fail
                  have HS := Lib.hid HS4.out
                  by_cases ha0 : a1 = 0
                  · have ha0I : decide ((0 : Int) < (a1 : Int)) = false := by simp; omega
                    have ha0N : decide (0 < a1) = false := by simp; omega
                    clear ha0
                    go_quiet (fail)
                    have HS5 := Lib.hid (HS.out.drewN nq)
                    clear HS
                    go_wp2_with fail
                    have HS := Lib.hid HS5.out
                    refine (part_s HS.out HSK.out hbN hsz (by have := H13.out; omega) HP.out.1 HP.out.2).mono ?_
                    rintro e w5 ⟨mid, r, d4, rfl, hPd, hS4⟩
                    have hmid1 := hPd.am
                    have hmid2 := hPd.mb
                    have HPR := Lib.hid (part_round hPd (by rw [HSK.out]; exact hbN) HB.out)
                    have HS4 := Lib.hid hS4
                    have HSK4 := Lib.hid hPd.size
                    clear hPd hS4
                    obtain ⟨le, hle⟩ : ∃ c, mid = a1 + c := ⟨mid - a1, by omega⟩
                    obtain ⟨ri, hri⟩ : ∃ c, b1 = mid + c := ⟨b1 - mid, by omega⟩
                    have hleI : (mid : Int) - (a1 : Int) = (le : Int) := by omega
                    have hriI : (b1 : Int) - (mid : Int) = (ri : Int) := by omega
                    have HLR : Hid (mid = a1 + le ∧ b1 = mid + ri ∧ b1 = a1 + m ∧ 1 ≤ ri) := by have := HM.out; exact ⟨hle, hri, by omega, by omega⟩
                    clear hle hri
                    by_cases hlr : le < ri
                    · have hlrI : (le : Int) < (ri : Int) := by omega
                      go_wp2_with fail
                      refine (IH.out le (by have := HLR.out; have := HGB.out; have := HN0.out; omega) (W := w5) (d := d4) (a := a1) (b := mid) (l := l1) (by have := HLR.out; omega) (by omega) (by omega) HS4.out HSK4.out HPR.out.1 (by have := HL.out; omega)).mono ?_
                      rintro e w6 ⟨rfl, L, hL1, hL2, hS6⟩
                      have HS6 := Lib.hid hS6
                      have HL6 := Lib.hid (HPR.out.2.2.1 L hL1 hL2)
                      have HSZ : Hid (L.size = N) := by show _ = _; rw [hL1.1]; exact HSK4.out
                      clear hL1 hL2 hS6
                      go_wp2_with fail
                      go_roundg (gk - 1)
                      case measure => have := HLR.out; have := HGB.out; have := H13.out; omega
                      case rel => exact ⟨mid + 1, b1, l1, _, r, L, by go_num, rfl, rfl, rfl, rfl, by have := HLR.out; have := HGB.out; have := HN0.out; omega, by have := HLR.out; have := HGB.out; have := HN0.out; omega, by have := HLR.out; omega, hbN, by have := HL.out; omega, HSZ.out, HS6.out, HL6.out.1, fun R hR hs => have hh := HL6.out.2 R hR hs; HR.out R hh.1 hh.2⟩
                    · have hlrI : ¬ (le : Int) < (ri : Int) := by omega
                      obtain ⟨m1, hm1⟩ : ∃ c, c = mid + 1 := ⟨_, rfl⟩
                      have hm1I : (mid : Int) + 1 = (m1 : Int) := by omega
                      have HM1 := Lib.hid hm1
                      rw [← hm1] at HPR
                      clear hm1
                      go_wp2_with fail
                      refine (IH.out (ri - 1) (by have := HLR.out; have := HGB.out; have := HN0.out; omega) (W := w5) (d := d4) (a := m1) (b := b1) (l := l1) (by have := HLR.out; have := HM1.out; omega) (by have := HM1.out; omega) hbN HS4.out HSK4.out HPR.out.2.1 (by have := HL.out; omega)).mono ?_
                      rintro e w6 ⟨rfl, L, hL1, hL2, hS6⟩
                      have HS6 := Lib.hid hS6
                      have HL6 := Lib.hid (HPR.out.2.2.2 L hL1 hL2)
                      have HSZ : Hid (L.size = N) := by show _ = _; rw [hL1.1]; exact HSK4.out
                      clear hL1 hL2 hS6
                      go_wp2_with fail
                      go_roundg (gk - 1)
                      case measure => have := HLR.out; have := HGB.out; have := H13.out; omega
                      case rel => exact ⟨a1, mid, l1, _, r, L, rfl, rfl, rfl, rfl, rfl, by have := HLR.out; have := HGB.out; have := HN0.out; omega, by have := HLR.out; have := HGB.out; have := HN0.out; omega, by omega, by omega, by have := HL.out; omega, HSZ.out, HS6.out, HL6.out.1, fun R hR hs => have hh := HL6.out.2 R hR hs; HR.out R hh.1 hh.2⟩
                  · have ha0I : (0 : Int) < (a1 : Int) := by omega
                    have ha0P : 0 < a1 := by omega
                    have ha0D : decide (0 < a1) = true := by simp; omega
                    have ha0E : decide ((0 : Int) < (a1 : Int)) = true := by simp; omega
                    obtain ⟨a0, ha0'⟩ : ∃ c, a1 = c + 1 := ⟨a1 - 1, by omega⟩
                    have ha0J : (a1 : Int) - 1 = (a0 : Int) := by omega
                    have hwa0 : IntKind.i64.wrap (a0 : Int) = (a0 : Int) := by rw [IntKind.wrap_i64]; omega
                    have h00 : (0 : Int) ≤ (a0 : Int) := by omega
                    have ha0N : (a0 : Int) < (N : Int) := by omega
                    have hpN : (p : Int) < (N : Int) := by have := HP.out; omega
                    have hp0 : (0 : Int) ≤ (p : Int) := by omega
                    have hc0 := HS.out.cell (t := a0) (by rw [HSK.out]; omega)
                    have hcp := HS.out.cell (t := p) (by rw [HSK.out]; have := HP.out; omega)
                    have HA0 : Hid (a1 - 1 = a0 ∧ 0 < a1) := by exact ⟨by omega, by omega⟩
                    cases hl2 : ltB dk[a0]! dk[p]!
                    · have HL2 := Lib.hid hl2
                      clear hl2 ha0 ha0'
                      have HL2' := Lib.hid HL2.out
                      generalize dk[a0]! = x at hc0 HL2
                      generalize dk[p]! = y at hcp HL2
                      go_quiet (first | (go_at_call 78; refine Calls.quiet_of_same (cmpLess_is _ _ _ _ HL2.out)))
                      have HS5 := Lib.hid (HS.out.drewN nq)
                      clear HS hc0 hcp
                      go_wp2_with fail
                      refine (equal_s HS5.out HSK.out hbN hsz (by have := H13.out; omega) HP.out.1 HP.out.2).mono ?_
                      rintro e w5 ⟨mid, d4, rfl, hPE, hS4⟩
                      have hmid1 := hPE.am
                      have hmid2 := hPE.mb
                      have HER := Lib.hid (equal_round hPE HA0.out.2 (by rw [HSK.out]; exact hbN) HB.out (by rw [HA0.out.1]; exact HL2'.out))
                      have HS4 := Lib.hid hS4
                      have HSK4 := Lib.hid hPE.size
                      clear hPE hS4
                      go_wp2_with fail
                      go_roundg (gk - 1)
                      case measure => have := HGB.out; have := H13.out; omega
                      case rel => exact ⟨mid, b1, l1, true, true, d4, rfl, rfl, rfl, rfl, rfl, by have := HGB.out; have := HN0.out; omega, by have := HGB.out; have := HN0.out; omega, by omega, hbN, by have := HL.out; omega, HSK4.out, HS4.out, HER.out.1, fun R hR hs => have hh := HER.out.2 R hR hs; HR.out R hh.1 hh.2⟩
                    · have HL2 := Lib.hid hl2
                      clear hl2 ha0 ha0'
                      generalize dk[a0]! = x at hc0 HL2
                      generalize dk[p]! = y at hcp HL2
                      go_quiet (first | (go_at_call 78; refine Calls.quiet_of_same (cmpLess_is _ _ _ _ HL2.out)))
                      have HS5 := Lib.hid (HS.out.drewN nq)
                      clear HS hc0 hcp
                      go_wp2_with fail
                      have HS := Lib.hid HS5.out
                      refine (part_s HS.out HSK.out hbN hsz (by have := H13.out; omega) HP.out.1 HP.out.2).mono ?_
                      rintro e w5 ⟨mid, r, d4, rfl, hPd, hS4⟩
                      have hmid1 := hPd.am
                      have hmid2 := hPd.mb
                      have HPR := Lib.hid (part_round hPd (by rw [HSK.out]; exact hbN) HB.out)
                      have HS4 := Lib.hid hS4
                      have HSK4 := Lib.hid hPd.size
                      clear hPd hS4
                      obtain ⟨le, hle⟩ : ∃ c, mid = a1 + c := ⟨mid - a1, by omega⟩
                      obtain ⟨ri, hri⟩ : ∃ c, b1 = mid + c := ⟨b1 - mid, by omega⟩
                      have hleI : (mid : Int) - (a1 : Int) = (le : Int) := by omega
                      have hriI : (b1 : Int) - (mid : Int) = (ri : Int) := by omega
                      have HLR : Hid (mid = a1 + le ∧ b1 = mid + ri ∧ b1 = a1 + m ∧ 1 ≤ ri) := by have := HM.out; exact ⟨hle, hri, by omega, by omega⟩
                      clear hle hri
                      by_cases hlr : le < ri
                      · have hlrI : (le : Int) < (ri : Int) := by omega
                        go_wp2_with fail
                        refine (IH.out le (by have := HLR.out; have := HGB.out; have := HN0.out; omega) (W := w5) (d := d4) (a := a1) (b := mid) (l := l1) (by have := HLR.out; omega) (by omega) (by omega) HS4.out HSK4.out HPR.out.1 (by have := HL.out; omega)).mono ?_
                        rintro e w6 ⟨rfl, L, hL1, hL2, hS6⟩
                        have HS6 := Lib.hid hS6
                        have HL6 := Lib.hid (HPR.out.2.2.1 L hL1 hL2)
                        have HSZ : Hid (L.size = N) := by show _ = _; rw [hL1.1]; exact HSK4.out
                        clear hL1 hL2 hS6
                        go_wp2_with fail
                        go_roundg (gk - 1)
                        case measure => have := HLR.out; have := HGB.out; have := H13.out; omega
                        case rel => exact ⟨mid + 1, b1, l1, _, r, L, by go_num, rfl, rfl, rfl, rfl, by have := HLR.out; have := HGB.out; have := HN0.out; omega, by have := HLR.out; have := HGB.out; have := HN0.out; omega, by have := HLR.out; omega, hbN, by have := HL.out; omega, HSZ.out, HS6.out, HL6.out.1, fun R hR hs => have hh := HL6.out.2 R hR hs; HR.out R hh.1 hh.2⟩
                      · have hlrI : ¬ (le : Int) < (ri : Int) := by omega
                        obtain ⟨m1, hm1⟩ : ∃ c, c = mid + 1 := ⟨_, rfl⟩
                        have hm1I : (mid : Int) + 1 = (m1 : Int) := by omega
                        have HM1 := Lib.hid hm1
                        rw [← hm1] at HPR
                        clear hm1
                        go_wp2_with fail
                        refine (IH.out (ri - 1) (by have := HLR.out; have := HGB.out; have := HN0.out; omega) (W := w5) (d := d4) (a := m1) (b := b1) (l := l1) (by have := HLR.out; have := HM1.out; omega) (by have := HM1.out; omega) hbN HS4.out HSK4.out HPR.out.2.1 (by have := HL.out; omega)).mono ?_
                        rintro e w6 ⟨rfl, L, hL1, hL2, hS6⟩
                        have HS6 := Lib.hid hS6
                        have HL6 := Lib.hid (HPR.out.2.2.2 L hL1 hL2)
                        have HSZ : Hid (L.size = N) := by show _ = _; rw [hL1.1]; exact HSK4.out
                        clear hL1 hL2 hS6
                        go_wp2_with fail
                        go_roundg (gk - 1)
                        case measure => have := HLR.out; have := HGB.out; have := H13.out; omega
                        case rel => exact ⟨a1, mid, l1, _, r, L, rfl, rfl, rfl, rfl, rfl, by have := HLR.out; have := HGB.out; have := HN0.out; omega, by have := HLR.out; have := HGB.out; have := HN0.out; omega, by omega, by omega, by have := HL.out; omega, HSZ.out, HS6.out, HL6.out.1, fun R hR hs => have hh := HL6.out.2 R hR hs; HR.out R hh.1 hh.2⟩
                · have HE := Lib.hid (HR.out dk (permIn_refl _ _ _) (hr1 rfl))
                  clear hr1
                  go_wp2
                  go_end0
                  exact ⟨rfl, dk, HE.out.1, HE.out.2, HS4.out⟩
            · as_aux_lemma =>
                obtain ⟨p, hp2I, hp3, hp4⟩ := mirror hp1 hp2
                clear hq
                go_wp2_with fail
                refine (reverse_s HS2.out HSK.out (by have := H13.out; omega) hbN hsz).mono ?_
                rintro e w3 ⟨rfl, hS3⟩
                have hPv := reverseRange_holds dk a1 b1 (by omega) (by rw [HSK.out]; exact hbN)
                obtain ⟨dk, hdl⟩ : ∃ c, c = Sort.reverseRange dk a1 b1 := ⟨_, rfl⟩
                rw [← hdl] at hS3 hPv
                have HS := Lib.hid hS3
                have HB2 := Lib.hid (HB.out.perm (by rw [HSK.out]; exact hbN) hPv)
                have HR2 := Lib.hid (HR.out.perm hPv)
                have HSK2 : Hid (dk.size = N) := by show _ = _; rw [hPv.1]; exact HSK.out
                clear HB HR HSK HS2 hS3 hdl hPv HP
                have HB := Lib.hid HB2.out
                have HR := Lib.hid HR2.out
                have HSK := Lib.hid HSK2.out
                have HP := Lib.hid (And.intro hp3 hp4)
                clear HB2 HR2 HSK2 hp3 hp4 hp1 hp2
                go_outline
                go_wp2_with fail
                refine (partial_s HS.out HSK.out hbN hsz (by have := H13.out; omega)).mono ?_
                rintro e w4 ⟨r, rfl, hr1, hS4⟩
                have HS4 := Lib.hid hS4
                clear hS4 HS
                cases r
                · clear hr1
                  go_wp2_with fail
                  have HS := Lib.hid HS4.out
                  by_cases ha0 : a1 = 0
                  · have ha0I : decide ((0 : Int) < (a1 : Int)) = false := by simp; omega
                    have ha0N : decide (0 < a1) = false := by simp; omega
                    clear ha0
                    go_quiet (fail)
                    have HS5 := Lib.hid (HS.out.drewN nq)
                    clear HS
                    go_wp2_with fail
                    have HS := Lib.hid HS5.out
                    refine (part_s HS.out HSK.out hbN hsz (by have := H13.out; omega) HP.out.1 HP.out.2).mono ?_
                    rintro e w5 ⟨mid, r, d4, rfl, hPd, hS4⟩
                    have hmid1 := hPd.am
                    have hmid2 := hPd.mb
                    have HPR := Lib.hid (part_round hPd (by rw [HSK.out]; exact hbN) HB.out)
                    have HS4 := Lib.hid hS4
                    have HSK4 := Lib.hid hPd.size
                    clear hPd hS4
                    obtain ⟨le, hle⟩ : ∃ c, mid = a1 + c := ⟨mid - a1, by omega⟩
                    obtain ⟨ri, hri⟩ : ∃ c, b1 = mid + c := ⟨b1 - mid, by omega⟩
                    have hleI : (mid : Int) - (a1 : Int) = (le : Int) := by omega
                    have hriI : (b1 : Int) - (mid : Int) = (ri : Int) := by omega
                    have HLR : Hid (mid = a1 + le ∧ b1 = mid + ri ∧ b1 = a1 + m ∧ 1 ≤ ri) := by have := HM.out; exact ⟨hle, hri, by omega, by omega⟩
                    clear hle hri
                    by_cases hlr : le < ri
                    · have hlrI : (le : Int) < (ri : Int) := by omega
                      go_wp2_with fail
                      refine (IH.out le (by have := HLR.out; have := HGB.out; have := HN0.out; omega) (W := w5) (d := d4) (a := a1) (b := mid) (l := l1) (by have := HLR.out; omega) (by omega) (by omega) HS4.out HSK4.out HPR.out.1 (by have := HL.out; omega)).mono ?_
                      rintro e w6 ⟨rfl, L, hL1, hL2, hS6⟩
                      have HS6 := Lib.hid hS6
                      have HL6 := Lib.hid (HPR.out.2.2.1 L hL1 hL2)
                      have HSZ : Hid (L.size = N) := by show _ = _; rw [hL1.1]; exact HSK4.out
                      clear hL1 hL2 hS6
                      go_wp2_with fail
                      go_roundg (gk - 1)
                      case measure => have := HLR.out; have := HGB.out; have := H13.out; omega
                      case rel => exact ⟨mid + 1, b1, l1, _, r, L, by go_num, rfl, rfl, rfl, rfl, by have := HLR.out; have := HGB.out; have := HN0.out; omega, by have := HLR.out; have := HGB.out; have := HN0.out; omega, by have := HLR.out; omega, hbN, by have := HL.out; omega, HSZ.out, HS6.out, HL6.out.1, fun R hR hs => have hh := HL6.out.2 R hR hs; HR.out R hh.1 hh.2⟩
                    · have hlrI : ¬ (le : Int) < (ri : Int) := by omega
                      obtain ⟨m1, hm1⟩ : ∃ c, c = mid + 1 := ⟨_, rfl⟩
                      have hm1I : (mid : Int) + 1 = (m1 : Int) := by omega
                      have HM1 := Lib.hid hm1
                      rw [← hm1] at HPR
                      clear hm1
                      go_wp2_with fail
                      refine (IH.out (ri - 1) (by have := HLR.out; have := HGB.out; have := HN0.out; omega) (W := w5) (d := d4) (a := m1) (b := b1) (l := l1) (by have := HLR.out; have := HM1.out; omega) (by have := HM1.out; omega) hbN HS4.out HSK4.out HPR.out.2.1 (by have := HL.out; omega)).mono ?_
                      rintro e w6 ⟨rfl, L, hL1, hL2, hS6⟩
                      have HS6 := Lib.hid hS6
                      have HL6 := Lib.hid (HPR.out.2.2.2 L hL1 hL2)
                      have HSZ : Hid (L.size = N) := by show _ = _; rw [hL1.1]; exact HSK4.out
                      clear hL1 hL2 hS6
                      go_wp2_with fail
                      go_roundg (gk - 1)
                      case measure => have := HLR.out; have := HGB.out; have := H13.out; omega
                      case rel => exact ⟨a1, mid, l1, _, r, L, rfl, rfl, rfl, rfl, rfl, by have := HLR.out; have := HGB.out; have := HN0.out; omega, by have := HLR.out; have := HGB.out; have := HN0.out; omega, by omega, by omega, by have := HL.out; omega, HSZ.out, HS6.out, HL6.out.1, fun R hR hs => have hh := HL6.out.2 R hR hs; HR.out R hh.1 hh.2⟩
                  · have ha0I : (0 : Int) < (a1 : Int) := by omega
                    have ha0P : 0 < a1 := by omega
                    have ha0D : decide (0 < a1) = true := by simp; omega
                    have ha0E : decide ((0 : Int) < (a1 : Int)) = true := by simp; omega
                    obtain ⟨a0, ha0'⟩ : ∃ c, a1 = c + 1 := ⟨a1 - 1, by omega⟩
                    have ha0J : (a1 : Int) - 1 = (a0 : Int) := by omega
                    have hwa0 : IntKind.i64.wrap (a0 : Int) = (a0 : Int) := by rw [IntKind.wrap_i64]; omega
                    have h00 : (0 : Int) ≤ (a0 : Int) := by omega
                    have ha0N : (a0 : Int) < (N : Int) := by omega
                    have hpN : (p : Int) < (N : Int) := by have := HP.out; omega
                    have hp0 : (0 : Int) ≤ (p : Int) := by omega
                    have hc0 := HS.out.cell (t := a0) (by rw [HSK.out]; omega)
                    have hcp := HS.out.cell (t := p) (by rw [HSK.out]; have := HP.out; omega)
                    have HA0 : Hid (a1 - 1 = a0 ∧ 0 < a1) := by exact ⟨by omega, by omega⟩
                    cases hl2 : ltB dk[a0]! dk[p]!
                    · have HL2 := Lib.hid hl2
                      clear hl2 ha0 ha0'
                      have HL2' := Lib.hid HL2.out
                      generalize dk[a0]! = x at hc0 HL2
                      generalize dk[p]! = y at hcp HL2
                      go_quiet (first | (go_at_call 78; refine Calls.quiet_of_same (cmpLess_is _ _ _ _ HL2.out)))
                      have HS5 := Lib.hid (HS.out.drewN nq)
                      clear HS hc0 hcp
                      go_wp2_with fail
                      refine (equal_s HS5.out HSK.out hbN hsz (by have := H13.out; omega) HP.out.1 HP.out.2).mono ?_
                      rintro e w5 ⟨mid, d4, rfl, hPE, hS4⟩
                      have hmid1 := hPE.am
                      have hmid2 := hPE.mb
                      have HER := Lib.hid (equal_round hPE HA0.out.2 (by rw [HSK.out]; exact hbN) HB.out (by rw [HA0.out.1]; exact HL2'.out))
                      have HS4 := Lib.hid hS4
                      have HSK4 := Lib.hid hPE.size
                      clear hPE hS4
                      go_wp2_with fail
                      go_roundg (gk - 1)
                      case measure => have := HGB.out; have := H13.out; omega
                      case rel => exact ⟨mid, b1, l1, true, true, d4, rfl, rfl, rfl, rfl, rfl, by have := HGB.out; have := HN0.out; omega, by have := HGB.out; have := HN0.out; omega, by omega, hbN, by have := HL.out; omega, HSK4.out, HS4.out, HER.out.1, fun R hR hs => have hh := HER.out.2 R hR hs; HR.out R hh.1 hh.2⟩
                    · have HL2 := Lib.hid hl2
                      clear hl2 ha0 ha0'
                      generalize dk[a0]! = x at hc0 HL2
                      generalize dk[p]! = y at hcp HL2
                      go_quiet (first | (go_at_call 78; refine Calls.quiet_of_same (cmpLess_is _ _ _ _ HL2.out)))
                      have HS5 := Lib.hid (HS.out.drewN nq)
                      clear HS hc0 hcp
                      go_wp2_with fail
                      have HS := Lib.hid HS5.out
                      refine (part_s HS.out HSK.out hbN hsz (by have := H13.out; omega) HP.out.1 HP.out.2).mono ?_
                      rintro e w5 ⟨mid, r, d4, rfl, hPd, hS4⟩
                      have hmid1 := hPd.am
                      have hmid2 := hPd.mb
                      have HPR := Lib.hid (part_round hPd (by rw [HSK.out]; exact hbN) HB.out)
                      have HS4 := Lib.hid hS4
                      have HSK4 := Lib.hid hPd.size
                      clear hPd hS4
                      obtain ⟨le, hle⟩ : ∃ c, mid = a1 + c := ⟨mid - a1, by omega⟩
                      obtain ⟨ri, hri⟩ : ∃ c, b1 = mid + c := ⟨b1 - mid, by omega⟩
                      have hleI : (mid : Int) - (a1 : Int) = (le : Int) := by omega
                      have hriI : (b1 : Int) - (mid : Int) = (ri : Int) := by omega
                      have HLR : Hid (mid = a1 + le ∧ b1 = mid + ri ∧ b1 = a1 + m ∧ 1 ≤ ri) := by have := HM.out; exact ⟨hle, hri, by omega, by omega⟩
                      clear hle hri
                      by_cases hlr : le < ri
                      · have hlrI : (le : Int) < (ri : Int) := by omega
                        go_wp2_with fail
                        refine (IH.out le (by have := HLR.out; have := HGB.out; have := HN0.out; omega) (W := w5) (d := d4) (a := a1) (b := mid) (l := l1) (by have := HLR.out; omega) (by omega) (by omega) HS4.out HSK4.out HPR.out.1 (by have := HL.out; omega)).mono ?_
                        rintro e w6 ⟨rfl, L, hL1, hL2, hS6⟩
                        have HS6 := Lib.hid hS6
                        have HL6 := Lib.hid (HPR.out.2.2.1 L hL1 hL2)
                        have HSZ : Hid (L.size = N) := by show _ = _; rw [hL1.1]; exact HSK4.out
                        clear hL1 hL2 hS6
                        go_wp2_with fail
                        go_roundg (gk - 1)
                        case measure => have := HLR.out; have := HGB.out; have := H13.out; omega
                        case rel => exact ⟨mid + 1, b1, l1, _, r, L, by go_num, rfl, rfl, rfl, rfl, by have := HLR.out; have := HGB.out; have := HN0.out; omega, by have := HLR.out; have := HGB.out; have := HN0.out; omega, by have := HLR.out; omega, hbN, by have := HL.out; omega, HSZ.out, HS6.out, HL6.out.1, fun R hR hs => have hh := HL6.out.2 R hR hs; HR.out R hh.1 hh.2⟩
                      · have hlrI : ¬ (le : Int) < (ri : Int) := by omega
                        obtain ⟨m1, hm1⟩ : ∃ c, c = mid + 1 := ⟨_, rfl⟩
                        have hm1I : (mid : Int) + 1 = (m1 : Int) := by omega
                        have HM1 := Lib.hid hm1
                        rw [← hm1] at HPR
                        clear hm1
                        go_wp2_with fail
                        refine (IH.out (ri - 1) (by have := HLR.out; have := HGB.out; have := HN0.out; omega) (W := w5) (d := d4) (a := m1) (b := b1) (l := l1) (by have := HLR.out; have := HM1.out; omega) (by have := HM1.out; omega) hbN HS4.out HSK4.out HPR.out.2.1 (by have := HL.out; omega)).mono ?_
                        rintro e w6 ⟨rfl, L, hL1, hL2, hS6⟩
                        have HS6 := Lib.hid hS6
                        have HL6 := Lib.hid (HPR.out.2.2.2 L hL1 hL2)
                        have HSZ : Hid (L.size = N) := by show _ = _; rw [hL1.1]; exact HSK4.out
                        clear hL1 hL2 hS6
                        go_wp2_with fail
                        go_roundg (gk - 1)
                        case measure => have := HLR.out; have := HGB.out; have := H13.out; omega
                        case rel => exact ⟨a1, mid, l1, _, r, L, rfl, rfl, rfl, rfl, rfl, by have := HLR.out; have := HGB.out; have := HN0.out; omega, by have := HLR.out; have := HGB.out; have := HN0.out; omega, by omega, by omega, by have := HL.out; omega, HSZ.out, HS6.out, HL6.out.1, fun R hR hs => have hh := HL6.out.2 R hR hs; HR.out R hh.1 hh.2⟩
                · have HE := Lib.hid (HR.out dk (permIn_refl _ _ _) (hr1 rfl))
                  clear hr1
                  go_wp2
                  go_end0
                  exact ⟨rfl, dk, HE.out.1, HE.out.2, HS4.out⟩
end Go.Proofs.Ytbnhemmklbbnmaa

/-! ## SortAll -/
namespace Go.Proofs.Ytbnhemmklbbnmaa
open Go.RowKit Go.Sort

theorem lenN_le : ∀ x : Fin 50, lenN x.val ≤ 64 := by decide +kernel
set_option maxRecDepth 100000 in
set_option maxHeartbeats 800000 in
theorem sort_s {w0 W : World} {blk off cap N : Nat} {d : Array Nat} (h : Srt w0 blk off d W) (hN : d.size = N) (hsz : N < 50) :
    Calls Try.prog 36 #[.slice (some ⟨blk, off, none⟩) N cap] W (SortsTo w0 blk off 0 N d) := by
  have H := Lib.hid h
  have HN := Lib.hid hN
  have hw : IntKind.u64.wrap (N : Int) = (N : Int) := by rw [IntKind.wrap_u64]; omega
  have hl := lenN_le ⟨N, hsz⟩
  have HL := Lib.hid hl
  have HB : Hid (Below ltB 0 N d) := Or.inl rfl
  clear h hN hl
  go_enter Try.func36, Try.ntmps36
  go_wp2_with fail
  refine (len_x W N hsz).mono ?_
  rintro e w' ⟨rfl, rfl⟩
  go_wp2_with fail
  have hc := pdq_s (w0 := w0) (blk := blk) (off := off) (cap := cap) hsz N (W := W) (a := 0) (b := N) (l := lenN N) (d := d) (by omega) (Nat.zero_le _) (Nat.le_refl _) H.out HN.out HB.out HL.out
  refine hc.mono ?_
  rintro e w2 ⟨rfl, d', h1, h2, h3⟩
  have H3 := Lib.hid h3
  clear hc h3
  go_wp2
  go_end0
  exact ⟨rfl, d', h1, h2, H3.out⟩
end Go.Proofs.Ytbnhemmklbbnmaa

/-! ## SortOwn -/
namespace Go.Proofs.Ytbnhemmklbbnmaa
open Go.RowKit Go.Sort

theorem below_grow {B : Nat} {w0 w : World} (h : RowKit.Below B w0 w) (hB : B ≤ w.heap.size) (os : Array Obj) : RowKit.Below B w0 (grow w os) :=
  ⟨h.os, h.tape, h.output, Nat.le_trans h.size (by simp), fun k hk => (heap_grow_old w os (by omega)).trans (h.block k hk)⟩
theorem OwnN.grow {w : World} {base g n c : Nat} {l : List Nat} (h : OwnN w base (some ⟨g, 0, none⟩) n c l) (os : Array Obj) : OwnN (Sort.grow w os) base (some ⟨g, 0, none⟩) n c l := by
  refine ⟨h.1, ?_⟩
  rcases h.2 with ⟨hv, _⟩ | ⟨g', cap, cur, hv, h3, hg, h4⟩
  · cases hv
  · exact .inr ⟨g', cap, cur, hv, h3, (heap_grow_old w os (Array.getElem?_eq_some_iff.1 hg).1).trans hg, h4⟩
theorem sortN_of {l : List Nat} {d : Array Nat} (h1 : PermIn 0 l.toArray.size l.toArray d) (h2 : SortedIn ltB 0 l.toArray.size d) : d.toList = sortN l := by
  have h3 := sorted_unique_holds swo_ltB (fun x y h1 h2 => by simp [ltB] at h1 h2; omega) l.toArray _ h1 h2
  rw [h3]
  unfold sortN
  congr 1
  funext x y
  simp only [ltB]
  by_cases h : x ≤ y <;> simp [h] <;> omega
/-- The row is sorted; nothing below it has turned. -/
def SortsOwn (w : World) (base : Nat) (A : Option Addr) (n c : Nat) (l : List Nat) (e : Ending) (w' : World) : Prop := e = .returned (.tuple #[]) ∧ OwnN w' base A n c (sortN l) ∧ RowKit.Below base w w' ∧ w.grownBy w' (Value.slice A n c).ownBlock
set_option maxRecDepth 100000 in
set_option maxHeartbeats 1000000 in
theorem sort_nil (w : World) (A : Option Addr) (c : Nat) : Calls Try.prog 36 #[.slice A 0 c] w (fun e w' => e = .returned (.tuple #[]) ∧ w = w') := by
  have hins : ∀ w, Calls Try.prog 72 #[.slice A 0 c, .int .i64 0, .int .i64 0] w (fun e w' => e = .returned (.tuple #[]) ∧ w = w') := fun w => by
    go_enter Try.func72, Try.ntmps72
    go_wp2
    go_loopw [6] (fun v1 wr => v1 = .int .i64 1 ∧ w = wr) (fun _ _ => 0)
    case atStart => exact ⟨rfl, rfl⟩
    case round =>
      obtain ⟨rfl, rfl⟩ := hrel
      go_wp2
      go_end0
      exact ⟨rfl, rfl⟩
  have hpdq : ∀ w z, Calls Try.prog 57 #[.slice A 0 c, .int .i64 0, .int .i64 0, .int .i64 z] w (fun e w' => e = .returned (.tuple #[]) ∧ w = w') := fun w z => by
    go_enter Try.func57, Try.ntmps57
    go_wp2
    go_loopw [1, 2, 3, 8] (fun v1 v2 v3 v wr => v1 = .int .i64 0 ∧ v2 = .int .i64 0 ∧ v3 = .int .i64 z ∧ v = .bool true ∧ w = wr) (fun _ _ _ _ _ => 0)
    case atStart => exact ⟨rfl, rfl, rfl, rfl, rfl⟩
    case round =>
      obtain ⟨rfl, rfl, rfl, rfl, rfl⟩ := hrel
      go_wp2_with fail
      refine (hins w).mono ?_
      rintro e w' ⟨rfl, rfl⟩
      go_wp2
      refine bodyPost_ret (results_none rfl _ _ _) rfl ?_
      exact ⟨rfl, rfl⟩
  go_enter Try.func36, Try.ntmps36
  go_wp2_with fail
  refine (len_x w 0 (by omega)).mono ?_
  rintro e w' ⟨rfl, rfl⟩
  go_wp2_with fail
  refine (hpdq w (lenN 0 : Int)).mono ?_
  rintro e w' ⟨rfl, rfl⟩
  go_wp2
  go_end0
  exact ⟨rfl, rfl⟩
theorem sort_own (w : World) (base : Nat) (A : Option Addr) (n c : Nat) (l : List Nat) (h : OwnN w base A n c l) (hn : n < 50) : Calls Try.prog 36 #[.slice A n c] w (SortsOwn w base A n c l) := by
  have hl := h.len
  by_cases h0 : n = 0
  · subst h0
    obtain rfl : l = [] := List.eq_nil_of_length_eq_zero hl
    refine (sort_nil w A c).mono ?_
    rintro e w' ⟨rfl, rfl⟩
    exact ⟨rfl, by rw [show sortN [] = [] from by simp [sortN]]; exact h, RowKit.Below.refl _ _, ⟨rfl, rfl, rfl, Nat.le_refl _, fun _ _ _ => rfl⟩⟩
  · obtain ⟨g, rfl⟩ : ∃ g, A = some ⟨g, 0, none⟩ := by
      rcases h.2 with ⟨_, h2⟩ | ⟨g, cap, cur, hv, _⟩
      · exact absurd h2 h0
      · injection hv with e1
        exact ⟨g, e1⟩
    have hb := h.lt g rfl
    have hsz : l.toArray.size = n := by simpa using hl
    refine (sort_s (w0 := w) (blk := g) (off := 0) (cap := c) (N := n) (d := l.toArray) (Srt.start h.holds hb.2) hsz hn).mono ?_
    rintro e w' ⟨rfl, d, h1, h2, h3⟩
    rw [← hsz] at h1 h2
    have hd := sortN_of h1 h2
    obtain ⟨m, os, rfl⟩ := h3.sw
    have hd2 : d = (sortN l).toArray := by rw [← hd]
    obtain ⟨k1, k2, k3⟩ := h.sorted (m := m) (l' := sortN l) (sortN_len l)
    rw [hd2]
    refine ⟨rfl, k1.grow os, below_grow k2 (by rw [k3]; omega) os, ?_⟩
    refine ⟨rfl, rfl, rfl, by show _ ≤ (Sort.grow (putRow nv (Sort.ahead w m) g 0 (sortN l).toArray) os).heap.size; rw [size_grow, k3]; omega, fun q hq hne => ?_⟩
    rw [show (sortWorld nv w g 0 m (sortN l).toArray os) = Sort.grow (putRow nv (Sort.ahead w m) g 0 (sortN l).toArray) os from rfl, heap_grow_old _ os (by rw [k3]; exact hq)]
    have hqg : g ≠ q := fun e => hne (by rw [e]; rfl)
    simp [putRow, mapBlock, Sort.ahead, Array.getElem?_modify, hqg]
theorem OwnN.none_ {w : World} {base n c : Nat} {l : List Nat} (h : OwnN w base none n c l) : n = 0 ∧ l = [] := by
  rcases h.2 with ⟨_, h2⟩ | ⟨g, cap, cur, hv, _⟩
  · exact ⟨h2, List.eq_nil_of_length_eq_zero (by have := h.len; omega)⟩
  · cases hv
set_option maxRecDepth 100000 in
set_option maxHeartbeats 1000000 in
theorem ofA_any (w : World) (A : Option Addr) (n c : Nat) (l : List Nat) (hs : Sn w w.heap.size A n c 1 (nvs l)) (hl : ∀ x ∈ l, x < two64) (hn : n < 50) :
    Calls Try.prog 24 #[.slice A n c] w (SaysS w 0 (ofL l)) := by
  have HS := Lib.hid hs
  have HL := Lib.hid hl
  obtain ⟨s, HSS⟩ : ∃ s, Hid (s = sortN l) := ⟨_, rfl⟩
  rw [show ofL l = ofGo [] s from by rw [HSS.out]; rfl]
  clear hs hl
  go_enter Try.func24, Try.ntmps24
  go_wp2_with fail
  have hR : (w.alloc (Obj.cells #[.slice none 0 0] 44)).heap[w.heap.size]? = some (.cells #[.slice none 0 0] 44 (0, 0)) := heap_alloc_new w _
  have hb1 : RowKit.Below w.heap.size w (w.alloc (Obj.cells #[.slice none 0 0] 44)) := below_box w _
  have hz1 : (w.alloc (Obj.cells #[.slice none 0 0] 44)).heap.size = w.heap.size + 1 := by simp
  have HS1 := Lib.hid (HS.out.onA (Obj.cells #[.slice none 0 0] 44))
  generalize w.alloc (Obj.cells #[.slice none 0 0] 44) = w1 at *
  have HR1 := Lib.hid hR
  have HZ1 := Lib.hid hz1
  clear hR hz1
  refine (cloneN_any w1 A n c l HS1.out (by omega)).mono ?_
  rintro e w2 ⟨A2, n2, c2, rfl, hown2, hb2⟩
  have hn2 : n2 = n := by rw [← hown2.len]; have := HS.out.len; rw [nvs_len] at this; omega
  subst hn2
  have HSO := Lib.hid (sort_own w2 w1.heap.size A2 n2 c2 l hown2 hn)
  have HB2 := Lib.hid hb2
  clear hown2 hb2
  go_wp2_with fail
  refine HSO.out.mono ?_
  rintro e w3 ⟨rfl, hown3, hb3, _⟩
  have hbase : w1.heap.size ≤ w3.heap.size := Nat.le_trans HB2.out.size hb3.size
  rw [← show s = sortN l from HSS.out] at hown3
  have HZ3 : Hid (w.heap.size < w3.heap.size ∧ w1.heap.size = w.heap.size + 1) := by have := HZ1.out; exact ⟨by omega, by omega⟩
  have hbw3 : RowKit.Below w.heap.size w w3 := hb1.trans ((HB2.out.mono (by have := HZ1.out; omega)).trans (hb3.mono (by have := HZ1.out; omega)))
  have HR3 := Lib.hid (((hb3.block w.heap.size (by have := HZ1.out; omega)).trans (HB2.out.block w.heap.size (by have := HZ1.out; omega))).trans HR1.out)
  have HOW3 := Lib.hid hown3
  have HSL : Hid (s.length = n2) := hown3.len
  have HLT : Hid (∀ x ∈ s, x < two64) := fun x hx => HL.out x ((sortN_mem l x).1 (HSS.out ▸ hx))
  clear hown3 hb3 HSO HR1 HB2 HL HS HS1 hb1 HZ1 hbase
  go_wp2_with fail
  go_loopg [4, 13] n2 (fun gk vl vi wr => OfRel w3 n2 s gk vl vi wr)
  case atStart =>
    exact ⟨0, none, 0, 0, by omega, rfl, rfl, ⟨rfl, .inl ⟨rfl, rfl⟩⟩, RowKit.Below.refl _ _⟩
  case round =>
    obtain ⟨k, Al, nl, cl, hg, rfl, rfl, hown, hbel⟩ := hrel
    have HG := Lib.hid hg
    have HOWN := Lib.hid hown
    have HROW := Lib.hid ((Sn.of_own HOW3.out).below hbel (Nat.le_refl _))
    have hzr := hbel.size
    clear hg hown
    by_cases hk : k < n2
    · have hkI : (k : Int) < (n2 : Int) := by omega
      have hk0 : (0 : Int) ≤ (k : Int) := by omega
      obtain ⟨x, hx⟩ : ∃ x, s[k]? = some x := ⟨_, List.getElem?_eq_getElem (by rw [HSL.out]; exact hk)⟩
      obtain ⟨g, o, he, hgB, hcell⟩ := HROW.out.cell (by omega)
      have hc : wr.cell? ⟨g, o + k, none⟩ = some (.int .u64 (x : Int)) := hcell k (nv x) (by simp [nvs, hx])
      subst he
      have HXL := Lib.hid (HLT.out x (List.mem_of_getElem? hx))
      have HTK : Hid (s.take (k + 1) = s.take k ++ [x]) := by show _ = _; rw [List.take_add_one, hx]; rfl
      have HLL : Hid (∀ q ∈ ofGo [] (s.take k), q.1 < two64 ∧ q.2 < two64) := ofGo_lt _ _ (fun a ha => by cases ha) (fun y hy => HLT.out y (List.mem_of_mem_take hy))
      have HNL : Hid (nl ≤ n2) := by
        have h1 := HOWN.out.1
        rw [rvs_len] at h1
        have h2 := ofGo_len (s.take k) []
        rw [List.length_take] at h2
        simp only [List.length_nil] at h2
        show _ ≤ _
        omega
      clear hx hcell
      go_wp2_with fail
      refine (join_any' wr w3.heap.size Al nl cl (ofGo [] (s.take k)) (x, x) HLL.out ⟨HXL.out, HXL.out⟩ (by have := HNL.out; omega) HOWN.out hzr).mono ?_
      rintro e w5 ⟨A5, n5, c5, rfl, hown5, hb5⟩
      have HO5 := Lib.hid hown5
      have HB5 := Lib.hid hb5
      clear hown5 hb5
      go_wp2
      go_roundg (gk - 1)
      case measure => have := HG.out; omega
      case rel =>
        refine ⟨k + 1, A5, n5, c5, by have := HG.out; omega, rfl, by go_num, by rw [HTK.out, ofGo_snoc]; exact HO5.out, hbel.trans HB5.out⟩
    · have hkI : ¬ (k : Int) < (n2 : Int) := by omega
      have HE : Hid (s.take k = s) := List.take_of_length_le (by have := HSL.out; have := HG.out; omega)
      have hR5 := (hbel.block w.heap.size HZ3.out.1).trans HR3.out
      have hq0 : wr.cell? ⟨w.heap.size, 0, none⟩ = some (.slice none 0 0) := by rw [cell_of_row wr _ 0 _ _ _ hR5]; rfl
      have hf0 := frz_row (i := 0) hR5
      have hown6 := HOWN.out.kept (set_grown wr w.heap.size 0 (.slice Al nl cl)) (own_ne HOWN.out HZ3.out.1)
      have hb6 : RowKit.Below w.heap.size w (wr.setCell ⟨w.heap.size, 0, none⟩ (.slice Al nl cl)) := (hbw3.trans (hbel.mono hbw3.size)).setCell (Nat.le_refl _) _
      have hc6 : (wr.setCell ⟨w.heap.size, 0, none⟩ (.slice Al nl cl)).cell? ⟨w.heap.size, 0, none⟩ = some (.slice Al nl cl) := World.cell?_setCell_same _ _ _ hq0
      have HO6 := Lib.hid hown6
      clear hR5 hown6
      go_wp2
      refine bodyPost_ret (v := .agg #[.slice Al nl cl]) (by simp [results, Try.results24, go_sem, hc6]) rfl ?_
      have ho := HO6.out
      rw [HE.out] at ho
      have hs3 := hbw3.size
      exact ⟨Al, nl, cl, rfl, St.of_own ho (ofGo_lt _ _ (fun a ha => by cases ha) HLT.out), fun b o hb => .inr (by have := (ho.lt b (by rw [hb]; rfl)).1; omega), hb6⟩
end Go.Proofs.Ytbnhemmklbbnmaa

/-! ## BoardSearch -/
namespace Go.Proofs.Ytbnhemmklbbnmaa
open Go.RowKit Go.Sort

theorem tw_iff {p : Nat → Bool} : ∀ {N : List Nat}, N.Pairwise (fun a b => p b = true → p a = true) → ∀ {j x : Nat}, N[j]? = some x → (j < (N.takeWhile p).length ↔ p x = true)
  | [], _, j, x, h => by simp at h
  | y :: N, hp, j, x, h => by
    rw [List.pairwise_cons] at hp
    by_cases hy : p y = true
    · rw [List.takeWhile_cons_of_pos hy, List.length_cons]
      cases j with
      | zero => simp at h; subst h; simp [hy]
      | succ j =>
        simp at h
        have := tw_iff hp.2 h
        rw [← this]
        omega
    · rw [List.takeWhile_cons_of_neg hy]
      have hx : x ∈ y :: N := List.mem_of_getElem? h
      have hpx : p x ≠ true := fun e => by
        rcases List.mem_cons.1 hx with rfl | hx
        · exact hy e
        · exact hy (hp.1 x hx e)
      simp [hpx]
def lowN (N : List Nat) (v : Nat) : Nat := (N.takeWhile (fun x => decide (x < v))).length
def upN (N : List Nat) (v : Nat) : Nat := (N.takeWhile (fun x => decide (x ≤ v))).length
theorem lowN_le (N : List Nat) (v : Nat) : lowN N v ≤ N.length := (List.takeWhile_sublist _).length_le
theorem upN_le (N : List Nat) (v : Nat) : upN N v ≤ N.length := (List.takeWhile_sublist _).length_le
def Inc (N : List Nat) : Prop := N.Pairwise (fun a b => a < b)
theorem lowN_iff {N : List Nat} (h : Inc N) {v j x : Nat} (hj : N[j]? = some x) : j < lowN N v ↔ x < v := by
  have := tw_iff (p := fun x => decide (x < v)) (h.imp fun {a b} hab => by simp; omega) hj
  simpa [lowN] using this
theorem upN_iff {N : List Nat} (h : Inc N) {v j x : Nat} (hj : N[j]? = some x) : j < upN N v ↔ x ≤ v := by
  have := tw_iff (p := fun x => decide (x ≤ v)) (h.imp fun {a b} hab => by simp; omega) hj
  simpa [upN] using this
set_option maxRecDepth 100000 in
theorem nanS_any (w : World) (x : Int) : Calls Try.prog 86 #[.int .u64 x] w fun e w' => e = .returned (.bool false) ∧ w = w' := by
  go_enter Try.func86, Try.ntmps86
  go_wp2
  go_ret
  exact ⟨by simp, rfl⟩
def BinSays (w : World) (k : Nat) (e : Ending) (w' : World) : Prop := (∃ fd, e = .returned (.tuple #[.int .i64 (k : Int), .bool fd])) ∧ w = w'
def BinRel (w : World) (k n gk : Nat) (vi vj : Value) (wr : World) : Prop :=
  ∃ i j : Nat, gk + i = j ∧ i ≤ k ∧ k ≤ j ∧ j ≤ n ∧ vi = .int .i64 (i : Int) ∧ vj = .int .i64 (j : Int) ∧ wr = w
set_option maxRecDepth 100000 in
set_option maxHeartbeats 1000000 in
theorem binary_any (w : World) (B : Nat) (A : Option Addr) (n c v : Nat) (N : List Nat) (h : Sn w B A n c 1 (nvs N)) (hN : Inc N) (hn : n ≤ 1000) :
    Calls Try.prog 62 #[.slice A n c, .int .u64 (v : Int)] w (BinSays w (lowN N v)) := by
  have H := Lib.hid h
  have HLEN : Hid (N.length = n) := by have := h.len; rw [nvs_len] at this; show _ = _; omega
  have HK : Hid (lowN N v ≤ n) := by show _ ≤ _; rw [← HLEN.out]; exact lowN_le N v
  have HLT : Hid (∀ j x, N[j]? = some x → (j < lowN N v ↔ x < v)) := fun j x hx => lowN_iff hN hx
  generalize lowN N v = k at *
  clear h hN
  go_enter Try.func62, Try.ntmps62
  go_wp2
  go_loopg [7, 8] n (fun gk vi vj wr => BinRel w k n gk vi vj wr)
  case atStart => exact ⟨0, n, by omega, Nat.zero_le _, HK.out, Nat.le_refl _, rfl, rfl, rfl⟩
  case round =>
    obtain ⟨i, j, hg, hik, hkj, hjn, rfl, rfl, rfl⟩ := hrel
    have HG := Lib.hid hg
    clear hg
    by_cases hlt : i < j
    · obtain ⟨m, hm⟩ : ∃ m, (i + j) / 2 = m := ⟨_, rfl⟩
      have hmI : ((i : Int) + (j : Int)) / 2 = (m : Int) := by omega
      have him : i ≤ m := by omega
      have hmj : m < j := by omega
      obtain ⟨x, hx⟩ : ∃ x, N[m]? = some x := ⟨_, List.getElem?_eq_getElem (by have := HLEN.out; omega)⟩
      obtain ⟨b, o, he, hgB, hcell⟩ := H.out.cell (by omega)
      have hc : wr.cell? ⟨b, o + m, none⟩ = some (.int .u64 (x : Int)) := hcell m (nv x) (by simp [nvs, hx])
      subst he
      have hlk := HLT.out m x hx
      have hmn0 : (0 : Int) ≤ (m : Int) := by omega
      have hmn : (m : Int) < (n : Int) := by omega
      clear hm hx hcell
      by_cases hv : x < v
      · have HT : Hid (∀ w1, Calls Try.prog 78 #[.int .u64 (x : Int), .int .u64 (v : Int)] w1 fun e w' => e = .returned (.bool true) ∧ w1 = w') := fun w1 => by
          have h1 := cmpLess_any w1 x v
          rwa [show ltB x v = true from by simp [ltB, hv]] at h1
        go_wp2_with fail
        refine (HT.out _).mono ?_
        rintro e w2 ⟨rfl, rfl⟩
        go_wp2
        go_roundg (j - (m + 1))
        case measure => have := HG.out; omega
        case rel => exact ⟨m + 1, j, by omega, by omega, hkj, hjn, by go_num, rfl, rfl⟩
      · have HT : Hid (∀ w1, Calls Try.prog 78 #[.int .u64 (x : Int), .int .u64 (v : Int)] w1 fun e w' => e = .returned (.bool false) ∧ w1 = w') := fun w1 => by
          have h1 := cmpLess_any w1 x v
          rwa [show ltB x v = false from by simp [ltB]; omega] at h1
        go_wp2_with fail
        refine (HT.out _).mono ?_
        rintro e w2 ⟨rfl, rfl⟩
        go_wp2
        go_roundg (m - i)
        case measure => have := HG.out; omega
        case rel => exact ⟨i, m, by omega, hik, by omega, by omega, rfl, rfl, rfl⟩
    · have hki : i = k := by omega
      have HKI := Lib.hid hki
      have hnlt : ¬ (i : Int) < (j : Int) := by omega
      clear hki
      by_cases hin : i < n
      · have hinI : (i : Int) < (n : Int) := by omega
        have hi0 : (0 : Int) ≤ (i : Int) := by omega
        obtain ⟨x, hx⟩ : ∃ x, N[i]? = some x := ⟨_, List.getElem?_eq_getElem (by have := HLEN.out; omega)⟩
        obtain ⟨b, o, he, hgB, hcell⟩ := H.out.cell (by omega)
        have hc : wr.cell? ⟨b, o + i, none⟩ = some (.int .u64 (x : Int)) := hcell i (nv x) (by simp [nvs, hx])
        subst he
        clear hx hcell
        by_cases hxv : (x : Int) = (v : Int)
        · have hxvI : ((x : Int) == (v : Int)) = true := by simpa using hxv
          clear hxv
          go_wp2_with fail
          go_ret2
          exact ⟨⟨true, by rw [HKI.out]; rfl⟩, rfl⟩
        · have hxvI : ((x : Int) == (v : Int)) = false := by simpa using hxv
          clear hxv
          go_wp2_with fail
          refine (nanS_any _ _).mono ?_
          rintro e w2 ⟨rfl, rfl⟩
          go_wp2_with fail
          go_ret2
          exact ⟨⟨false, by rw [HKI.out]; rfl⟩, rfl⟩
      · have hinI : ¬ (i : Int) < (n : Int) := by omega
        go_wp2_with fail
        go_ret2
        exact ⟨⟨false, by rw [HKI.out]; rfl⟩, rfl⟩
set_option maxRecDepth 100000 in
set_option maxHeartbeats 1000000 in
theorem ctest_any (w : World) (X F R B : Nat) (A : Option Addr) (n c fr i v : Nat) (N : List Nat) (x : Nat) (hx : w.cell? ⟨X, 0, none⟩ = some (.slice A n c)) (hf : w.cell? ⟨F, 0, none⟩ = some (.int .i64 (fr : Int))) (hr : w.cell? ⟨R, 1, none⟩ = some (.int .u64 (v : Int))) (h : Sn w B A n c 1 (nvs N)) (hi : fr + i < n) (hxi : N[fr + i]? = some x) (hn : n ≤ 1000) :
    Calls Try.prog 64 #[.int .i64 (i : Int), .pointer (some ⟨X, 0, none⟩), .pointer (some ⟨F, 0, none⟩), .pointer (some ⟨R, 0, none⟩)] w fun e w' => e = .returned (.bool (decide (v < x))) ∧ ∃ q, w' = w.drewN q := by
  obtain ⟨b, o, he, hgB, hcell⟩ := h.cell (by omega)
  have hc : w.cell? ⟨b, o + (fr + i), none⟩ = some (.int .u64 (x : Int)) := hcell (fr + i) (nv x) (by simp [nvs, hxi])
  subst he
  obtain ⟨p, hp⟩ : ∃ p, p = fr + i := ⟨_, rfl⟩
  have hpI : (fr : Int) + (i : Int) = (p : Int) := by omega
  rw [← hp] at hc hi
  have hp0 : (0 : Int) ≤ (p : Int) := by omega
  have hp1 : (p : Int) < (n : Int) := by omega
  have hpw : IntKind.i64.wrap ((fr : Int) + (i : Int)) = (p : Int) := by simp [IntKind.wrap, IntKind.bits, IntKind.signed]; omega
  clear h hcell hxi hp
  go_enter Try.func64, Try.ntmps64
  go_wp2
  go_quiet (fail)
  go_wp2
  go_ret
  exact ⟨by simp, _, rfl⟩
set_option maxRecDepth 100000 in
set_option maxHeartbeats 400000 in
/-- sort.Search with it: how many behind 'from' are not above the run's end. -/
theorem csearch_any (w : World) (X F R B : Nat) (A : Option Addr) (n c fr v : Nat) (N : List Nat) (hx : w.cell? ⟨X, 0, none⟩ = some (.slice A n c)) (hf : w.cell? ⟨F, 0, none⟩ = some (.int .i64 (fr : Int))) (hr : w.cell? ⟨R, 1, none⟩ = some (.int .u64 (v : Int))) (h : Sn w B A n c 1 (nvs N)) (hN : Inc N) (hfr : fr ≤ upN N v) (hn : n ≤ 1000) :
    Calls Try.prog 63 #[.int .i64 ((n - fr : Nat) : Int), .func (.func 64) #[] #[.pointer (some ⟨X, 0, none⟩), .pointer (some ⟨F, 0, none⟩), .pointer (some ⟨R, 0, none⟩)]] w fun e w' => e = .returned (.int .i64 ((upN N v - fr : Nat) : Int)) ∧ ∃ q, w' = w.drewN q := by
  have H := Lib.hid h
  have HX := Lib.hid hx
  have HF := Lib.hid hf
  have HR := Lib.hid hr
  have HLEN : Hid (N.length = n) := by have := h.len; rw [nvs_len] at this; show _ = _; omega
  have HUP := Lib.hid (upN_le N v)
  have HLT : Hid (∀ j x, N[j]? = some x → (j < upN N v ↔ x ≤ v)) := fun j x hx => upN_iff hN hx
  generalize upN N v = u at *
  obtain ⟨k, HKK⟩ : ∃ z, Hid (z = u - fr) := ⟨_, rfl⟩
  obtain ⟨nn, HNN⟩ : ∃ z, Hid (z = n - fr) := ⟨_, rfl⟩
  rw [← HKK.out, ← HNN.out]
  have HK : Hid (k ≤ nn ∧ fr + nn = n ∧ fr + k = u) := by
    have h1 := HUP.out
    have h2 := HLEN.out
    have h3 := HKK.out
    have h4 := HNN.out
    exact ⟨by omega, by omega, by omega⟩
  have hnn : nn ≤ 1000 := by have := HK.out; omega
  clear h hx hf hr hN hfr
  go_enter Try.func63, Try.ntmps63
  go_wp2
  go_loopg [5, 6] nn (fun gk vi vj wr => SearchRel w k nn gk vi vj wr)
  case atStart => exact ⟨0, nn, 0, by omega, Nat.zero_le _, HK.out.1, Nat.le_refl _, rfl, rfl, rfl⟩
  case round =>
    obtain ⟨i, j, q, hg, hik, hkj, hjn, rfl, rfl, rfl⟩ := hrel
    have HG := Lib.hid hg
    clear hg
    by_cases hlt : i < j
    · obtain ⟨m, hm⟩ : ∃ m, (i + j) / 2 = m := ⟨_, rfl⟩
      have hmI : ((i : Int) + (j : Int)) / 2 = (m : Int) := by omega
      have him : i ≤ m := by omega
      have hmj : m < j := by omega
      have hKo := HK.out
      obtain ⟨x, hx⟩ : ∃ x, N[fr + m]? = some x := ⟨_, List.getElem?_eq_getElem (by have := HLEN.out; omega)⟩
      have ht := ctest_any (w.drewN q) X F R B A n c fr m v N x HX.out HF.out HR.out (H.out.drewN q) (by omega) hx hn
      have HT := Lib.hid ht
      have hlk := HLT.out (fr + m) x hx
      clear ht hm hx
      by_cases hv : v < x
      · rw [decide_eq_true hv] at HT
        clear hKo
        go_wp2_with fail
        refine HT.out.mono ?_
        rintro e w2 ⟨rfl, q2, rfl⟩
        go_wp2
        go_roundg (m - i)
        case measure => have := HG.out; omega
        case rel => exact ⟨i, m, q + q2, by omega, hik, by have := HK.out; omega, by omega, rfl, rfl, rfl⟩
      · rw [decide_eq_false hv] at HT
        clear hKo
        go_wp2_with fail
        refine HT.out.mono ?_
        rintro e w2 ⟨rfl, q2, rfl⟩
        go_wp2
        go_roundg (j - (m + 1))
        case measure => have := HG.out; omega
        case rel => exact ⟨m + 1, j, q + q2, by omega, by have := HK.out; omega, hkj, hjn, by go_num, rfl, rfl⟩
    · have hki : i = k := by omega
      have HKI := Lib.hid hki
      have hnlt : ¬ (i : Int) < (j : Int) := by omega
      clear hki
      go_wp2
      go_ret
      exact ⟨by rw [HKI.out]; rfl, q, rfl⟩
end Go.Proofs.Ytbnhemmklbbnmaa
