/-
  CONTRACTS of partitionOrdered, partitionEqualOrdered at uint64 (fewer than 30000).
  No statement is proved here.
-/
import Derived.Test.YthhmgbeigeagdaaGreatTwo
import Derived.Deep.DeepCutAuto
import Derived.Deep.CutBlock
namespace Go.Proofs.Ythhmgbeigeagdaa
open Go.RowKit Go.Sort

/-- While a range is parted: what is ahead of i is less than the first, what is behind j isn't. -/
structure PInv (d0 d : Array Nat) (a b i j N : Nat) : Prop where
  perm : PermIn a b d0 d
  size : d.size = N
  bN : b ≤ N
  ai : a < i
  ij : i ≤ j + 1
  jb : j < b
  aj : a ≤ j
  lo : ∀ t, a < t → t < i → d[t]! < d[a]!
  hi : ∀ t, j < t → t < b → ¬ d[t]! < d[a]!
theorem ltB_false {x y : Nat} (h : ltB x y = false) : ¬ x < y := by simpa [ltB] using h
theorem ltB_true {x y : Nat} (h : ltB x y = true) : x < y := by simpa [ltB] using h
section
variable {d0 d : Array Nat} {a b i j N : Nat}
theorem PInv.up (h : PInv d0 d a b i j N) (hij : i ≤ j) (hl : d[i]! < d[a]!) : PInv d0 d a b (i + 1) j N :=
  ⟨h.perm, h.size, h.bN, by have := h.ai; omega, by omega, h.jb, h.aj, fun t h1 h2 => by
    rcases Nat.lt_or_ge t i with h3 | h3
    · exact h.lo t h1 h3
    · obtain rfl : t = i := by omega
      exact hl, h.hi⟩
theorem PInv.down (h : PInv d0 d a b i j N) (hij : i ≤ j) (hl : ¬ d[j]! < d[a]!) : PInv d0 d a b i (j - 1) N :=
  ⟨h.perm, h.size, h.bN, h.ai, by have := h.ai; omega, by have := h.jb; omega, by have := h.ai; omega, h.lo, fun t h1 h2 => by
    rcases Nat.lt_or_ge j t with h3 | h3
    · exact h.hi t h3 h2
    · obtain rfl : t = j := by have := h.ai; omega
      exact hl⟩
theorem PInv.swap (h : PInv d0 d a b i j N) (hij : i ≤ j) (h1 : ¬ d[i]! < d[a]!) (h2 : d[j]! < d[a]!) : PInv d0 (swp d i j) a b (i + 1) (j - 1) N := by
  have hne : i ≠ j := fun e => by subst e; exact h1 h2
  have hai := h.ai
  have hjb := h.jb
  have hbN := h.bN
  have hsz := h.size
  have hi' : i < d.size := by omega
  have hj' : j < d.size := by omega
  have ha : (swp d i j)[a]! = d[a]! := swp_other d i j a (by omega) (by omega)
  refine ⟨permIn_trans _ _ _ _ _ h.perm (swp_permIn d a b i j (by omega) (by omega) (by omega) hjb (by omega)), by rw [size_swp]; exact hsz, hbN, by omega, by omega, by omega, by omega, fun t k1 k2 => ?_, fun t k1 k2 => ?_⟩
  · rw [ha]
    rcases Nat.lt_or_ge t i with h3 | h3
    · rw [swp_other d i j t (by omega) (by omega)]
      exact h.lo t k1 h3
    · obtain rfl : t = i := by omega
      rw [swp_left d t j hi' hne]
      exact h2
  · rw [ha]
    rcases Nat.lt_or_ge j t with h3 | h3
    · rw [swp_other d i j t (by omega) (by omega)]
      exact h.hi t h3 k2
    · obtain rfl : t = j := by omega
      rw [swp_right d i t hj']
      exact h1
theorem PInv.start {p : Nat} (hs : d.size = N) (hb : b ≤ N) (hab : a + 1 < b) (hp1 : a ≤ p) (hp2 : p < b) : PInv d (swp d a p) a b (a + 1) (b - 1) N :=
  ⟨swp_permIn d a b a p (Nat.le_refl _) (by omega) hp1 hp2 (by omega), by rw [size_swp]; exact hs, hb, by omega, by omega, by omega, by omega, fun t h1 h2 => (by omega), fun t h1 h2 => (by omega)⟩
/-- Parted: at m. -/
structure Parted (d0 d : Array Nat) (a b m N : Nat) : Prop where
  perm : PermIn a b d0 d
  size : d.size = N
  am : a ≤ m
  mb : m < b
  lo : ∀ t, a ≤ t → t < m → d[t]! < d[m]!
  hi : ∀ t, m < t → t < b → ¬ d[t]! < d[m]!
theorem PInv.done (h : PInv d0 d a b i j N) (hij : ¬ i ≤ j) : Parted d0 (swp d j a) a b j N := by
  have hai := h.ai
  have h1 := h.ij
  have hjb := h.jb
  have haj := h.aj
  have hbN := h.bN
  have hsz := h.size
  have hj' : j < d.size := by omega
  have ha' : a < d.size := by omega
  by_cases hja : j = a
  · subst hja
    have e : swp d j j = d := by
      apply Array.ext
      · rw [size_swp]
      · intro k k1 k2
        have := swp_get d hj' hj' k
        rw [getElem!_pos (swp d j j) k k1, getElem!_pos d k k2] at this
        rw [this]
        split
        · subst_vars; rw [getElem!_pos d k k2]
        · rfl
    rw [e]
    exact ⟨h.perm, hsz, Nat.le_refl _, hjb, fun t k1 k2 => (by omega), h.hi⟩
  · have hm : (swp d j a)[j]! = d[a]! := swp_left d j a hj' hja
    refine ⟨permIn_trans _ _ _ _ _ h.perm (swp_permIn d a b j a haj hjb (Nat.le_refl _) (by omega) (by omega)), by rw [size_swp]; exact hsz, haj, hjb, fun t k1 k2 => ?_, fun t k1 k2 => ?_⟩
    · rw [hm]
      rcases Nat.eq_or_lt_of_le k1 with h3 | h3
      · subst h3
        rw [swp_right d j a ha']
        exact h.lo j (by omega) (by omega)
      · rw [swp_other d j a t (by omega) (by omega)]
        exact h.lo t h3 (by omega)
    · rw [hm, swp_other d j a t (by omega) (by omega)]
      exact h.hi t k1 k2
end
/-- A scan: dk stays; up: i goes on; down: j goes on. -/
def UpRel (w0 : World) (blk off : Nat) (d0 dk : Array Nat) (a b i0 j N gk : Nat) (vi : Value) (wr : World) : Prop :=
  ∃ i : Nat, vi = .int .i64 (i : Int) ∧ i0 ≤ i ∧ j + 1 - i ≤ gk ∧ PInv d0 dk a b i j N ∧ Srt w0 blk off dk wr
def DownRel (w0 : World) (blk off : Nat) (d0 dk : Array Nat) (a b i j0 N gk : Nat) (vj : Value) (wr : World) : Prop :=
  ∃ j : Nat, vj = .int .i64 (j : Int) ∧ j ≤ j0 ∧ j + 1 - i ≤ gk ∧ PInv d0 dk a b i j N ∧ (¬ i ≤ j ∨ ¬ dk[i]! < dk[a]!) ∧ Srt w0 blk off dk wr
def UpCut (w0 : World) (blk off : Nat) (d0 dk : Array Nat) (a b i0 j N : Nat) (vi : Value) (wr : World) : Prop :=
  ∃ i : Nat, vi = .int .i64 (i : Int) ∧ i0 ≤ i ∧ PInv d0 dk a b i j N ∧ (¬ i ≤ j ∨ ¬ dk[i]! < dk[a]!) ∧ Srt w0 blk off dk wr
def DownCut (w0 : World) (blk off : Nat) (d0 dk : Array Nat) (a b i j0 N : Nat) (vj : Value) (wr : World) : Prop :=
  ∃ j : Nat, vj = .int .i64 (j : Int) ∧ j ≤ j0 ∧ PInv d0 dk a b i j N ∧ (¬ i ≤ j ∨ ¬ dk[i]! < dk[a]!) ∧ (¬ i ≤ j ∨ dk[j]! < dk[a]!) ∧ Srt w0 blk off dk wr
def SaysMid (w0 : World) (blk off : Nat) (d0 : Array Nat) (a b N : Nat) (e : Ending) (w' : World) : Prop :=
  ∃ (m : Nat) (r : Bool) (d' : Array Nat), e = .returned (.tuple #[.int .i64 (m : Int), .bool r]) ∧ Parted d0 d' a b m N ∧ Srt w0 blk off d' w'
theorem second_cell {W : World} {b x y : Nat} {u1 u2 : Value} (hx : W.cell? ⟨b, x, none⟩ = some u1) (hy : W.cell? ⟨b, y, none⟩ = some u2) (v : Value) : ∃ u, (W.setCell ⟨b, x, none⟩ v).cell? ⟨b, y, none⟩ = some u := by
  by_cases h : x = y
  · subst h
    exact ⟨v, World.cell?_setCell_same _ _ _ hx⟩
  · exact ⟨u2, (World.cell?_setCell_other _ _ _ _ (fun e => h (by injection e with _ e))).trans hy⟩
/-- The great loop: what it knows at its head; what it knows when it is left. -/
def PartRel (w0 : World) (blk off : Nat) (d0 : Array Nat) (a b N gk : Nat) (vi vj : Value) (wr : World) : Prop :=
  ∃ (i j : Nat) (dk : Array Nat), vi = .int .i64 (i : Int) ∧ vj = .int .i64 (j : Int) ∧ j + 1 - i ≤ gk ∧ PInv d0 dk a b i j N ∧ Srt w0 blk off dk wr
def PartCut (w0 : World) (blk off : Nat) (d0 : Array Nat) (a b N : Nat) (vj : Value) (wr : World) : Prop :=
  ∃ (i j : Nat) (dk : Array Nat), vj = .int .i64 (j : Int) ∧ ¬ i ≤ j ∧ PInv d0 dk a b i j N ∧ Srt w0 blk off dk wr
set_option maxRecDepth 100000 in
set_option maxHeartbeats 4000000 in
theorem part_s {w0 W : World} {blk off cap a b p N : Nat} {d : Array Nat} (h : Srt w0 blk off d W) (hN : d.size = N) (hb : b ≤ N) (hsz : N < 30000) (hl : a + 1 < b) (hp1 : a ≤ p) (hp2 : p < b) :
    Calls Try.prog 61 #[.slice (some ⟨blk, off, none⟩) N cap, .int .i64 a, .int .i64 b, .int .i64 p] W (SaysMid w0 blk off d a b N) := by
  have HS := Lib.hid h
  have HSK := Lib.hid hN
  have HP0 := Lib.hid (PInv.start (d := d) hN hb hl hp1 hp2)
  obtain ⟨b1, hb1⟩ : ∃ b1, b = b1 + 1 := ⟨b - 1, by omega⟩
  have hbI : (b : Int) - 1 = (b1 : Int) := by omega
  rw [show b - 1 = b1 from by omega] at HP0
  have HB1 := Lib.hid hb1
  clear h hN
  have hci := HS.out.cell (t := a) (by rw [HSK.out]; omega)
  have hcj := HS.out.cell (t := p) (by rw [HSK.out]; omega)
  have hfi := HS.out.frz (t := a) (by rw [HSK.out]; omega)
  have hfj := HS.out.frz (t := p) (by rw [HSK.out]; omega)
  obtain ⟨u0, hu0⟩ := second_cell hci hcj (.int .u64 (((d)[p]! : Nat) : Int))
  have HSW : Hid (Srt w0 blk off (swp d a p) ((W.setCell ⟨blk, off + a, none⟩ (.int .u64 ((d[p]! : Nat) : Int))).setCell ⟨blk, off + p, none⟩ (.int .u64 ((d[a]! : Nat) : Int))).drew) := (HS.out.swap (i := a) (j := p) (by rw [HSK.out]; omega) (by rw [HSK.out]; omega)).drewN 1
  generalize hxx : (d)[a]! = x at hci hcj HSW hu0
  generalize hyy : (d)[p]! = y at hci hcj HSW hu0
  clear hxx hyy
  have hsi0 : (0 : Int) ≤ (a : Int) := by omega
  have hsj0 : (0 : Int) ≤ (p : Int) := by omega
  have hsiN : (a : Int) < (N : Int) := by omega
  have hsjN : (p : Int) < (N : Int) := by omega
  clear hb1
  go_enter Try.func61, Try.ntmps61
  go_wp2_with fail
  go_region
  clear hu0 hci hcj hfi hfj HS HSK
  obtain ⟨dk, hdk⟩ : ∃ dk, dk = swp d a p := ⟨_, rfl⟩
  rw [← hdk] at HSW HP0
  clear hdk
  generalize ((W.setCell ⟨blk, off + a, none⟩ (.int .u64 (y : Int))).setCell ⟨blk, off + p, none⟩ (.int .u64 (x : Int))).drew = w1 at *
  go_upto_block 0 with fail
  go_cut [10] (fun vi wx => UpCut w0 blk off d dk a b (a + 1) b1 N vi wx)
  case first =>
    go_wp2_with fail
    go_loopg [10] (b1 + 1 - (a + 1)) (fun gk vv wr => UpRel w0 blk off d dk a b (a + 1) b1 N gk vv wr)
    case atStart => exact ⟨a + 1, by go_num, Nat.le_refl _, Nat.le_refl _, HP0.out, HSW.out⟩
    case round =>
      obtain ⟨i, rfl, hlim, hg, hI, hS⟩ := hrel
      have HG := Lib.hid hg
      have HI := Lib.hid hI
      have HS := Lib.hid hS
      have hai := hI.ai
      have hjb := hI.jb
      have HSK := Lib.hid hI.size
      clear hg hI hS
      by_cases hij : i ≤ b1
      · have hijI : (i : Int) ≤ (b1 : Int) := by omega
        have hk0 : (0 : Int) ≤ (i : Int) := by omega
        have hkN : (i : Int) < (N : Int) := by omega
        have hk1 : (1 : Int) ≤ (b1 : Int) := by omega
        have hck := HS.out.cell (t := i) (by rw [HSK.out]; omega)
        have hca := HS.out.cell (t := a) (by rw [HSK.out]; omega)
        cases hl2 : ltB (dk)[i]! (dk)[a]!
        · have HL2 := Lib.hid hl2
          have HLT := Lib.hid (ltB_false hl2)
          clear hl2
          generalize hxx : (dk)[i]! = x at hck HL2
          generalize hyy : (dk)[a]! = y at hca HL2
          clear hxx hyy
          go_wp2_with fail
          go_quiet (first | (go_at_call 59; refine Calls.quiet_of_same (cmpLess_is _ _ _ _ HL2.out)))
          go_wp2
          go_meet
          exact ⟨i, rfl, hlim, HI.out, .inr HLT.out, HS.out.drewN nq⟩
        · have HL2 := Lib.hid hl2
          have HLT := Lib.hid (ltB_true hl2)
          clear hl2
          generalize hxx : (dk)[i]! = x at hck HL2
          generalize hyy : (dk)[a]! = y at hca HL2
          clear hxx hyy
          go_wp2_with fail
          go_quiet (first | (go_at_call 59; refine Calls.quiet_of_same (cmpLess_is _ _ _ _ HL2.out)))
          go_wp2
          go_roundg (gk - 1)
          case measure => have := HG.out; omega
          case rel => exact ⟨i + 1, by go_num, by omega, by have := HG.out; omega, HI.out.up hij HLT.out, HS.out.drewN nq⟩
      · have hijI : decide ((i : Int) ≤ (b1 : Int)) = false := by simp; omega
        have hijN : decide (i ≤ b1) = false := by simp; omega
        go_wp2_with fail
        go_quiet (fail)
        go_wp2
        go_meet
        exact ⟨i, rfl, hlim, HI.out, .inl hij, HS.out.drewN nq⟩
  case rest =>
    obtain ⟨i, rfl, hlow, hI, hst, hS⟩ := hcut
    have HI1 := Lib.hid hI
    have HS1 := Lib.hid hS
    have HST1 := Lib.hid hst
    clear hI hS hst HSW HP0
    go_upto_block 2 with fail
    go_cut [11] (fun vj wx => DownCut w0 blk off d dk a b i b1 N vj wx)
    case first =>
      go_wp2_with fail
      go_loopg [11] (b1 + 1 - i) (fun gk vv wr => DownRel w0 blk off d dk a b i (b1) N gk vv wr)
      case atStart => exact ⟨b1, rfl, Nat.le_refl _, Nat.le_refl _, HI1.out, HST1.out, HS1.out⟩
      case round =>
        obtain ⟨j, rfl, hlim, hg, hI, hst, hS⟩ := hrel
        have HG := Lib.hid hg
        have HI := Lib.hid hI
        have HS := Lib.hid hS
        have hai := hI.ai
        have hjb := hI.jb
        have HSK := Lib.hid hI.size
        clear hg hI hS
        by_cases hij : i ≤ j
        · have hijI : (i : Int) ≤ (j : Int) := by omega
          have hk0 : (0 : Int) ≤ (j : Int) := by omega
          have hkN : (j : Int) < (N : Int) := by omega
          have hk1 : (1 : Int) ≤ (j : Int) := by omega
          have hck := HS.out.cell (t := j) (by rw [HSK.out]; omega)
          have hca := HS.out.cell (t := a) (by rw [HSK.out]; omega)
          cases hl2 : ltB (dk)[j]! (dk)[a]!
          · have HL2 := Lib.hid hl2
            have HLT := Lib.hid (ltB_false hl2)
            clear hl2
            generalize hxx : (dk)[j]! = x at hck HL2
            generalize hyy : (dk)[a]! = y at hca HL2
            clear hxx hyy
            go_wp2_with fail
            go_quiet (first | (go_at_call 59; refine Calls.quiet_of_same (cmpLess_is _ _ _ _ HL2.out)))
            go_wp2
            go_roundg (gk - 1)
            case measure => have := HG.out; omega
            case rel => exact ⟨j - 1, by congr 1; omega, by omega, by have := HG.out; omega, HI.out.down hij HLT.out, hst.elim (fun h => .inl (by omega)) .inr, HS.out.drewN nq⟩
          · have HL2 := Lib.hid hl2
            have HLT := Lib.hid (ltB_true hl2)
            clear hl2
            generalize hxx : (dk)[j]! = x at hck HL2
            generalize hyy : (dk)[a]! = y at hca HL2
            clear hxx hyy
            go_wp2_with fail
            go_quiet (first | (go_at_call 59; refine Calls.quiet_of_same (cmpLess_is _ _ _ _ HL2.out)))
            go_wp2
            go_meet
            exact ⟨j, rfl, hlim, HI.out, hst, .inr HLT.out, HS.out.drewN nq⟩
        · have hijI : decide ((i : Int) ≤ (j : Int)) = false := by simp; omega
          have hijN : decide (i ≤ j) = false := by simp; omega
          go_wp2_with fail
          go_quiet (fail)
          go_wp2
          go_meet
          exact ⟨j, rfl, hlim, HI.out, .inl hij, .inl hij, HS.out.drewN nq⟩
    case rest =>
      obtain ⟨j, rfl, hup, hI, hst, hsd, hS⟩ := hcut
      have HI2 := Lib.hid hI
      have HS2 := Lib.hid hS
      have HSK2 := Lib.hid hI.size
      have hai := hI.ai
      have hjb := hI.jb
      have haj := hI.aj
      clear hI hS HS1 HI1 HST1
      by_cases hgt : i ≤ j
      · have hgtI : ¬ (j : Int) < (i : Int) := by omega
        have hgtJ : (i : Int) ≤ (j : Int) := by omega
        have hci := HS2.out.cell (t := i) (by rw [HSK2.out]; omega)
        have hcj := HS2.out.cell (t := j) (by rw [HSK2.out]; omega)
        have hfi := HS2.out.frz (t := i) (by rw [HSK2.out]; omega)
        have hfj := HS2.out.frz (t := j) (by rw [HSK2.out]; omega)
        obtain ⟨u0, hu0⟩ := second_cell hci hcj (.int .u64 (((dk)[j]! : Nat) : Int))
        have HSW : Hid (Srt w0 blk off (swp dk i j) ((wc.setCell ⟨blk, off + i, none⟩ (.int .u64 ((dk[j]! : Nat) : Int))).setCell ⟨blk, off + j, none⟩ (.int .u64 ((dk[i]! : Nat) : Int))).drew) := (HS2.out.swap (i := i) (j := j) (by rw [HSK2.out]; omega) (by rw [HSK2.out]; omega)).drewN 1
        generalize hxx : (dk)[i]! = x at hci hcj HSW hu0
        generalize hyy : (dk)[j]! = y at hci hcj HSW hu0
        clear hxx hyy
        have hsi0 : (0 : Int) ≤ (i : Int) := by omega
        have hsj0 : (0 : Int) ≤ (j : Int) := by omega
        have hsiN : (i : Int) < (N : Int) := by omega
        have hsjN : (j : Int) < (N : Int) := by omega
        have HI3 := Lib.hid (HI2.out.swap hgt (hst.elim (fun h => absurd hgt h) id) (hsd.elim (fun h => absurd hgt h) id))
        have hj1 : (1 : Int) ≤ (j : Int) := by omega
        clear hst hsd
        go_wp2_with fail
        go_region
        clear hu0 hci hcj hfi hfj HS2 HSK2 HI2
        obtain ⟨dl, hdl⟩ : ∃ dl, dl = swp dk i j := ⟨_, rfl⟩
        rw [← hdl] at HSW HI3
        clear hdl
        generalize ((wc.setCell ⟨blk, off + i, none⟩ (.int .u64 (y : Int))).setCell ⟨blk, off + j, none⟩ (.int .u64 (x : Int))).drew = w2 at *
        obtain ⟨i1, hi1⟩ : ∃ i1, i1 = i + 1 := ⟨_, rfl⟩
        obtain ⟨j1, hj1'⟩ : ∃ j1, j1 = j - 1 := ⟨_, rfl⟩
        rw [← hi1, ← hj1'] at HI3
        have hi1I : (i : Int) + 1 = (i1 : Int) := by omega
        have hj1I : (j : Int) - 1 = (j1 : Int) := by omega
        clear hi1 hj1'
        go_upto_block 4 with fail
        go_cut [11] (fun vj wx => PartCut w0 blk off d a b N vj wx)
        case first =>
          go_wp2_with fail
          go_loopg [10, 11] (j1 + 1 - i1) (fun gk vi vj wr => PartRel w0 blk off d a b N gk vi vj wr)
          case atStart => exact ⟨i1, j1, dl, rfl, rfl, Nat.le_refl _, HI3.out, HSW.out⟩
          case round =>
            clear HSW HI3
            obtain ⟨i, j, dk, rfl, rfl, hg, hI, hS⟩ := hrel
            have HG0 := Lib.hid hg
            have HI1 := Lib.hid hI
            have HS1 := Lib.hid hS
            clear hg hI hS
            go_upto_block 6 with fail
            go_cut [10] from 99 to 152 (fun vi wx => UpCut w0 blk off d dk a b i j N vi wx)
            case first =>
              go_wp2_with fail
              go_loopg [10] (j + 1 - i) (fun gk vv wr => UpRel w0 blk off d dk a b (i) j N gk vv wr)
              case atStart => exact ⟨i, rfl, Nat.le_refl _, Nat.le_refl _, HI1.out, HS1.out⟩
              case round =>
                obtain ⟨i, rfl, hlim, hg, hI, hS⟩ := hrel
                have HG := Lib.hid hg
                have HI := Lib.hid hI
                have HS := Lib.hid hS
                have hai := hI.ai
                have hjb := hI.jb
                have HSK := Lib.hid hI.size
                clear hg hI hS
                by_cases hij : i ≤ j
                · have hijI : (i : Int) ≤ (j : Int) := by omega
                  have hk0 : (0 : Int) ≤ (i : Int) := by omega
                  have hkN : (i : Int) < (N : Int) := by omega
                  have hk1 : (1 : Int) ≤ (j : Int) := by omega
                  have hck := HS.out.cell (t := i) (by rw [HSK.out]; omega)
                  have hca := HS.out.cell (t := a) (by rw [HSK.out]; omega)
                  cases hl2 : ltB (dk)[i]! (dk)[a]!
                  · have HL2 := Lib.hid hl2
                    have HLT := Lib.hid (ltB_false hl2)
                    clear hl2
                    generalize hxx : (dk)[i]! = x at hck HL2
                    generalize hyy : (dk)[a]! = y at hca HL2
                    clear hxx hyy
                    go_wp2_with fail
                    go_quiet (first | (go_at_call 59; refine Calls.quiet_of_same (cmpLess_is _ _ _ _ HL2.out)))
                    go_wp2
                    go_meet
                    exact ⟨i, rfl, hlim, HI.out, .inr HLT.out, HS.out.drewN nq⟩
                  · have HL2 := Lib.hid hl2
                    have HLT := Lib.hid (ltB_true hl2)
                    clear hl2
                    generalize hxx : (dk)[i]! = x at hck HL2
                    generalize hyy : (dk)[a]! = y at hca HL2
                    clear hxx hyy
                    go_wp2_with fail
                    go_quiet (first | (go_at_call 59; refine Calls.quiet_of_same (cmpLess_is _ _ _ _ HL2.out)))
                    go_wp2
                    go_roundg (gk - 1)
                    case measure => have := HG.out; omega
                    case rel => exact ⟨i + 1, by go_num, by omega, by have := HG.out; omega, HI.out.up hij HLT.out, HS.out.drewN nq⟩
                · have hijI : decide ((i : Int) ≤ (j : Int)) = false := by simp; omega
                  have hijN : decide (i ≤ j) = false := by simp; omega
                  go_wp2_with fail
                  go_quiet (fail)
                  go_wp2
                  go_meet
                  exact ⟨i, rfl, hlim, HI.out, .inl hij, HS.out.drewN nq⟩
            case rest =>
              obtain ⟨i, rfl, hlow, hI, hst, hS⟩ := hcut
              have hge := hI.ij
              have HI1' := Lib.hid hI
              have HS1' := Lib.hid hS
              have HST1 := Lib.hid hst
              clear hI hS hst HS1
              have HG1 : Hid (j + 1 - i ≤ gk) := by have := HG0.out; show _ ≤ _; omega
              go_upto_block 8 with fail
              go_cut [11] from 99 to 152 (fun vj wx => DownCut w0 blk off d dk a b i j N vj wx)
              case first =>
                go_wp2_with fail
                go_loopg [11] (j + 1 - i) (fun gk vv wr => DownRel w0 blk off d dk a b i (j) N gk vv wr)
                case atStart => exact ⟨j, rfl, Nat.le_refl _, Nat.le_refl _, HI1'.out, HST1.out, HS1'.out⟩
                case round =>
                  obtain ⟨j, rfl, hlim, hg, hI, hst, hS⟩ := hrel
                  have HG := Lib.hid hg
                  have HI := Lib.hid hI
                  have HS := Lib.hid hS
                  have hai := hI.ai
                  have hjb := hI.jb
                  have HSK := Lib.hid hI.size
                  clear hg hI hS
                  by_cases hij : i ≤ j
                  · have hijI : (i : Int) ≤ (j : Int) := by omega
                    have hk0 : (0 : Int) ≤ (j : Int) := by omega
                    have hkN : (j : Int) < (N : Int) := by omega
                    have hk1 : (1 : Int) ≤ (j : Int) := by omega
                    have hck := HS.out.cell (t := j) (by rw [HSK.out]; omega)
                    have hca := HS.out.cell (t := a) (by rw [HSK.out]; omega)
                    cases hl2 : ltB (dk)[j]! (dk)[a]!
                    · have HL2 := Lib.hid hl2
                      have HLT := Lib.hid (ltB_false hl2)
                      clear hl2
                      generalize hxx : (dk)[j]! = x at hck HL2
                      generalize hyy : (dk)[a]! = y at hca HL2
                      clear hxx hyy
                      go_wp2_with fail
                      go_quiet (first | (go_at_call 59; refine Calls.quiet_of_same (cmpLess_is _ _ _ _ HL2.out)))
                      go_wp2
                      go_roundg (gk - 1)
                      case measure => have := HG.out; omega
                      case rel => exact ⟨j - 1, by congr 1; omega, by omega, by have := HG.out; omega, HI.out.down hij HLT.out, hst.elim (fun h => .inl (by omega)) .inr, HS.out.drewN nq⟩
                    · have HL2 := Lib.hid hl2
                      have HLT := Lib.hid (ltB_true hl2)
                      clear hl2
                      generalize hxx : (dk)[j]! = x at hck HL2
                      generalize hyy : (dk)[a]! = y at hca HL2
                      clear hxx hyy
                      go_wp2_with fail
                      go_quiet (first | (go_at_call 59; refine Calls.quiet_of_same (cmpLess_is _ _ _ _ HL2.out)))
                      go_wp2
                      go_meet
                      exact ⟨j, rfl, hlim, HI.out, hst, .inr HLT.out, HS.out.drewN nq⟩
                  · have hijI : decide ((i : Int) ≤ (j : Int)) = false := by simp; omega
                    have hijN : decide (i ≤ j) = false := by simp; omega
                    go_wp2_with fail
                    go_quiet (fail)
                    go_wp2
                    go_meet
                    exact ⟨j, rfl, hlim, HI.out, .inl hij, .inl hij, HS.out.drewN nq⟩
              case rest =>
                obtain ⟨j, rfl, hup, hI, hst, hsd, hS⟩ := hcut
                have HI2 := Lib.hid hI
                have HS2 := Lib.hid hS
                have HSK2 := Lib.hid hI.size
                have hai := hI.ai
                have hjb := hI.jb
                have haj := hI.aj
                clear hI hS HS1' HST1
                by_cases hgt : i ≤ j
                · have hgtI : ¬ (j : Int) < (i : Int) := by omega
                  have hgtJ : (i : Int) ≤ (j : Int) := by omega
                  have hci := HS2.out.cell (t := i) (by rw [HSK2.out]; omega)
                  have hcj := HS2.out.cell (t := j) (by rw [HSK2.out]; omega)
                  have hfi := HS2.out.frz (t := i) (by rw [HSK2.out]; omega)
                  have hfj := HS2.out.frz (t := j) (by rw [HSK2.out]; omega)
                  obtain ⟨u0, hu0⟩ := second_cell hci hcj (.int .u64 (((dk)[j]! : Nat) : Int))
                  have HSW : Hid (Srt w0 blk off (swp dk i j) ((wc.setCell ⟨blk, off + i, none⟩ (.int .u64 ((dk[j]! : Nat) : Int))).setCell ⟨blk, off + j, none⟩ (.int .u64 ((dk[i]! : Nat) : Int))).drew) := (HS2.out.swap (i := i) (j := j) (by rw [HSK2.out]; omega) (by rw [HSK2.out]; omega)).drewN 1
                  generalize hxx : (dk)[i]! = x at hci hcj HSW hu0
                  generalize hyy : (dk)[j]! = y at hci hcj HSW hu0
                  clear hxx hyy
                  have hsi0 : (0 : Int) ≤ (i : Int) := by omega
                  have hsj0 : (0 : Int) ≤ (j : Int) := by omega
                  have hsiN : (i : Int) < (N : Int) := by omega
                  have hsjN : (j : Int) < (N : Int) := by omega
                  have HI3 := Lib.hid (HI2.out.swap hgt (hst.elim (fun h => absurd hgt h) id) (hsd.elim (fun h => absurd hgt h) id))
                  have hj1 : (1 : Int) ≤ (j : Int) := by omega
                  clear hst hsd
                  go_wp2_with fail
                  go_region
                  clear hu0 hci hcj hfi hfj HS2 HSK2 HI2
                  go_wp2
                  go_roundg (gk - 1)
                  case measure => have := HG1.out; omega
                  case rel => exact ⟨i + 1, j - 1, swp dk i j, by go_num, by congr 1; omega, by have := HG1.out; omega, HI3.out, HSW.out⟩
                · have hgtI : (j : Int) < (i : Int) := by omega
                  clear hst hsd
                  go_wp2_with fail
                  go_meet
                  exact ⟨i, j, dk, rfl, hgt, HI2.out, HS2.out⟩
        case rest =>
          obtain ⟨i, j, dk, rfl, hgt, hI, hS⟩ := hcut
          have HI2 := Lib.hid hI
          have HS2 := Lib.hid hS
          have HSK2 := Lib.hid hI.size
          have hai := hI.ai
          have hjb := hI.jb
          have haj := hI.aj
          clear hI hS HSW HI3
          have hci := HS2.out.cell (t := j) (by rw [HSK2.out]; omega)
          have hcj := HS2.out.cell (t := a) (by rw [HSK2.out]; omega)
          have hfi := HS2.out.frz (t := j) (by rw [HSK2.out]; omega)
          have hfj := HS2.out.frz (t := a) (by rw [HSK2.out]; omega)
          obtain ⟨u0, hu0⟩ := second_cell hci hcj (.int .u64 (((dk)[a]! : Nat) : Int))
          have HSW : Hid (Srt w0 blk off (swp dk j a) ((wc.setCell ⟨blk, off + j, none⟩ (.int .u64 ((dk[a]! : Nat) : Int))).setCell ⟨blk, off + a, none⟩ (.int .u64 ((dk[j]! : Nat) : Int))).drew) := (HS2.out.swap (i := j) (j := a) (by rw [HSK2.out]; omega) (by rw [HSK2.out]; omega)).drewN 1
          generalize hxx : (dk)[j]! = x at hci hcj HSW hu0
          generalize hyy : (dk)[a]! = y at hci hcj HSW hu0
          clear hxx hyy
          have hsi0 : (0 : Int) ≤ (j : Int) := by omega
          have hsj0 : (0 : Int) ≤ (a : Int) := by omega
          have hsiN : (j : Int) < (N : Int) := by omega
          have hsjN : (a : Int) < (N : Int) := by omega
          have HD := Lib.hid (HI2.out.done hgt)
          go_wp2_with fail
          go_region
          clear hu0 hci hcj hfi hfj
          go_wp2
          go_ret2
          exact ⟨j, false, _, rfl, HD.out, HSW.out⟩
      · have hgtI : (j : Int) < (i : Int) := by omega
        clear hst hsd
        have hci := HS2.out.cell (t := j) (by rw [HSK2.out]; omega)
        have hcj := HS2.out.cell (t := a) (by rw [HSK2.out]; omega)
        have hfi := HS2.out.frz (t := j) (by rw [HSK2.out]; omega)
        have hfj := HS2.out.frz (t := a) (by rw [HSK2.out]; omega)
        obtain ⟨u0, hu0⟩ := second_cell hci hcj (.int .u64 (((dk)[a]! : Nat) : Int))
        have HSW : Hid (Srt w0 blk off (swp dk j a) ((wc.setCell ⟨blk, off + j, none⟩ (.int .u64 ((dk[a]! : Nat) : Int))).setCell ⟨blk, off + a, none⟩ (.int .u64 ((dk[j]! : Nat) : Int))).drew) := (HS2.out.swap (i := j) (j := a) (by rw [HSK2.out]; omega) (by rw [HSK2.out]; omega)).drewN 1
        generalize hxx : (dk)[j]! = x at hci hcj HSW hu0
        generalize hyy : (dk)[a]! = y at hci hcj HSW hu0
        clear hxx hyy
        have hsi0 : (0 : Int) ≤ (j : Int) := by omega
        have hsj0 : (0 : Int) ≤ (a : Int) := by omega
        have hsiN : (j : Int) < (N : Int) := by omega
        have hsjN : (a : Int) < (N : Int) := by omega
        have HD := Lib.hid (HI2.out.done hgt)
        go_wp2_with fail
        go_region
        clear hu0 hci hcj hfi hfj
        go_wp2
        go_ret2
        exact ⟨j, true, _, rfl, HD.out, HSW.out⟩
end Go.Proofs.Ythhmgbeigeagdaa
