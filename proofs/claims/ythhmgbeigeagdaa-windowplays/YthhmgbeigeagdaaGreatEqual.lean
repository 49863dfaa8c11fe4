/-
  CONTRACT of partitionEqualOrdered at uint64 (fewer than 30000).
  No statement is proved here.
-/
import Derived.Test.YthhmgbeigeagdaaGreatPart
namespace Go.Proofs.Ythhmgbeigeagdaa
open Go.RowKit Go.Sort

/-- While a range is parted: what is ahead of i isn't above the first, what is behind j is. -/
structure QInv (d0 d : Array Nat) (a b i j N p : Nat) : Prop where
  perm : PermIn a b d0 d
  size : d.size = N
  bN : b ≤ N
  ai : a < i
  ij : i ≤ j + 1
  jb : j < b
  aj : a ≤ j
  pv : d[a]! = d0[p]!
  lo : ∀ t, a ≤ t → t < i → ¬ d[a]! < d[t]!
  hi : ∀ t, j < t → t < b → d[a]! < d[t]!
section
variable {d0 d : Array Nat} {a b i j N p : Nat}
theorem QInv.up (h : QInv d0 d a b i j N p) (hij : i ≤ j) (hl : ¬ d[a]! < d[i]!) : QInv d0 d a b (i + 1) j N p :=
  ⟨h.perm, h.size, h.bN, by have := h.ai; omega, by omega, h.jb, h.aj, h.pv, fun t h1 h2 => by
    rcases Nat.lt_or_ge t i with h3 | h3
    · exact h.lo t h1 h3
    · obtain rfl : t = i := by omega
      exact hl, h.hi⟩
theorem QInv.down (h : QInv d0 d a b i j N p) (hij : i ≤ j) (hl : d[a]! < d[j]!) : QInv d0 d a b i (j - 1) N p :=
  ⟨h.perm, h.size, h.bN, h.ai, by have := h.ai; omega, by have := h.jb; omega, by have := h.ai; omega, h.pv, h.lo, fun t h1 h2 => by
    rcases Nat.lt_or_ge j t with h3 | h3
    · exact h.hi t h3 h2
    · obtain rfl : t = j := by have := h.ai; omega
      exact hl⟩
theorem QInv.swap (h : QInv d0 d a b i j N p) (hij : i ≤ j) (h1 : d[a]! < d[i]!) (h2 : ¬ d[a]! < d[j]!) : QInv d0 (swp d i j) a b (i + 1) (j - 1) N p := by
  have hne : i ≠ j := fun e => by subst e; exact h2 h1
  have hai := h.ai
  have hjb := h.jb
  have hbN := h.bN
  have hsz := h.size
  have hi' : i < d.size := by omega
  have hj' : j < d.size := by omega
  have ha : (swp d i j)[a]! = d[a]! := swp_other d i j a (by omega) (by omega)
  refine ⟨permIn_trans _ _ _ _ _ h.perm (swp_permIn d a b i j (by omega) (by omega) (by omega) hjb (by omega)), by rw [size_swp]; exact hsz, hbN, by omega, by omega, by omega, by omega, ha.trans h.pv, fun t k1 k2 => ?_, fun t k1 k2 => ?_⟩
  · rw [ha]
    rcases Nat.lt_or_ge t i with h3 | h3
    · rw [swp_other d i j t (by omega) (by omega)]
      exact h.lo t k1 h3
    · obtain rfl : t = i := by omega
      rw [swp_left d t j hi' hne]
      exact h2
  · rw [ha]
    rcases Nat.lt_or_ge j t with h3 | h3
    · rw [swp_other d i j t (by omega) (by omega)]
      exact h.hi t h3 k2
    · obtain rfl : t = j := by omega
      rw [swp_right d i t hj']
      exact h1
theorem QInv.start (hs : d.size = N) (hb : b ≤ N) (hab : a + 1 < b) (hp1 : a ≤ p) (hp2 : p < b) : QInv d (swp d a p) a b (a + 1) (b - 1) N p :=
  ⟨swp_permIn d a b a p (Nat.le_refl _) (by omega) hp1 hp2 (by omega), by rw [size_swp]; exact hs, hb, by omega, by omega, by omega, by omega, by rw [swp_get d (by omega) (by omega) a]; by_cases e : a = p <;> simp_all, fun t h1 h2 => ((show t = a by omega) ▸ Nat.lt_irrefl _), fun t h1 h2 => (by omega)⟩
/-- Parted at m: what is ahead of m isn't above the first, what is from m on is. -/
structure PartedE (d0 d : Array Nat) (a b m N p : Nat) : Prop where
  perm : PermIn a b d0 d
  size : d.size = N
  am : a < m
  mb : m ≤ b
  pv : d[a]! = d0[p]!
  lo : ∀ t, a ≤ t → t < m → ¬ d[a]! < d[t]!
  hi : ∀ t, m ≤ t → t < b → d[a]! < d[t]!
theorem QInv.done (h : QInv d0 d a b i j N p) (hij : ¬ i ≤ j) : PartedE d0 d a b i N p :=
  ⟨h.perm, h.size, h.ai, by have := h.ij; have := h.jb; omega, h.pv, h.lo, fun t h1 h2 => h.hi t (by omega) h2⟩
end
def UpRelE (w0 : World) (blk off : Nat) (d0 dk : Array Nat) (p a b i0 j N gk : Nat) (vi : Value) (wr : World) : Prop :=
  ∃ i : Nat, vi = .int .i64 (i : Int) ∧ i0 ≤ i ∧ j + 1 - i ≤ gk ∧ QInv d0 dk a b i j N p ∧ Srt w0 blk off dk wr
def DownRelE (w0 : World) (blk off : Nat) (d0 dk : Array Nat) (p a b i j0 N gk : Nat) (vj : Value) (wr : World) : Prop :=
  ∃ j : Nat, vj = .int .i64 (j : Int) ∧ j ≤ j0 ∧ j + 1 - i ≤ gk ∧ QInv d0 dk a b i j N p ∧ (¬ i ≤ j ∨ dk[a]! < dk[i]!) ∧ Srt w0 blk off dk wr
def UpCutE (w0 : World) (blk off : Nat) (d0 dk : Array Nat) (p a b i0 j N : Nat) (vi : Value) (wr : World) : Prop :=
  ∃ i : Nat, vi = .int .i64 (i : Int) ∧ i0 ≤ i ∧ QInv d0 dk a b i j N p ∧ (¬ i ≤ j ∨ dk[a]! < dk[i]!) ∧ Srt w0 blk off dk wr
def DownCutE (w0 : World) (blk off : Nat) (d0 dk : Array Nat) (p a b i j0 N : Nat) (vj : Value) (wr : World) : Prop :=
  ∃ j : Nat, vj = .int .i64 (j : Int) ∧ j ≤ j0 ∧ QInv d0 dk a b i j N p ∧ (¬ i ≤ j ∨ dk[a]! < dk[i]!) ∧ (¬ i ≤ j ∨ ¬ dk[a]! < dk[j]!) ∧ Srt w0 blk off dk wr
def SaysEqual (w0 : World) (blk off : Nat) (d0 : Array Nat) (p a b N : Nat) (e : Ending) (w' : World) : Prop :=
  ∃ (m : Nat) (d' : Array Nat), e = .returned (.int .i64 (m : Int)) ∧ PartedE d0 d' a b m N p ∧ Srt w0 blk off d' w'
def PartRelE (w0 : World) (blk off : Nat) (d0 : Array Nat) (p a b N gk : Nat) (vi vj : Value) (wr : World) : Prop :=
  ∃ (i j : Nat) (dk : Array Nat), vi = .int .i64 (i : Int) ∧ vj = .int .i64 (j : Int) ∧ j + 1 - i ≤ gk ∧ QInv d0 dk a b i j N p ∧ Srt w0 blk off dk wr
set_option maxRecDepth 100000 in
set_option maxHeartbeats 4000000 in
theorem equal_s {w0 W : World} {blk off cap a b p N : Nat} {d : Array Nat} (h : Srt w0 blk off d W) (hN : d.size = N) (hb : b ≤ N) (hsz : N < 30000) (hl : a + 1 < b) (hp1 : a ≤ p) (hp2 : p < b) :
    Calls Try.prog 60 #[.slice (some ⟨blk, off, none⟩) N cap, .int .i64 a, .int .i64 b, .int .i64 p] W (SaysEqual w0 blk off d p a b N) := by
  have HS := Lib.hid h
  have HSK := Lib.hid hN
  have HP0 := Lib.hid (QInv.start (d := d) hN hb hl hp1 hp2)
  obtain ⟨b1, hb1⟩ : ∃ b1, b = b1 + 1 := ⟨b - 1, by omega⟩
  have hbI : (b : Int) - 1 = (b1 : Int) := by omega
  rw [show b - 1 = b1 from by omega] at HP0
  have HB1 := Lib.hid hb1
  clear h hN
  have hci := HS.out.cell (t := a) (by rw [HSK.out]; omega)
  have hcj := HS.out.cell (t := p) (by rw [HSK.out]; omega)
  have hfi := HS.out.frz (t := a) (by rw [HSK.out]; omega)
  have hfj := HS.out.frz (t := p) (by rw [HSK.out]; omega)
  obtain ⟨u0, hu0⟩ := second_cell hci hcj (.int .u64 (((d)[p]! : Nat) : Int))
  have HSW : Hid (Srt w0 blk off (swp d a p) ((W.setCell ⟨blk, off + a, none⟩ (.int .u64 ((d[p]! : Nat) : Int))).setCell ⟨blk, off + p, none⟩ (.int .u64 ((d[a]! : Nat) : Int))).drew) := (HS.out.swap (i := a) (j := p) (by rw [HSK.out]; omega) (by rw [HSK.out]; omega)).drewN 1
  generalize hxx : (d)[a]! = x at hci hcj HSW hu0
  generalize hyy : (d)[p]! = y at hci hcj HSW hu0
  clear hxx hyy
  have hsi0 : (0 : Int) ≤ (a : Int) := by omega
  have hsj0 : (0 : Int) ≤ (p : Int) := by omega
  have hsiN : (a : Int) < (N : Int) := by omega
  have hsjN : (p : Int) < (N : Int) := by omega
  clear hb1
  go_enter Try.func60, Try.ntmps60
  go_wp2_with fail
  go_region
  clear hu0 hci hcj hfi hfj HS HSK
  obtain ⟨dk, hdk⟩ : ∃ dk, dk = swp d a p := ⟨_, rfl⟩
  rw [← hdk] at HSW HP0
  clear hdk
  generalize ((W.setCell ⟨blk, off + a, none⟩ (.int .u64 (y : Int))).setCell ⟨blk, off + p, none⟩ (.int .u64 (x : Int))).drew = w1 at *
  go_wp2_with fail
  go_loopg [9, 10] (b1 + 1 - (a + 1)) (fun gk vi vj wr => PartRelE w0 blk off d p a b N gk vi vj wr)
  case atStart => exact ⟨a + 1, b1, dk, by go_num, rfl, Nat.le_refl _, HP0.out, HSW.out⟩
  case round =>
    clear HSW HP0
    obtain ⟨i, j, dk, rfl, rfl, hg, hI, hS⟩ := hrel
    have HG0 := Lib.hid hg
    have HI1 := Lib.hid hI
    have HS1 := Lib.hid hS
    clear hg hI hS
    go_upto_block 2 with fail
    go_cut [9] from 29 to 82 (fun vi wx => UpCutE w0 blk off d dk p a b i j N vi wx)
    case first =>
      go_wp2_with fail
      go_loopg [9] (j + 1 - i) (fun gk vv wr => UpRelE w0 blk off d dk p a b (i) j N gk vv wr)
      case atStart => exact ⟨i, rfl, Nat.le_refl _, Nat.le_refl _, HI1.out, HS1.out⟩
      case round =>
        obtain ⟨i, rfl, hlim, hg, hI, hS⟩ := hrel
        have HG := Lib.hid hg
        have HI := Lib.hid hI
        have HS := Lib.hid hS
        have hai := hI.ai
        have hjb := hI.jb
        have HSK := Lib.hid hI.size
        clear hg hI hS
        by_cases hij : i ≤ j
        · have hijI : (i : Int) ≤ (j : Int) := by omega
          have hk0 : (0 : Int) ≤ (i : Int) := by omega
          have hkN : (i : Int) < (N : Int) := by omega
          have hk1 : (1 : Int) ≤ (j : Int) := by omega
          have hck := HS.out.cell (t := i) (by rw [HSK.out]; omega)
          have hca := HS.out.cell (t := a) (by rw [HSK.out]; omega)
          cases hl2 : ltB (dk)[a]! (dk)[i]!
          · have HL2 := Lib.hid hl2
            have HLT := Lib.hid (ltB_false hl2)
            clear hl2
            generalize hxx : (dk)[i]! = x at hck HL2
            generalize hyy : (dk)[a]! = y at hca HL2
            clear hxx hyy
            go_wp2_with fail
            go_quiet (first | (go_at_call 59; refine Calls.quiet_of_same (cmpLess_is _ _ _ _ HL2.out)))
            go_wp2
            go_roundg (gk - 1)
            case measure => have := HG.out; omega
            case rel => exact ⟨i + 1, by go_num, by omega, by have := HG.out; omega, HI.out.up hij HLT.out, HS.out.drewN nq⟩
          · have HL2 := Lib.hid hl2
            have HLT := Lib.hid (ltB_true hl2)
            clear hl2
            generalize hxx : (dk)[i]! = x at hck HL2
            generalize hyy : (dk)[a]! = y at hca HL2
            clear hxx hyy
            go_wp2_with fail
            go_quiet (first | (go_at_call 59; refine Calls.quiet_of_same (cmpLess_is _ _ _ _ HL2.out)))
            go_wp2
            go_meet
            exact ⟨i, rfl, hlim, HI.out, .inr HLT.out, HS.out.drewN nq⟩
        · have hijI : decide ((i : Int) ≤ (j : Int)) = false := by simp; omega
          have hijN : decide (i ≤ j) = false := by simp; omega
          go_wp2_with fail
          go_quiet (fail)
          go_wp2
          go_meet
          exact ⟨i, rfl, hlim, HI.out, .inl hij, HS.out.drewN nq⟩
    case rest =>
      obtain ⟨i, rfl, hlow, hI, hst, hS⟩ := hcut
      have hge := hI.ij
      have HI1' := Lib.hid hI
      have HS1' := Lib.hid hS
      have HST1 := Lib.hid hst
      clear hI hS hst HS1
      have HG1 : Hid (j + 1 - i ≤ gk) := by have := HG0.out; show _ ≤ _; omega
      go_upto_block 4 with fail
      go_cut [10] from 29 to 82 (fun vj wx => DownCutE w0 blk off d dk p a b i j N vj wx)
      case first =>
        go_wp2_with fail
        go_loopg [10] (j + 1 - i) (fun gk vv wr => DownRelE w0 blk off d dk p a b i (j) N gk vv wr)
        case atStart => exact ⟨j, rfl, Nat.le_refl _, Nat.le_refl _, HI1'.out, HST1.out, HS1'.out⟩
        case round =>
          obtain ⟨j, rfl, hlim, hg, hI, hst, hS⟩ := hrel
          have HG := Lib.hid hg
          have HI := Lib.hid hI
          have HS := Lib.hid hS
          have hai := hI.ai
          have hjb := hI.jb
          have HSK := Lib.hid hI.size
          clear hg hI hS
          by_cases hij : i ≤ j
          · have hijI : (i : Int) ≤ (j : Int) := by omega
            have hk0 : (0 : Int) ≤ (j : Int) := by omega
            have hkN : (j : Int) < (N : Int) := by omega
            have hk1 : (1 : Int) ≤ (j : Int) := by omega
            have hck := HS.out.cell (t := j) (by rw [HSK.out]; omega)
            have hca := HS.out.cell (t := a) (by rw [HSK.out]; omega)
            cases hl2 : ltB (dk)[a]! (dk)[j]!
            · have HL2 := Lib.hid hl2
              have HLT := Lib.hid (ltB_false hl2)
              clear hl2
              generalize hxx : (dk)[j]! = x at hck HL2
              generalize hyy : (dk)[a]! = y at hca HL2
              clear hxx hyy
              go_wp2_with fail
              go_quiet (first | (go_at_call 59; refine Calls.quiet_of_same (cmpLess_is _ _ _ _ HL2.out)))
              go_wp2
              go_meet
              exact ⟨j, rfl, hlim, HI.out, hst, .inr HLT.out, HS.out.drewN nq⟩
            · have HL2 := Lib.hid hl2
              have HLT := Lib.hid (ltB_true hl2)
              clear hl2
              generalize hxx : (dk)[j]! = x at hck HL2
              generalize hyy : (dk)[a]! = y at hca HL2
              clear hxx hyy
              go_wp2_with fail
              go_quiet (first | (go_at_call 59; refine Calls.quiet_of_same (cmpLess_is _ _ _ _ HL2.out)))
              go_wp2
              go_roundg (gk - 1)
              case measure => have := HG.out; omega
              case rel => exact ⟨j - 1, by congr 1; omega, by omega, by have := HG.out; omega, HI.out.down hij HLT.out, hst.elim (fun h => .inl (by omega)) .inr, HS.out.drewN nq⟩
          · have hijI : decide ((i : Int) ≤ (j : Int)) = false := by simp; omega
            have hijN : decide (i ≤ j) = false := by simp; omega
            go_wp2_with fail
            go_quiet (fail)
            go_wp2
            go_meet
            exact ⟨j, rfl, hlim, HI.out, .inl hij, .inl hij, HS.out.drewN nq⟩
      case rest =>
        obtain ⟨j, rfl, hup, hI, hst, hsd, hS⟩ := hcut
        have HI2 := Lib.hid hI
        have HS2 := Lib.hid hS
        have HSK2 := Lib.hid hI.size
        have hai := hI.ai
        have hjb := hI.jb
        have haj := hI.aj
        clear hI hS HS1' HST1
        by_cases hgt : i ≤ j
        · have hgtI : ¬ (j : Int) < (i : Int) := by omega
          have hgtJ : (i : Int) ≤ (j : Int) := by omega
          have hci := HS2.out.cell (t := i) (by rw [HSK2.out]; omega)
          have hcj := HS2.out.cell (t := j) (by rw [HSK2.out]; omega)
          have hfi := HS2.out.frz (t := i) (by rw [HSK2.out]; omega)
          have hfj := HS2.out.frz (t := j) (by rw [HSK2.out]; omega)
          obtain ⟨u0, hu0⟩ := second_cell hci hcj (.int .u64 (((dk)[j]! : Nat) : Int))
          have HSW : Hid (Srt w0 blk off (swp dk i j) ((wc.setCell ⟨blk, off + i, none⟩ (.int .u64 ((dk[j]! : Nat) : Int))).setCell ⟨blk, off + j, none⟩ (.int .u64 ((dk[i]! : Nat) : Int))).drew) := (HS2.out.swap (i := i) (j := j) (by rw [HSK2.out]; omega) (by rw [HSK2.out]; omega)).drewN 1
          generalize hxx : (dk)[i]! = x at hci hcj HSW hu0
          generalize hyy : (dk)[j]! = y at hci hcj HSW hu0
          clear hxx hyy
          have hsi0 : (0 : Int) ≤ (i : Int) := by omega
          have hsj0 : (0 : Int) ≤ (j : Int) := by omega
          have hsiN : (i : Int) < (N : Int) := by omega
          have hsjN : (j : Int) < (N : Int) := by omega
          have HI3 := Lib.hid (HI2.out.swap hgt (hst.elim (fun h => absurd hgt h) id) (hsd.elim (fun h => absurd hgt h) id))
          have hj1 : (1 : Int) ≤ (j : Int) := by omega
          clear hst hsd
          go_wp2_with fail
          go_region
          clear hu0 hci hcj hfi hfj HS2 HSK2 HI2
          go_wp2
          go_roundg (gk - 1)
          case measure => have := HG1.out; omega
          case rel => exact ⟨i + 1, j - 1, swp dk i j, by go_num, by congr 1; omega, by have := HG1.out; omega, HI3.out, HSW.out⟩
        · have hgtI : (j : Int) < (i : Int) := by omega
          clear hst hsd
          go_wp2_with fail
          go_ret
          exact ⟨i, dk, rfl, HI2.out.done hgt, HS2.out⟩
end Go.Proofs.Ythhmgbeigeagdaa
