/-
  CONTRACTS: the reference's reader: Byte, Number, Some, Fail, End.
  No statement is proved here.
-/
import Derived.Test.YtlkcnpmgafckoaaDoorRefRead
import Derived.StillTailTactics
namespace Go.Proofs.YtlkcnpmgafckoaaDoor
open Go.RowKit

/-- The reference's reader in block g: the bytes (below g), the place, the error. -/
structure RefAt (w : World) (g : Nat) (A : Option Addr) (n c a er : Nat) (p : List UInt8) : Prop where
  blk : w.heap[g]? = some (.cells #[.slice A n c, .int .i64 (a : Int), .int .i64 (er : Int)] 92 (0, 0))
  sl : Sl w g A n c p
  le : a ≤ n
  small : p.length ≤ 1000000

section
variable {w w' : World} {g : Nat} {A : Option Addr} {n c a er : Nat} {p : List UInt8}
theorem RefAt.lt (h : RefAt w g A n c a er p) : g < w.heap.size := (Array.getElem?_eq_some_iff.1 h.blk).1
theorem RefAt.cell0 (h : RefAt w g A n c a er p) : w.cell? ⟨g, 0, none⟩ = some (.slice A n c) := by rw [cell_of_row w g 0 _ _ _ h.blk]; rfl
theorem RefAt.cell1 (h : RefAt w g A n c a er p) : w.cell? ⟨g, 1, none⟩ = some (.int .i64 (a : Int)) := by rw [cell_of_row w g 1 _ _ _ h.blk]; rfl
theorem RefAt.cell2 (h : RefAt w g A n c a er p) : w.cell? ⟨g, 2, none⟩ = some (.int .i64 (er : Int)) := by rw [cell_of_row w g 2 _ _ _ h.blk]; rfl
theorem RefAt.frz (h : RefAt w g A n c a er p) (i : Nat) : w.frozen? ⟨g, i, none⟩ = false := by simp [World.frozen?, h.blk]
theorem RefAt.drewN (h : RefAt w g A n c a er p) (k : Nat) : RefAt (w.drewN k) g A n c a er p := ⟨h.blk, h.sl.drewN k, h.le, h.small⟩
theorem RefAt.below {B : Nat} (h : RefAt w g A n c a er p) (hb : Below B w w') (hB : g < B) : RefAt w' g A n c a er p :=
  ⟨(hb.block g hB).trans h.blk, h.sl.below hb (by omega), h.le, h.small⟩
theorem RefAt.setErr (h : RefAt w g A n c a er p) (e : Nat) : RefAt (w.setCell ⟨g, 2, none⟩ (.int .i64 (e : Int))) g A n c a e p := by
  refine ⟨?_, h.sl.setCell (p := ⟨g, 2, none⟩) (Nat.le_refl _) _, h.le, h.small⟩
  have hb := h.blk
  simp [World.setCell, Array.getElem?_modify, hb]
theorem RefAt.setAt (h : RefAt w g A n c a er p) {a' : Nat} (ha : a' ≤ n) : RefAt (w.setCell ⟨g, 1, none⟩ (.int .i64 (a' : Int))) g A n c a' er p := by
  refine ⟨?_, h.sl.setCell (p := ⟨g, 1, none⟩) (Nat.le_refl _) _, ha, h.small⟩
  have hb := h.blk
  simp [World.setCell, Array.getElem?_modify, hb]
end

/-- A value is handed back; the reader has gone on so that l' is left, with the error er'. -/
def RefTold (w : World) (g : Nat) (A : Option Addr) (n c : Nat) (p : List UInt8) (v : Value) (l' : List UInt8) (er' : Nat) (e : Ending) (w' : World) : Prop :=
  ∃ a', e = .returned v ∧ RefAt w' g A n c a' er' p ∧ p.drop a' = l' ∧ w.grownBy w' (some g)

set_option maxRecDepth 100000 in
set_option maxHeartbeats 400000 in
theorem refByte_any {w : World} {g : Nat} {A : Option Addr} {n c a er : Nat} {p : List UInt8} (h : RefAt w g A n c a er p) :
    Calls Tryd.prog 42 #[.pointer (some ⟨g, 0, none⟩)] w (RefTold w g A n c p (.int .u8 ((stByte (p.drop a) er).1 : Nat)) (stByte (p.drop a) er).2.1 (stByte (p.drop a) er).2.2) := by
  have hc0 := h.cell0
  have hc1 := h.cell1
  have hc2 := h.cell2
  have hf1 := h.frz 1
  have hf2 := h.frz 2
  have hle := h.le
  have hln := h.sl.len
  have hsm := h.small
  have hnb : n ≤ 1000000 := by omega
  by_cases her : er = 0
  · subst her
    by_cases hat : a = n
    · have hst : stByte (p.drop a) 0 = (0, p.drop a, 2) := by
        rw [List.drop_eq_nil_of_le (by omega)]; simp [stByte]
      rw [hst]
      have hq : ((a : Int) == (n : Int)) = true := by simp; omega
      have HI := Lib.hid h
      clear hst h hat hln hsm
      go_enter Tryd.func42, Tryd.ntmps42
      go_wp2
      go_quiet (fail)
      go_wp2
      go_ret
      exact ⟨a, rfl, (HI.out.drewN _).setErr 2, rfl, only_trans (only_drewN (only_refl _ _) _) (only_set _ g 2 _)⟩
    · obtain ⟨b, o, x, rfl, hbb, hx, hcx⟩ := h.sl.at_ (k := a) (by omega)
      have hst : stByte (p.drop a) 0 = (x.toNat, p.drop (a + 1), 0) := by
        rw [drop_cons hx]; simp [stByte]
      rw [hst]
      have hq : ((a : Int) == (n : Int)) = false := by simp; omega
      have HI := Lib.hid h
      have hltn : a < n := by omega
      clear hst h hx hat hln hsm
      go_enter Tryd.func42, Tryd.ntmps42
      go_wp2
      go_quiet (fail)
      go_wp2
      have e1 : ((a + 1 : Nat) : Int) = (a : Int) + 1 := by omega
      have hI2 := (HI.out.drewN nq).setAt (a' := a + 1) hltn
      have hgr : w.grownBy ((w.drewN nq).setCell ⟨g, 1, none⟩ (.int .i64 ((a + 1 : Nat) : Int))) (some g) := only_trans (only_drewN (only_refl _ _) nq) (only_set _ g 1 _)
      have hbg : b < g := hbb
      have hcx2 : ((w.drewN nq).setCell ⟨g, 1, none⟩ (.int .i64 ((a + 1 : Nat) : Int))).cell? ⟨b, o + a, none⟩ = some (.int .u8 (x.toNat : Int)) := (World.cell?_setCell_other _ ⟨g, 1, none⟩ ⟨b, o + a, none⟩ _ (fun e => by injection e with e; omega)).trans hcx
      have hd0 := hI2.cell0
      have hd1 := hI2.cell1
      rw [e1] at hI2 hgr hcx2 hd0 hd1
      have hlt' : (a : Int) < (n : Int) := by omega
      clear hc0 hc1 hc2 hf1 hf2 e1 HI hcx
      generalize (w.drewN nq).setCell ⟨g, 1, none⟩ (.int .i64 ((a : Int) + 1)) = w2 at *
      go_quiet (fail)
      go_wp2
      go_ret
      exact ⟨a + 1, rfl, hI2.drewN _, rfl, only_drewN hgr _⟩
  · have hst : stByte (p.drop a) er = (0, p.drop a, er) := by simp [stByte, her]
    rw [hst]
    have hq : ((er : Int) != 0) = true := by simp; omega
    have HI := Lib.hid h
    clear hst h her hln hsm
    go_enter Tryd.func42, Tryd.ntmps42
    go_wp2
    go_ret
    exact ⟨a, rfl, HI.out, rfl, only_refl _ _⟩

set_option maxRecDepth 100000 in
set_option maxHeartbeats 400000 in
theorem refNumber_any {w : World} {g : Nat} {A : Option Addr} {n c a er : Nat} {p : List UInt8} (h : RefAt w g A n c a er p) :
    Calls Tryd.prog 44 #[.pointer (some ⟨g, 0, none⟩)] w (RefTold w g A n c p (.int .u64 ((stNum (p.drop a) er).1 : Nat)) (stNum (p.drop a) er).2.1 (stNum (p.drop a) er).2.2) := by
  have hc0 := h.cell0
  have hc1 := h.cell1
  have hc2 := h.cell2
  have hf1 := h.frz 1
  have hf2 := h.frz 2
  have hle := h.le
  have hln := h.sl.len
  have hsm := h.small
  have hnb : n ≤ 1000000 := by omega
  by_cases her : er = 0
  · subst her
    obtain ⟨⟨v, s, e⟩, hr⟩ : ∃ x, rd (p.drop a) = x := ⟨_, rfl⟩
    have hbd := rd_bd hr
    rw [List.length_drop] at hbd
    have hst : stNum (p.drop a) 0 = (v, p.drop (a + s), e) := by
      by_cases he : e = 0
      · subst he; simp [stNum, hr, List.drop_drop]
      · have h0 := hbd.2.2.2.1 he
        simp [stNum, hr, he, h0.1, h0.2]
    rw [hst]
    have hsn : a + s ≤ n := by omega
    have HR := Lib.hid hr
    have HQ : Hid (∀ q, Calls Tryd.prog 74 #[.slice A n c, .int .i64 (a : Int)] (w.drewN q) fun en w'' => en = .returned (.tuple #[.int .u64 (v : Int), .int .i64 (s : Int), .int .i64 (e : Int)]) ∧ ∃ m, w'' = w.drewN m) :=
      fun q => (refRead_any (w.drewN q) g A n c a p v s e (h.sl.drewN q) h.le HR.out h.small).mono fun _ _ ⟨he, hm⟩ => ⟨he, q, hm.symm⟩
    have HI := Lib.hid h
    clear hst h hbd hr hln hsm
    go_enter Tryd.func44, Tryd.ntmps44
    go_wp2
    go_quiet ((go_at_call 74; with_reducible exact HQ.out _))
    clear HQ
    go_wp2
    go_ret
    have e1 : ((a + s : Nat) : Int) = (a : Int) + (s : Int) := by omega
    have hI3 := ((HI.out.drewN nq).setAt hsn).setErr e
    have hgr := only_trans (only_drewN (only_refl w (some g)) nq) (only_trans (only_set (w.drewN nq) g 1 (.int .i64 ((a + s : Nat) : Int))) (only_set _ g 2 (.int .i64 (e : Int))))
    rw [e1] at hI3 hgr
    exact ⟨a + s, rfl, hI3, rfl, hgr⟩
  · have hst : stNum (p.drop a) er = (0, p.drop a, er) := by simp [stNum, her]
    rw [hst]
    have hq : ((er : Int) != 0) = true := by simp; omega
    have HI := Lib.hid h
    clear hst h her hln hsm
    go_enter Tryd.func44, Tryd.ntmps44
    go_wp2
    go_ret
    exact ⟨a, rfl, HI.out, rfl, only_refl _ _⟩

/-- A row of one's own above block g stays over a store into g. -/
theorem own_past {w : World} {base g i : Nat} {A : Option Addr} {n c : Nat} {l : List UInt8} {u : Value} (h : w.ownsRow base 5 1 (.slice A n c) n (cbs l)) (hg : g < base) : Sl (w.setCell ⟨g, i, none⟩ u) (w.setCell ⟨g, i, none⟩ u).heap.size A n c l := by
  have h1 := Sl.of_own (ownsRow_setCell_below h (a := ⟨g, i, none⟩) hg u)
  exact h1
def RefDone (w : World) (g : Nat) (A : Option Addr) (n c a : Nat) (p : List UInt8) (er' : Nat) (e : Ending) (w' : World) : Prop :=
  e = .returned (.tuple #[]) ∧ RefAt w' g A n c a er' p ∧ w.grownBy w' (some g)
set_option maxRecDepth 100000 in
set_option maxHeartbeats 400000 in
theorem refFail_any {w : World} {g : Nat} {A : Option Addr} {n c a er : Nat} {p : List UInt8} (h : RefAt w g A n c a er p) (e : Nat) :
    Calls Tryd.prog 76 #[.pointer (some ⟨g, 0, none⟩), .int .i64 (e : Int)] w (RefDone w g A n c a p (failN er e)) := by
  have hc2 := h.cell2
  have hf2 := h.frz 2
  by_cases her : er = 0
  · subst her
    have hst : failN 0 e = e := by simp [failN]
    rw [hst]
    have HI := Lib.hid h
    clear hst h
    go_enter Tryd.func76, Tryd.ntmps76
    go_wp2
    go_end0
    exact ⟨rfl, HI.out.setErr e, only_set _ _ _ _⟩
  · have hst : failN er e = er := by simp [failN, her]
    rw [hst]
    have hq : ((er : Int) == 0) = false := by simp; omega
    have HI := Lib.hid h
    clear hst h her
    go_enter Tryd.func76, Tryd.ntmps76
    go_wp2
    go_end0
    exact ⟨rfl, HI.out, only_refl _ _⟩

set_option maxRecDepth 100000 in
set_option maxHeartbeats 400000 in
theorem refEnd_any {w : World} {g : Nat} {A : Option Addr} {n c a er : Nat} {p : List UInt8} (h : RefAt w g A n c a er p) :
    Calls Tryd.prog 46 #[.pointer (some ⟨g, 0, none⟩)] w (RefTold w g A n c p (.int .i64 (endN (p.drop a) er : Nat)) (p.drop a) (endN (p.drop a) er)) := by
  have hc0 := h.cell0
  have hc1 := h.cell1
  have hle := h.le
  have hln := h.sl.len
  by_cases hat : a < n
  · have hst : endN (p.drop a) er = failN er 2 := by unfold endN; rw [if_pos (by rw [List.length_drop]; omega)]
    rw [hst]
    have hatI : (a : Int) < (n : Int) := by omega
    have HI := Lib.hid h
    clear hst h hln
    go_enter Tryd.func46, Tryd.ntmps46
    go_wp2
    go_quiet (fail)
    clear hc0 hc1
    go_wp2_with fail
    refine (refFail_any (HI.out.drewN nq) 2).mono ?_
    rintro e w2 ⟨rfl, hI2, hg2⟩
    have hd := hI2.cell2
    go_wp2
    go_ret
    exact ⟨a, rfl, hI2, rfl, only_trans (only_drewN (only_refl _ _) nq) hg2⟩
  · have hst : endN (p.drop a) er = er := by unfold endN; rw [if_neg (by rw [List.length_drop]; omega)]
    rw [hst]
    have hatI : decide ((a : Int) < (n : Int)) = false := by simp; omega
    have hc2 := h.cell2
    have HI := Lib.hid h
    clear hst h hln
    go_enter Tryd.func46, Tryd.ntmps46
    go_wp2
    go_quiet (fail)
    go_wp2
    go_ret
    exact ⟨a, rfl, HI.out.drewN nq, rfl, only_drewN (only_refl _ _) nq⟩

/-- Bytes are handed back, in a new row; the reader has gone on. -/
def RefRow (w : World) (g : Nat) (A : Option Addr) (n c : Nat) (p : List UInt8) (b : List UInt8) (l' : List UInt8) (er' : Nat) (e : Ending) (w' : World) : Prop :=
  ∃ a' A1 n1 c1, e = .returned (.slice A1 n1 c1) ∧ w'.ownsRow w.heap.size 5 1 (.slice A1 n1 c1) n1 (cbs b) ∧ RefAt w' g A n c a' er' p ∧ p.drop a' = l' ∧ w.grownBy w' (some g)

set_option maxRecDepth 100000 in
set_option maxHeartbeats 1000000 in
theorem refSome_any {w : World} {g : Nat} {A : Option Addr} {n c a er : Nat} {p : List UInt8} (h : RefAt w g A n c a er p) (most : Int) (hm : IntKind.u64.wrap most = most ∨ most < 0) :
    Calls Tryd.prog 87 #[.pointer (some ⟨g, 0, none⟩), .int .i64 most] w (RefRow w g A n c p (stBytes (p.drop a) er most).1 (stBytes (p.drop a) er most).2.1 (stBytes (p.drop a) er most).2.2) := by
  have hc0 := h.cell0
  have hc1 := h.cell1
  have hc2 := h.cell2
  have hf1 := h.frz 1
  have hf2 := h.frz 2
  have hle := h.le
  have hln := h.sl.len
  have hsm := h.small
  have hnb : n ≤ 1000000 := by omega
  have HM := Lib.hid hm; clear hm
  by_cases her : er = 0
  · subst her
    obtain ⟨⟨v, s, e⟩, hr⟩ : ∃ x, rd (p.drop a) = x := ⟨_, rfl⟩
    have hbd := rd_bd hr
    rw [List.length_drop] at hbd
    have hsn : a + s ≤ n := by omega
    have HR := Lib.hid hr
    have HVB := Lib.hid hbd.1
    have HQ : Hid (∀ q, Calls Tryd.prog 74 #[.slice A n c, .int .i64 (a : Int)] (w.drewN q) fun en w'' => en = .returned (.tuple #[.int .u64 (v : Int), .int .i64 (s : Int), .int .i64 (e : Int)]) ∧ ∃ m, w'' = w.drewN m) :=
      fun q => (refRead_any (w.drewN q) g A n c a p v s e (h.sl.drewN q) h.le HR.out h.small).mono fun _ _ ⟨he, hm⟩ => ⟨he, q, hm.symm⟩
    by_cases he : e = 0
    · subst he
      by_cases hj1 : most < 0 ∨ most < (v : Int)
      · have hst : stBytes (p.drop a) 0 most = ([], p.drop a, 6) := by
          have hj : judgeN v most ((p.drop a).length - s) = 6 := by unfold judgeN; rw [if_pos hj1]
          unfold stBytes
          rw [hr, if_pos rfl]
          simp only
          rw [hj]
          rfl
        rw [hst]
        have HI := Lib.hid h
        clear hst h hbd hr hln hsm
        by_cases hm0 : most < 0
        · clear hj1
          go_enter Tryd.func87, Tryd.ntmps87
          go_wp2
          go_quiet ((go_at_call 74; with_reducible exact HQ.out _))
          clear HQ
          have hI1 := HI.out.drewN nq
          have hg1 : w.grownBy (w.drewN nq) (some g) := only_drewN (only_refl _ _) nq
          have hd0 := hI1.cell0
          have hd1 := hI1.cell1
          have hd2 := hI1.cell2
          have hk1 := hI1.frz 1
          have hk2 := hI1.frz 2
          have HI1 := Lib.hid hI1
          clear hc0 hc1 hc2 hf1 hf2 HI hI1
          generalize w.drewN nq = w2 at *
          go_wp2
          go_quiet (fail)
          go_wp2
          go_ret
          exact ⟨a, none, 0, 0, rfl, own_nil _ _, (HI1.out.drewN _).setErr 6, rfl, only_trans hg1 (only_trans (only_drewN (only_refl _ _) _) (only_set _ g 2 _))⟩
        · have hw1 : IntKind.u64.wrap most = most := HM.out.resolve_right hm0
          have hmv : most < (v : Int) := hj1.resolve_left hm0
          clear hj1
          go_enter Tryd.func87, Tryd.ntmps87
          go_wp2
          go_quiet ((go_at_call 74; with_reducible exact HQ.out _))
          clear HQ
          have hI1 := HI.out.drewN nq
          have hg1 : w.grownBy (w.drewN nq) (some g) := only_drewN (only_refl _ _) nq
          have hd0 := hI1.cell0
          have hd1 := hI1.cell1
          have hd2 := hI1.cell2
          have hk1 := hI1.frz 1
          have hk2 := hI1.frz 2
          have HI1 := Lib.hid hI1
          clear hc0 hc1 hc2 hf1 hf2 HI hI1
          generalize w.drewN nq = w2 at *
          go_wp2
          go_quiet (fail)
          go_wp2
          go_ret
          exact ⟨a, none, 0, 0, rfl, own_nil _ _, (HI1.out.drewN _).setErr 6, rfl, only_trans hg1 (only_trans (only_drewN (only_refl _ _) _) (only_set _ g 2 _))⟩
      · have hm0 : ¬ most < 0 := fun h => hj1 (.inl h)
        have hmv : ¬ most < (v : Int) := fun h => hj1 (.inr h)
        have hw1 : IntKind.u64.wrap most = most := HM.out.resolve_right hm0
        obtain ⟨r, hr2⟩ : ∃ r, r = n - a - s := ⟨_, rfl⟩
        have e6 : (n : Int) - (a : Int) - (s : Int) = (r : Int) := by omega
        have hrb : r ≤ 1000000 := by omega
        have hwr : IntKind.u64.wrap (r : Int) = (r : Int) := by rw [IntKind.wrap_u64]; omega
        have HRE := Lib.hid hr2
        by_cases hj2 : r < v
        · have hst : stBytes (p.drop a) 0 most = ([], p.drop a, 2) := by
            have hj : judgeN v most ((p.drop a).length - s) = 2 := by
              unfold judgeN; rw [if_neg hj1, if_pos (by rw [List.length_drop]; omega)]
            unfold stBytes
            rw [hr, if_pos rfl]
            simp only
            rw [hj]
            rfl
          rw [hst]
          have HI := Lib.hid h
          have hj2I : (r : Int) < (v : Int) := by omega
          clear hst h hbd hr hln hsm hj1 hr2
          go_enter Tryd.func87, Tryd.ntmps87
          go_wp2
          go_quiet ((go_at_call 74; with_reducible exact HQ.out _))
          clear HQ
          have hI1 := HI.out.drewN nq
          have hg1 : w.grownBy (w.drewN nq) (some g) := only_drewN (only_refl _ _) nq
          have hd0 := hI1.cell0
          have hd1 := hI1.cell1
          have hd2 := hI1.cell2
          have hk1 := hI1.frz 1
          have hk2 := hI1.frz 2
          have HI1 := Lib.hid hI1
          clear hc0 hc1 hc2 hf1 hf2 HI hI1
          generalize w.drewN nq = w2 at *
          go_wp2
          go_quiet (fail)
          go_wp2
          go_ret
          exact ⟨a, none, 0, 0, rfl, own_nil _ _, (HI1.out.drewN _).setErr 2, rfl, only_trans hg1 (only_trans (only_drewN (only_refl _ _) _) (only_set _ g 2 _))⟩
        · have hst : stBytes (p.drop a) 0 most = ((p.drop (a + s)).take v, p.drop (a + s + v), 0) := by
            have hj : judgeN v most ((p.drop a).length - s) = 0 := by
              unfold judgeN; rw [if_neg hj1, if_neg (by rw [List.length_drop]; omega)]
            unfold stBytes
            rw [hr, if_pos rfl]
            simp only
            rw [hj, List.drop_drop, List.drop_drop, ← Nat.add_assoc]
            rfl
          have HI := Lib.hid h
          have hj2I : ¬ (r : Int) < (v : Int) := by omega
          have hv3 : a + s + v ≤ n := by omega
          have HST := Lib.hid hst
          clear hst h hbd hr hln hsm hj1 hr2
          go_enter Tryd.func87, Tryd.ntmps87
          go_wp2
          go_quiet ((go_at_call 74; with_reducible exact HQ.out _))
          clear HQ
          have hI1 := HI.out.drewN nq
          have hg1 : w.grownBy (w.drewN nq) (some g) := only_drewN (only_refl _ _) nq
          have hd0 := hI1.cell0
          have hd1 := hI1.cell1
          have hd2 := hI1.cell2
          have hk1 := hI1.frz 1
          have hk2 := hI1.frz 2
          have HI1 := Lib.hid hI1
          clear hc0 hc1 hc2 hf1 hf2 HI hI1
          generalize w.drewN nq = w2 at *
          go_wp2
          go_quiet (fail)
          have hI3 := HI1.out.drewN nq
          have hg3 : w.grownBy (w2.drewN nq) (some g) := only_trans hg1 (only_drewN (only_refl _ _) nq)
          have hx0 := hI3.cell0
          have hx1 := hI3.cell1
          have hx2 := hI3.cell2
          have hy1 := hI3.frz 1
          have HI3 := Lib.hid hI3
          clear hd0 hd1 hd2 hk1 hk2 HI1 hI3 hg1
          generalize w2.drewN nq = w3 at *
          have hvb : v ≤ 1000000 := by omega
          obtain ⟨m, hm⟩ : ∃ m, m = a + s := ⟨_, rfl⟩
          have e7 : (a : Int) + (s : Int) = (m : Int) := by omega
          obtain ⟨u, hu⟩ : ∃ u, u = m + v := ⟨_, rfl⟩
          have e8 : (m : Int) + (v : Int) = (u : Int) := by omega
          have i0 : (0 : Int) ≤ (m : Int) := by omega
          have i1 : (m : Int) ≤ (u : Int) := by omega
          have hnc := HI3.out.sl.le
          have i2 : (u : Int) ≤ (c : Int) := by omega
          have hsl := (HI3.out.sl.take (k := u) (m := c) (by omega) (by omega) (Nat.le_refl _)).drop (k := m) (by omega)
          have HMU := Lib.hid (And.intro hm hu)
          clear hm hu hwr e6 hj2I hw1
          have w7 : IntKind.i64.wrap ((a : Int) + (s : Int)) = (m : Int) := by rw [e7]; exact IntWalk.i64_in _ (by omega)
          have w8 : IntKind.i64.wrap ((m : Int) + (v : Int)) = (u : Int) := by rw [e8]; exact IntWalk.i64_in _ (by omega)
          have w9 : IntKind.i64.wrap (v : Int) = (v : Int) := IntWalk.i64_in _ (by omega)
          clear e7 e8
          by_cases hcm : c = m
          · subst hcm
            have huc : u = c := by omega
            subst huc
            rw [if_pos rfl, Nat.sub_self] at hsl
            go_wp2
            go_still_tail 20, (by kernel_rfl)
            change wpList _ _ _ _ _ w3.drew
            have hI4 : RefAt w3.drew g A n u a 0 p := HI3.out.drewN 1
            have hg4 : w.grownBy w3.drew (some g) := only_drewN hg3 1
            have hsl4 := hsl.drew
            clear hx0 hx1 hx2 hy1 HI3 hsl hg3
            generalize w3.drew = w4 at *
            go_wp2_with fail
            have hsl5 : Sl w4 w4.heap.size A 0 0 ((p.drop (a + s)).take v) := by
              have h5 := hsl4.more (Nat.le_of_lt hI4.lt)
              have hmu := HMU.out
              have hl0 : (p.drop (a + s)).take v = [] := by rw [show v = 0 from by omega]; simp
              rw [hl0]
              exact Sl.nil_ _ _ _ _ (Nat.zero_le _)
            have hlen5 : ((p.drop (a + s)).take v).length ≤ 1000000 := by rw [List.length_take]; omega
            refine (join_one _ w4.heap.size A 0 0 ((p.drop (a + s)).take v) (by simp) (by simp) (by exact hsl5.onA _) hlen5).mono ?_
            rintro e w5 ⟨A5, n5, c5, rfl, hown5, hbel5⟩
            have hb5 : Below w4.heap.size w4 w5 := ((Below.refl _ w4).alloc (Nat.le_refl _) _).trans (hbel5.mono (by simp))
            have h5r : w5.ownsRow w4.heap.size 5 1 (.slice A5 n5 c5) n5 (cbs ((p.drop (a + s)).take v)) := own_lower hown5 (by simp)
            have hgw4 := hI4.lt
            have hzs4 := hg4.size
            have hI5 := hI4.below hb5 hI4.lt
            have hg5 := only_trans hg4 (only_below hb5 _)
            have hz1 := hI5.cell1
            have hzf := hI5.frz 1
            have HI5 := Lib.hid hI5
            clear hown5 hbel5 hb5 hI4 hI5 hsl4 hsl5 hlen5 hg4 w7 w8 w9
            go_wp2
            go_ret
            rw [HST.out]
            have e9 : ((a + (s + v) : Nat) : Int) = (a : Int) + ((s : Int) + (v : Int)) := by omega
            have hI6 := HI5.out.setAt (a' := a + (s + v)) (by omega)
            rw [e9] at hI6
            exact ⟨a + (s + v), A5, n5, c5, rfl, own_lower (ownsRow_setCell_below h5r (a := ⟨g, 1, none⟩) hgw4 _) hzs4, hI6, by rw [Nat.add_assoc], only_trans hg5 (only_set _ g 1 _)⟩
          · rw [if_neg hcm] at hsl
            go_wp2
            go_still_tail 20, (by kernel_rfl)
            change wpList _ _ _ _ _ w3.drew
            have hI4 : RefAt w3.drew g A n c a 0 p := HI3.out.drewN 1
            have hg4 : w.grownBy w3.drew (some g) := only_drewN hg3 1
            have hsl4 := hsl.drew
            clear hx0 hx1 hx2 hy1 HI3 hsl hg3
            generalize w3.drew = w4 at *
            go_wp2_with fail
            have hsl5 : Sl w4 w4.heap.size (A.map (·.add m)) (u - m) (c - m) ((p.drop (a + s)).take v) := by
              have h5 := hsl4.more (Nat.le_of_lt hI4.lt)
              have hmu := HMU.out
              rw [hmu.2, List.drop_take, show m + v - m = v from by omega, hmu.1] at h5
              rw [hmu.2, hmu.1, show a + s + v - (a + s) = v from by omega]
              exact h5
            have hlen5 : ((p.drop (a + s)).take v).length ≤ 1000000 := by rw [List.length_take]; omega
            refine (join_one _ w4.heap.size (A.map (·.add m)) (u - m) (c - m) ((p.drop (a + s)).take v) (by simp) (by simp) (by exact hsl5.onA _) hlen5).mono ?_
            rintro e w5 ⟨A5, n5, c5, rfl, hown5, hbel5⟩
            have hb5 : Below w4.heap.size w4 w5 := ((Below.refl _ w4).alloc (Nat.le_refl _) _).trans (hbel5.mono (by simp))
            have h5r : w5.ownsRow w4.heap.size 5 1 (.slice A5 n5 c5) n5 (cbs ((p.drop (a + s)).take v)) := own_lower hown5 (by simp)
            have hgw4 := hI4.lt
            have hzs4 := hg4.size
            have hI5 := hI4.below hb5 hI4.lt
            have hg5 := only_trans hg4 (only_below hb5 _)
            have hz1 := hI5.cell1
            have hzf := hI5.frz 1
            have HI5 := Lib.hid hI5
            clear hown5 hbel5 hb5 hI4 hI5 hsl4 hsl5 hlen5 hg4 w7 w8 w9
            go_wp2
            go_ret
            rw [HST.out]
            have e9 : ((a + (s + v) : Nat) : Int) = (a : Int) + ((s : Int) + (v : Int)) := by omega
            have hI6 := HI5.out.setAt (a' := a + (s + v)) (by omega)
            rw [e9] at hI6
            exact ⟨a + (s + v), A5, n5, c5, rfl, own_lower (ownsRow_setCell_below h5r (a := ⟨g, 1, none⟩) hgw4 _) hzs4, hI6, by rw [Nat.add_assoc], only_trans hg5 (only_set _ g 1 _)⟩
    · have hst : stBytes (p.drop a) 0 most = ([], p.drop a, e) := by simp [stBytes, hr, he]
      rw [hst]
      have hq1 : ((e : Int) == 0) = false := by simp; omega
      have hq2 : ((e : Int) != 0) = true := by simp; omega
      have HI := Lib.hid h
      clear hst h hbd hr hln hsm he
      go_enter Tryd.func87, Tryd.ntmps87
      go_wp2
      go_quiet ((go_at_call 74; with_reducible exact HQ.out _))
      clear HQ
      have hI1 := HI.out.drewN nq
      have hg1 : w.grownBy (w.drewN nq) (some g) := only_drewN (only_refl _ _) nq
      have hd0 := hI1.cell0
      have hd1 := hI1.cell1
      have hd2 := hI1.cell2
      have hk1 := hI1.frz 1
      have hk2 := hI1.frz 2
      have HI1 := Lib.hid hI1
      clear hc0 hc1 hc2 hf1 hf2 HI hI1
      generalize w.drewN nq = w2 at *
      go_wp2
      go_quiet (fail)
      go_wp2
      go_ret
      exact ⟨a, none, 0, 0, rfl, own_nil _ _, (HI1.out.drewN _).setErr e, rfl, only_trans hg1 (only_trans (only_drewN (only_refl _ _) _) (only_set _ g 2 _))⟩
  · have hst : stBytes (p.drop a) er most = ([], p.drop a, er) := by simp [stBytes, her]
    rw [hst]
    have hq : ((er : Int) != 0) = true := by simp; omega
    have HI := Lib.hid h
    clear hst h her hln hsm
    go_enter Tryd.func87, Tryd.ntmps87
    go_wp2
    go_ret
    exact ⟨a, none, 0, 0, rfl, own_nil _ _, HI.out, rfl, only_refl _ _⟩
end Go.Proofs.YtlkcnpmgafckoaaDoor
