/-
  THE WALK of the law MarkParts: where the table is as the program's text lays it, it returns true, whatever the parts and whatever is turned, and turns nothing that was there.
-/
import Derived.Test.YtmafdoodgkhgeaaDoorMarkOwn
namespace Go.Proofs.YtmafdoodgkhgeaaDoor
open Go.RowKit

/-- A slice of byte slices reads as these parts, all below block B. -/
structure Rws (w : World) (B : Nat) (A : Option Addr) (n c : Nat) (ps : List Pt) : Prop where
  len : ps.length = n
  le : n ≤ c
  max : c ≤ maxLen
  cell : 0 < n → ∃ b o, A = some ⟨b, o, none⟩ ∧ b < B ∧ ∀ (j : Nat) (p : Pt), ps[j]? = some p → w.cell? ⟨b, o + j, none⟩ = some p.v
  sl : ∀ p ∈ ps, Sl w B p.A p.n p.c p.l
theorem Rws.at_ {w : World} {B : Nat} {A : Option Addr} {n c k : Nat} {ps : List Pt} (h : Rws w B A n c ps) (hk : k < n) :
    ∃ b o p, A = some ⟨b, o, none⟩ ∧ b < B ∧ ps[k]? = some p ∧ w.cell? ⟨b, o + k, none⟩ = some (.slice p.A p.n p.c) ∧ Sl w B p.A p.n p.c p.l := by
  obtain ⟨b, o, e, hb, hc⟩ := h.cell (by omega)
  have hl : k < ps.length := by have := h.len; omega
  exact ⟨b, o, ps[k], e, hb, List.getElem?_eq_getElem hl, hc k _ (List.getElem?_eq_getElem hl), h.sl _ (List.getElem_mem hl)⟩

/-- What the first parts come to, each cut. -/
def pre (ps : List Pt) (j : Nat) : List UInt8 := (ps.take (min j 9)).flatMap fun p => p.l.take 60
theorem pre_zero (ps : List Pt) : pre ps 0 = [] := by simp [pre]
theorem pre_lo {ps : List Pt} {j : Nat} {p : Pt} (h : ps[j]? = some p) (hj : j < 9) : pre ps (j + 1) = pre ps j ++ p.l.take 60 := by
  unfold pre
  rw [Nat.min_eq_left (by omega), Nat.min_eq_left (by omega), List.take_add_one, h, List.flatMap_append]
  simp
theorem pre_hi (ps : List Pt) {j : Nat} (hj : 9 ≤ j) : pre ps (j + 1) = pre ps j := by
  unfold pre
  rw [Nat.min_eq_right (by omega), Nat.min_eq_right (by omega)]
theorem flat_len (qs : List Pt) : (qs.flatMap fun p => p.l.take 60).length ≤ 60 * qs.length := by
  induction qs with
  | nil => simp
  | cons q qs ih =>
    rw [List.flatMap_cons, List.length_append, List.length_cons, List.length_take]
    omega
theorem pre_len (ps : List Pt) (j : Nat) : (pre ps j).length ≤ 540 := by
  unfold pre
  have h := flat_len (ps.take (min j 9))
  have h2 : (ps.take (min j 9)).length ≤ 9 := by rw [List.length_take]; omega
  omega
def PartRel (w1 : World) (N : Nat) (ps : List Pt) (gk : Nat) (all s i : Value) (wr : World) : Prop :=
  ∃ (j : Nat) (A : Option Addr) (n c : Nat), gk + j = N ∧ i = .int .i64 (j : Int) ∧ all = .slice A n c ∧ wr.ownsRow w1.heap.size 5 1 (.slice A n c) n (cbs (pre ps j)) ∧ s = .int .u32 ((sum (pre ps j) : Nat) : Int) ∧ Below w1.heap.size w1 wr

set_option maxHeartbeats 1000000 in
set_option maxRecDepth 100000 in
theorem markParts_law (w : World) (ht : TabAt w) (A0 : Option Addr) (n0 c0 : Nat) (s0 : ∃ ps, Rws w w.heap.size A0 n0 c0 ps) (x : Nat) (hx : x < 65536) (t : Nat) (hu : t < 256) :
    Calls Tryd.prog 7 #[.slice A0 n0 c0, .int .u16 (x : Int), .int .u8 (t : Int)] w (Yes w) := by
  obtain ⟨ps, h0⟩ := s0
  have HT := Lib.hid ht; clear ht
  have hmax := h0.max
  have hle := h0.le
  unfold maxLen at hmax
  have HR := Lib.hid h0; clear h0
  obtain ⟨i0, hi0, hz0, hz1, hz2⟩ := info_parts u8_info
  go_enter Tryd.func7, Tryd.ntmps7
  go_wp2_with fail
  refine (awake_any w HT.out).mono ?_
  rintro e w1 ⟨rfl, hb1⟩
  have HT1 := Lib.hid (HT.out.below hb1)
  clear HT
  go_wp2
  go_loopg [7, 8, 16] n0 (fun gk all s i wr => PartRel w1 n0 ps gk all s i wr)
  case atStart => exact ⟨0, none, 0, 0, by omega, rfl, rfl, by rw [pre_zero]; exact ⟨rfl, .inl ⟨rfl, rfl⟩⟩, by rw [pre_zero]; rfl, Below.refl _ _⟩
  case round =>
    obtain ⟨j, A, n, c, hj, rfl, rfl, hown, rfl, hbel⟩ := hrel
    have HJ := Lib.hid hj; clear hj
    by_cases hlt : j < n0
    · obtain ⟨b, o, p, rfl, hbb, hp, hc, hsl⟩ := HR.out.at_ hlt
      have hcr : wr.cell? ⟨b, o + j, none⟩ = some (.slice p.A p.n p.c) := (hbel.cell (p := ⟨b, o + j, none⟩) (Nat.lt_of_lt_of_le hbb hb1.size)).trans ((hb1.cell (p := ⟨b, o + j, none⟩) hbb).trans hc)
      have hslr : Sl wr wr.heap.size p.A p.n p.c p.l := ((hsl.below hb1 (Nat.le_refl _)).below hbel hb1.size).more (Nat.le_trans hb1.size hbel.size)
      clear hc hsl
      by_cases h9 : j < 9
      · have h9' : (j : Int) < 9 := by omega
        have HPR := Lib.hid (pre_lo hp h9)
        clear hp
        go_wp2_with fail
        refine (cut_any wr p.A p.n p.c p.l 60 hslr (by omega)).mono ?_
        rintro e w2 ⟨A2, n2, c2, rfl, hown2, hbel2⟩
        have h2 := Sl.of_own hown2
        have HT2 := Lib.hid ((HT1.out.below hbel).below hbel2)
        have hown' := hown.kept (row := none) ⟨hbel2.os, hbel2.tape, hbel2.output, hbel2.size, fun k hk _ => hbel2.block k hk⟩ (by cases (Value.slice A n c).ownBlock <;> simp)
        have hb2 := hbel.trans (hbel2.mono hbel.size)
        have hl2 : (p.l.take 60).length ≤ 60 := by rw [List.length_take]; omega
        have HMS := Lib.hid (more_sum (pre ps j) (p.l.take 60))
        have HSL := Lib.hid (sum_lt (pre ps j))
        have hpl := pre_len ps j
        generalize p.l.take 60 = q at *
        clear hown2 hbel2 hslr hcr
        go_wp2_with fail
        refine (more_any w2 _ A2 n2 c2 (sum (pre ps j)) q HT2.out h2 HSL.out).mono ?_
        rintro e w3 ⟨rfl, rfl⟩
        rw [HMS.out, ← HPR.out]
        have HBD : Hid (n + n2 ≤ 140737488355328) := by
          have h3 := (Sl.of_own hown).len
          have h4 := h2.len
          show _ ≤ _
          omega
        go_wp2_with (at_builtin; go_must (refine wpList_append_dst _ rfl (.tmp 28) (.tmp 29) 22 22 rfl w1.heap.size 5 i0 Tryd.underlying22 hi0 hz0 hz1 hz2 A n c (pre ps j) rfl (.inr hown') _ n2 q rfl (h2.src Tryd.underlying22) HBD.out hb2.size ?_); intro A4 c4 w4 h41 h42 h43 h44 h45)
        go_roundg (gk - 1)
        case measure => have := HJ.out; omega
        case rel =>
          have h5 := h43 hown'
          rw [← HPR.out] at h5
          exact ⟨j + 1, A4, n + n2, c4, by have := HJ.out; omega, by go_num, rfl, h5, rfl, hb2.trans h44⟩
      · have h9' : ¬ (j : Int) < 9 := by omega
        have HPR := Lib.hid (pre_hi ps (j := j) (by omega))
        clear hp
        go_wp2
        go_roundg (gk - 1)
        case measure => have := HJ.out; omega
        case rel =>
          rw [← HPR.out] at hown
          exact ⟨j + 1, A, n, c, by have := HJ.out; omega, by go_num, rfl, hown, by rw [HPR.out], hbel⟩
    · have hpl := pre_len ps j
      generalize pre ps j = L at *
      have hL := Sl.of_own hown
      have HT2 := Lib.hid (HT1.out.below hbel)
      have hb2 := hb1.trans (hbel.mono hb1.size)
      have hn : n ≤ 540 := by have := hL.len; omega
      clear hbel hown HT1 hb1
      go_wp2_with fail
      refine (sum_any wr _ A n c L HT2.out hL).mono ?_
      rintro e w3 ⟨rfl, rfl⟩
      go_wp2_with fail
      refine (refSum_any wr _ A n c L hL).mono ?_
      rintro e w3 ⟨rfl, rfl⟩
      by_cases h00 : n = 0
      · have hq : ((n : Int) == 0) = true := by simp; omega
        clear h00
        go_wp2
        go_ret
        exact ⟨rfl, hb2⟩
      · have hq : ((n : Int) == 0) = false := by simp; omega
        by_cases ht0 : t = 0
        · have hq2 : ((t : Int) == 0) = true := by simp; omega
          clear ht0
          go_wp2
          go_ret
          exact ⟨rfl, hb2⟩
        · have hq2 : ((t : Int) == 0) = false := by simp; omega
          obtain ⟨tb, rfl⟩ : ∃ tb : UInt8, t = tb.toNat := ⟨UInt8.ofNat t, by simp; omega⟩
          have htb : tb ≠ 0 := fun e => ht0 (by rw [e]; rfl)
          have HTB := Lib.hid htb
          clear htb ht0
          go_wp2_with fail
          refine (join_one _ wr.heap.size A n c L (by simp) (by simp) (by exact hL.onA _) (by omega)).mono ?_
          rintro e w4 ⟨A5, n5, c5, rfl, hown5, hbel⟩
          have hn5 : n = n5 := by have := hL.len; have := (Sl.of_own hown5).len; omega
          subst hn5
          have hpos := HT2.out.pos
          have HT4 := Lib.hid ((HT2.out.alloc _).below hbel)
          have hb4 := (hb2.alloc hb2.size _).trans (hbel.mono (Nat.le_trans hb2.size (by simp)))
          have hzw := hb2.size
          clear hbel hb2 HT2
          obtain ⟨k, hk⟩ : ∃ k : Nat, k = x % n := ⟨_, rfl⟩
          have hkn : k < n := by rw [hk]; exact Nat.mod_lt _ (by omega)
          have ek : (x : Int) % (n : Int) = (k : Int) := by rw [hk]; simp
          obtain ⟨gx, y, rfl, hgb, hgl, hy, hc, hf⟩ := own_at hown5 hkn
          have HX := Lib.hid (xor_byte y tb)
          have HD := Lib.hid (sum_turned L k y tb hy HTB.out)
          clear hk hy
          go_wp2_with fail
          rw [HX.out]
          have hset := own_set hown5 k (y ^^^ tb)
          have hsl := Sl.of_own hset
          have hg0 : 0 < gx ∧ w.heap.size ≤ gx := by simp at hgb; omega
          have HT5 : TabAt (w4.setCell ⟨gx, k, none⟩ (cb (y ^^^ tb))) := ⟨fun i hi => (World.cell?_setCell_other w4 ⟨gx, k, none⟩ ⟨0, i, none⟩ _ (fun e => by injection e with e; omega)).trans (HT4.out.cell i hi)⟩
          have hb5 := hb4.setCell (p := ⟨gx, k, none⟩) hg0.2 (cb (y ^^^ tb))
          refine (sum_any _ _ _ n c5 (L.set k (y ^^^ tb)) HT5 hsl).mono ?_
          rintro e w6 ⟨rfl, rfl⟩
          have hne : (((sum (L.set k (y ^^^ tb)) : Nat) : Int) != ((sum L : Nat) : Int)) = true := by
            rw [bne_iff_ne]
            have := HD.out
            omega
          clear hset hsl HT5 ek hc hf hown5
          go_wp2
          go_ret
          exact ⟨rfl, hb5⟩
end Go.Proofs.YtmafdoodgkhgeaaDoor
