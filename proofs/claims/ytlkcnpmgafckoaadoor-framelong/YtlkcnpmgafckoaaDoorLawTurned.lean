/-
  THE WALK of the law FrameTurned: where the table is as the program's text lays it, it returns true, whatever the frame and whatever is turned, and turns nothing that was there.
-/
import Derived.Test.YtlkcnpmgafckoaaDoorFrameAwake
import Derived.Test.YtlkcnpmgafckoaaDoorFrameSame
namespace Go.Proofs.YtlkcnpmgafckoaaDoor
open Go.RowKit

theorem own_set {w : World} {base g n c : Nat} {l : List UInt8} (h : w.ownsRow base 5 1 (.slice (some ⟨g, 0, none⟩) n c) n (cbs l)) (j : Nat) (b : UInt8) :
    (w.setCell ⟨g, j, none⟩ (cb b)).ownsRow base 5 1 (.slice (some ⟨g, 0, none⟩) n c) n (cbs (l.set j b)) := by
  have h1 := h.stored j (cb b)
  have e : (cbs l).set j (cb b) = cbs (l.set j b) := by simp [cbs, List.map_set]
  rw [e] at h1
  exact h1.1
theorem own_at {w : World} {base n c : Nat} {A : Option Addr} {l : List UInt8} (h : w.ownsRow base 5 1 (.slice A n c) n (cbs l)) {j : Nat} (hj : j < n) :
    ∃ g x, A = some ⟨g, 0, none⟩ ∧ base ≤ g ∧ g < w.heap.size ∧ l[j]? = some x ∧ w.cell? ⟨g, j, none⟩ = some (.int .u8 (UInt8.toNat x : Int)) ∧ w.frozen? ⟨g, j, none⟩ = false := by
  have hl := (Sl.of_own h).len
  rcases h.2 with ⟨hv, hn⟩ | ⟨g, cap, cur, hv, hb, hh, _⟩
  · omega
  · injection hv with e1 e2 e3
    subst e1 e3
    have hc := h.cells (g := g) rfl j (cb l[j]) (by rw [cbs_at, List.getElem?_eq_getElem (by omega)]; rfl)
    rw [add_plain, Nat.zero_add] at hc
    exact ⟨g, l[j], rfl, hb, (Array.getElem?_eq_some_iff.1 hh).1, List.getElem?_eq_getElem (by omega), hc, h.frozenAt j⟩
theorem xor_byte (x t : UInt8) : Value.int .u8 (bits .xor .u8 (x.toNat : Int) (t.toNat : Int)) = cb (x ^^^ t) := by
  rw [u8_xor_nat x.toNat t.toNat (by have := x.toNat_lt; omega) (by have := t.toNat_lt; omega)]
  unfold cb
  rw [UInt8.toNat_xor]


/-- The frame of which there is nothing. -/
def zeroF : Fv := ⟨0, 0, 0, 0, 0, 0, 0, none, 0, 0, [], none, 0, 0, []⟩
theorem zeroF_at (w : World) : FrAt w zeroF where
  rs := Rs.nil_ w _ none 0 (Nat.zero_le _)
  it := ⟨rfl, Nat.le_refl _, Nat.zero_le _, fun h => absurd h (Nat.lt_irrefl _), fun k hk => absurd hk List.not_mem_nil⟩
  kd := by decide
  ag := by decide
  ep := by decide
  ic := by decide
  ba := by decide
  cu := by decide
  li := by decide

set_option maxRecDepth 100000 in
set_option maxHeartbeats 800000 in
theorem decode_bad (w : World) (ht : TabAt w) (A : Option Addr) (n c : Nat) (l : List UInt8) (hs : Sl w w.heap.size A n c l) (hl : l.length ≤ 65507) (er : Nat) (he : (opn l).2 = er) (h0 : er ≠ 0) :
    Calls Tryd.prog 19 #[.slice A n c] w (Says w (.tuple #[zeroF.v, .int .i64 (er : Int)])) := by
  have hln := hs.len
  have HS := Lib.hid hs
  have HT := Lib.hid ht
  have HE := Lib.hid he
  have hlI : ¬ (65507 : Int) < (n : Int) := by omega
  have h0I : ((er : Int) != 0) = true := by simp; omega
  have HL := Lib.hid hl
  clear hs ht he hl hln h0
  unfold Fv.v zeroF
  go_enter Tryd.func19, Tryd.ntmps19
  go_wp2_with fail
  have hbx := below_box w (.cells #[.int .u8 0, .int .i64 0, .int .u64 0, .int .u64 0, .int .u64 0, .int .u64 0, .int .u64 0, .slice none 0 0, .slice none 0 0] 26)
  have hblk := heap_alloc_new w (.cells #[.int .u8 0, .int .i64 0, .int .u64 0, .int .u64 0, .int .u64 0, .int .u64 0, .int .u64 0, .slice none 0 0, .slice none 0 0] 26)
  have hz : w.heap.size < (w.alloc (.cells #[.int .u8 0, .int .i64 0, .int .u64 0, .int .u64 0, .int .u64 0, .int .u64 0, .int .u64 0, .slice none 0 0, .slice none 0 0] 26)).heap.size := by simp
  have hs1 := HS.out.onA (.cells #[.int .u8 0, .int .i64 0, .int .u64 0, .int .u64 0, .int .u64 0, .int .u64 0, .int .u64 0, .slice none 0 0, .slice none 0 0] 26)
  have ht1 := HT.out.alloc (.cells #[.int .u8 0, .int .i64 0, .int .u64 0, .int .u64 0, .int .u64 0, .int .u64 0, .int .u64 0, .slice none 0 0, .slice none 0 0] 26)
  generalize w.alloc (.cells #[.int .u8 0, .int .i64 0, .int .u64 0, .int .u64 0, .int .u64 0, .int .u64 0, .int .u64 0, .slice none 0 0, .slice none 0 0] 26) = wb at *
  refine (open_any wb A n c l ht1 hs1 (by have := HL.out; omega)).mono ?_
  rintro e w2 ⟨A2, n2, c2, rfl, _, hb2⟩
  rw [HE.out]
  have hblk2 := (hb2.block w.heap.size hz).trans hblk
  have q : ∀ i, w2.cell? ⟨w.heap.size, i, none⟩ = (#[Value.int .u8 0, .int .i64 0, .int .u64 0, .int .u64 0, .int .u64 0, .int .u64 0, .int .u64 0, .slice none 0 0, .slice none 0 0] : Array Value)[i]? := fun i => cell_of_row w2 _ i _ _ _ hblk2
  have hbw : Below w.heap.size w w2 := hbx.trans (hb2.mono hbx.size)
  have HBW := Lib.hid hbw
  have HB9 := Lib.hid (set9_heap (.int .u8 0) (.int .i64 0) (.int .u64 0) (.int .u64 0) (.int .u64 0) (.int .u64 0) (.int .u64 0) (.slice none 0 0) (.slice none 0 0) hblk2)
  have q0 := q 0
  have q1 := q 1
  have q2 := q 2
  have q3 := q 3
  have q4 := q 4
  have q5 := q 5
  have q6 := q 6
  have q7 := q 7
  have q8 := q 8
  simp only [List.getElem?_toArray, List.getElem?_cons_zero, List.getElem?_cons_succ] at q0 q1 q2 q3 q4 q5 q6 q7 q8
  have f : ∀ i, w2.frozen? ⟨w.heap.size, i, none⟩ = false := fun i => frz_block (i := i) hblk2
  have f0 := f 0
  have f1 := f 1
  have f2 := f 2
  have f3 := f 3
  have f4 := f 4
  have f5 := f 5
  have f6 := f 6
  have f7 := f 7
  have f8 := f 8
  clear hbx hblk hs1 ht1 hb2 hbw q f hblk2
  go_wp2
  have hr : ∀ i, (set9 w2 w.heap.size (.int .u8 0) (.int .i64 0) (.int .u64 0) (.int .u64 0) (.int .u64 0) (.int .u64 0) (.int .u64 0) (.slice none 0 0) (.slice none 0 0)).cell? ⟨w.heap.size, i, none⟩ = (#[Value.int .u8 0, .int .i64 0, .int .u64 0, .int .u64 0, .int .u64 0, .int .u64 0, .int .u64 0, .slice none 0 0, .slice none 0 0] : Array Value)[i]? := fun i => cell_of_row _ _ i _ _ _ HB9.out
  have hb9 := set9_below (.int .u8 0) (.int .i64 0) (.int .u64 0) (.int .u64 0) (.int .u64 0) (.int .u64 0) (.int .u64 0) (.slice none 0 0) (.slice none 0 0) HBW.out (Nat.le_refl _)
  change bodyPost _ _ _ _ _ (set9 w2 w.heap.size (.int .u8 0) (.int .i64 0) (.int .u64 0) (.int .u64 0) (.int .u64 0) (.int .u64 0) (.int .u64 0) (.slice none 0 0) (.slice none 0 0))
  generalize set9 w2 w.heap.size (.int .u8 0) (.int .i64 0) (.int .u64 0) (.int .u64 0) (.int .u64 0) (.int .u64 0) (.int .u64 0) (.slice none 0 0) (.slice none 0 0) = w9 at *
  refine bodyPost_ret (v := .tuple #[.agg #[.int .u8 0, .int .i64 0, .int .u64 0, .int .u64 0, .int .u64 0, .int .u64 0, .int .u64 0, .slice none 0 0, .slice none 0 0], .int .i64 (er : Int)]) (by simp [results, Tryd.results19, go_sem, hr]) rfl ⟨rfl, hb9⟩

theorem turned_sum {p : List UInt8} {j : Nat} {x t : UInt8} (hx : (closed p)[j]? = some x) (ht : t ≠ 0) : opn ((closed p).set j (x ^^^ t)) = ([], 3) := by
  obtain ⟨hj, hxe⟩ := List.getElem?_eq_some_iff.1 hx
  refine opn_turned j (by rw [List.length_set]) (by rw [List.take_set_of_le (Nat.le_refl _)]) ?_ ?_
  · rw [List.drop_set_of_lt (by omega)]
  · intro e
    have h1 := congrArg (fun l => l[j]?) e
    simp only [List.getElem?_set_self hj] at h1
    rw [hx] at h1
    injection h1 with h1
    apply ht
    have h2 : x ^^^ x = x ^^^ (x ^^^ t) := by rw [← h1]
    rw [← UInt8.xor_assoc, UInt8.xor_self, UInt8.zero_xor] at h2
    exact h2.symm

set_option maxRecDepth 100000 in
set_option maxHeartbeats 1000000 in
theorem frameTurned_law (w : World) (ht : TabAt w) (f : Fv) (h : FrAt w f) (x : Nat) (hx : x < 65536) (t : Nat) (hu : t < 256) :
    Calls Tryd.prog 7 #[f.v, .int .u16 (x : Int), .int .u8 (t : Int)] w (Yes w) := by
  have HT := Lib.hid ht
  have HF := Lib.hid h
  have hfew := few_any
  have HV : Hid (f.v = .agg #[.int .u8 (f.kd : Int), .int .i64 f.ag, .int .u64 (f.ep : Int), .int .u64 (f.ic : Int), .int .u64 (f.ba : Int), .int .u64 (f.cu : Int), .int .u64 (f.li : Int), .slice f.Ar f.nr f.cr, .slice f.Ai f.ni f.ci]) := rfl
  rw [HV.out]
  clear ht h hfew
  go_enter Tryd.func7, Tryd.ntmps7
  go_wp2_with fail
  refine (awake5_any _ (HT.out.alloc _)).mono ?_
  rintro e w1 ⟨rfl, hbel⟩
  have hb1 : Below w.heap.size w w1 := (below_box w f.box).trans (hbel.mono (by simp))
  have hblk := (hbel.block w.heap.size (by simp)).trans (heap_alloc_new w f.box)
  have hz1 : w.heap.size < w1.heap.size := Nat.lt_of_lt_of_le (by simp) hbel.size
  have q : ∀ i, w1.cell? ⟨w.heap.size, i, none⟩ = (#[Value.int .u8 (f.kd : Int), .int .i64 f.ag, .int .u64 (f.ep : Int), .int .u64 (f.ic : Int), .int .u64 (f.ba : Int), .int .u64 (f.cu : Int), .int .u64 (f.li : Int), .slice f.Ar f.nr f.cr, .slice f.Ai f.ni f.ci] : Array Value)[i]? := fun i => cell_of_row w1 _ i _ _ _ hblk
  have HB1 := Lib.hid hb1
  clear hbel hblk hb1
  go_wp2_with fail
  have hc := few_any w1 f (HF.out.on HB1.out)
  rw [HV.out] at hc
  refine hc.mono ?_
  rintro e w2 ⟨rfl, hb2⟩
  have HB2 := Lib.hid (HB1.out.trans (hb2.mono HB1.out.size))
  have HF2 := Lib.hid (HF.out.few.on HB2.out)
  clear hc hb2 q
  go_wp2_with fail
  refine (encode_any w2 (HT.out.below HB2.out) f.few HF2.out).mono ?_
  intro e w3 h3
  have h4 : (∃ er : Nat, er ≠ 0 ∧ e = .returned (.tuple #[.slice none 0 0, .int .i64 (er : Int)]) ∧ Below w2.heap.size w2 w3) ∨ (∃ A n c, (encB f.few.m).length ≤ 65507 ∧ e = .returned (.tuple #[.slice A n c, .int .i64 0]) ∧ w3.ownsRow w2.heap.size 5 1 (.slice A n c) n (cbs (encB f.few.m)) ∧ Below w2.heap.size w2 w3) := by
    rcases h3 with h3 | h3 | h3
    · exact .inl ⟨1, by omega, h3.2⟩
    · exact .inl ⟨6, by omega, h3.2.2⟩
    · obtain ⟨_, hl, A, n, c, he, ho, hb⟩ := h3
      exact .inr ⟨A, n, c, hl, he, ho, hb⟩
  clear h3
  rcases h4 with ⟨er, her, rfl, hb3⟩ | ⟨A, n, c, hl, rfl, hown, hb3⟩
  · have hI : ((er : Int) != 0) = true := by simp; omega
    have HB3 := Lib.hid (HB2.out.trans (hb3.mono HB2.out.size))
    clear hb3 her
    go_wp2
    go_ret
    exact ⟨rfl, HB3.out⟩
  · have HB3 := Lib.hid (HB2.out.trans (hb3.mono HB2.out.size))
    have HT3 := Lib.hid (HT.out.below HB3.out)
    obtain ⟨p, hp⟩ : ∃ p, encB f.few.m = closed p := ⟨_, rfl⟩
    rw [hp] at hown hl
    have hln := (Sl.of_own hown).len
    have hcl := closed_len p
    have hn4 : 4 ≤ n := by omega
    have hn5 : n ≤ 65507 := by omega
    have HW2 := Lib.hid HB2.out.size
    clear hb3 hp hcl hl
    by_cases hz : t = 0
    · subst hz
      go_wp2
      go_ret
      exact ⟨rfl, HB3.out⟩
    have hzI : ((t : Int) == 0) = false := by simp; omega
    obtain ⟨k, hk⟩ : ∃ k : Nat, k = x % n := ⟨_, rfl⟩
    have hkn : k < n := by rw [hk]; exact Nat.mod_lt x (by omega)
    have ek : (x : Int) % (n : Int) = (k : Int) := by rw [hk]; simp
    have ekt : Int.tmod (x : Int) (n : Int) = (k : Int) := by rw [Int.tmod_eq_emod_of_nonneg (by omega)]; exact ek
    obtain ⟨tb, htb⟩ : ∃ tb : UInt8, tb.toNat = t := ⟨UInt8.ofNat t, by simp; omega⟩
    have htz : tb ≠ 0 := fun e => hz (by rw [← htb, e]; rfl)
    obtain ⟨gp, y, rfl, hgb, hgl, hy, hcy, hfy⟩ := own_at hown hkn
    have HSUM := Lib.hid (turned_sum hy htz)
    have HX := Lib.hid (xor_byte y tb)
    rw [htb] at HX
    have HOWN := Lib.hid hown
    have hnI : ((n : Int) == 0) = false := by simp; omega
    have HLN := Lib.hid hln
    clear hk hz hy htz hown hln
    go_wp2_with fail
    rw [HX.out]
    have ho4 := own_set HOWN.out k (y ^^^ tb)
    have hb4 : Below w.heap.size w (w3.setCell ⟨gp, k, none⟩ (cb (y ^^^ tb))) := HB3.out.setCell (p := ⟨gp, k, none⟩) (by show w.heap.size ≤ gp; have := HW2.out; omega) _
    generalize w3.setCell ⟨gp, k, none⟩ (cb (y ^^^ tb)) = w4 at *
    have hs4 := Sl.of_own ho4
    have hl4 : ((closed p).set k (y ^^^ tb)).length ≤ 65507 := by rw [List.length_set]; have := HLN.out; omega
    have hc := decode_bad w4 (HT.out.below hb4) _ n c _ hs4 hl4 3 (by rw [HSUM.out]) (by omega)
    unfold zeroF Fv.v at hc
    refine hc.mono ?_
    rintro e w5 ⟨rfl, hb5⟩
    have HB5 := Lib.hid (hb4.trans (hb5.mono hb4.size))
    clear hc hb5 hb4 hs4 hl4 ho4 HX HOWN hcy hfy hgl hgb
    go_wp2_with fail
    have hc := sameF_any (w5.alloc zeroF.box) zeroF zeroF (zeroF_at _) (zeroF_at _)
    rw [decP_yes rfl] at hc
    unfold zeroF Fv.v at hc
    refine hc.mono ?_
    rintro e w6 ⟨rfl, hb6⟩
    have HB6 := Lib.hid ((HB5.out.alloc HB5.out.size _).trans (hb6.mono (Nat.le_trans HB5.out.size (by simp))))
    clear hc hb6
    go_wp2
    go_ret
    exact ⟨rfl, HB6.out⟩
end Go.Proofs.YtlkcnpmgafckoaaDoor
