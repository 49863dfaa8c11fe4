/-
  THE WALK of the law MarkShows: where the table is as the program's text lays it, it returns true, whatever the bytes and whatever is turned, and turns nothing that was there.
-/
import Derived.Test.YtmafdoodgkhgeaaDoorMarkOwn
import Derived.ChangeKeysEq
namespace Go.Proofs.YtmafdoodgkhgeaaDoor
open Go.RowKit

theorem plain_u8 : Tryd.prog.plainKey 5 = true := by kernel_rfl
set_option maxHeartbeats 400000 in
/-- Four bytes held against four zeros. -/
theorem eq4 (w : World) (D : Nat) (h : ∀ (a b : Int), (Op.equalIn D 5 (.int .u8 a) (.int .u8 b)).run Tryd.prog w = .ok (a == b) w) (a0 a1 a2 a3 : Int) :
    (Op.equalIn (D + 1) 39 (.agg #[.int .u8 a0, .int .u8 a1, .int .u8 a2, .int .u8 a3]) (.agg #[.int .u8 0, .int .u8 0, .int .u8 0, .int .u8 0])).run Tryd.prog w = .ok (a0 == 0 && a1 == 0 && a2 == 0 && a3 == 0) w := by
  obtain ⟨i0, hi0, hz0, hz1, hz2⟩ := info_parts u8_info
  have p0 : ∀ (b0 b1 b2 b3 : Int), (part 5 #[.int .u8 b0, .int .u8 b1, .int .u8 b2, .int .u8 b3] 0).run Tryd.prog w = .ok (.int .u8 b0) w := fun b0 b1 b2 b3 => run_part_plain w plain_u8 rfl
  have p1 : ∀ (b0 b1 b2 b3 : Int), (part 5 #[.int .u8 b0, .int .u8 b1, .int .u8 b2, .int .u8 b3] 1).run Tryd.prog w = .ok (.int .u8 b1) w := fun b0 b1 b2 b3 => run_part_plain w plain_u8 rfl
  have p2 : ∀ (b0 b1 b2 b3 : Int), (part 5 #[.int .u8 b0, .int .u8 b1, .int .u8 b2, .int .u8 b3] 2).run Tryd.prog w = .ok (.int .u8 b2) w := fun b0 b1 b2 b3 => run_part_plain w plain_u8 rfl
  have p3 : ∀ (b0 b1 b2 b3 : Int), (part 5 #[.int .u8 b0, .int .u8 b1, .int .u8 b2, .int .u8 b3] 3).run Tryd.prog w = .ok (.int .u8 b3) w := fun b0 b1 b2 b3 => run_part_plain w plain_u8 rfl
  simp only [Op.equalIn, Sem.run_bind, run_underlying Tryd.underlying39, Result.andThen_ok, sizeOf, typeInfo, run_program, hi0, hz1, Sem.run_pure, Std.Legacy.Range.forIn_eq_forIn_range']
  have hr : List.range' 0 (Std.Legacy.Range.size { stop := 4, step_pos := Nat.zero_lt_one }) = [0, 1, 2, 3] := by decide
  rw [hr]
  simp only [List.forIn_cons, List.forIn_nil, Sem.run_bind, Nat.mul_one, p0, Result.andThen_ok, h, Sem.run_ite, Sem.run_pure]
  cases h0 : (a0 == 0) <;> cases h1 : (a1 == 0) <;> cases h2 : (a2 == 0) <;> cases h3 : (a3 == 0) <;> simp [*]
theorem eq4_zero (w : World) (b0 b1 b2 b3 : UInt8) (h : b0 = 0 ∧ b1 = 0 ∧ b2 = 0 ∧ b3 = 0) :
    (Op.equalIn 10000 39 (.agg #[.int .u8 (b0.toNat : Int), .int .u8 (b1.toNat : Int), .int .u8 (b2.toNat : Int), .int .u8 (b3.toNat : Int)]) (.agg #[.int .u8 0, .int .u8 0, .int .u8 0, .int .u8 0])).run Tryd.prog w = .ok true w := by
  have e := eq4 w 9999 (fun a b => run_equalIn_int w 9998 5 .u8 .u8 a b Tryd.underlying5) (b0.toNat : Int) b1.toNat b2.toNat b3.toNat
  obtain ⟨rfl, rfl, rfl, rfl⟩ := h
  exact e
theorem eq4_not (w : World) (b0 b1 b2 b3 : UInt8) (h : ¬ (b0 = 0 ∧ b1 = 0 ∧ b2 = 0 ∧ b3 = 0)) :
    (Op.equalIn 10000 39 (.agg #[.int .u8 (b0.toNat : Int), .int .u8 (b1.toNat : Int), .int .u8 (b2.toNat : Int), .int .u8 (b3.toNat : Int)]) (.agg #[.int .u8 0, .int .u8 0, .int .u8 0, .int .u8 0])).run Tryd.prog w = .ok false w := by
  have e := eq4 w 9999 (fun a b => run_equalIn_int w 9998 5 .u8 .u8 a b Tryd.underlying5) (b0.toNat : Int) b1.toNat b2.toNat b3.toNat
  have hf : (((b0.toNat : Int) == 0) && ((b1.toNat : Int) == 0) && ((b2.toNat : Int) == 0) && ((b3.toNat : Int) == 0)) = false := by
    rw [Bool.eq_false_iff]
    intro hc
    simp only [Bool.and_eq_true, beq_iff_eq] at hc
    have z : ∀ b : UInt8, (b.toNat : Int) = 0 → b = 0 := fun b hb => UInt8.toNat_inj.1 (by simp; omega)
    exact h ⟨z _ hc.1.1.1, z _ hc.1.1.2, z _ hc.1.2, z _ hc.2⟩
  rw [hf] at e
  exact e

theorem idx4 (w : World) (b0 b1 b2 b3 : UInt8) (j : Nat) (hj : j < 4) :
    (Instr.index 39 (.agg #[.int .u8 (b0.toNat : Int), .int .u8 (b1.toNat : Int), .int .u8 (b2.toNat : Int), .int .u8 (b3.toNat : Int)]) (.int .i64 (j : Int))).run Tryd.prog w = .ok (.int .u8 (([b0, b1, b2, b3].getD j 0).toNat : Int)) w := by
  obtain ⟨i0, hi0, hz0, hz1, hz2⟩ := info_parts u8_info
  have hp : (part 5 #[.int .u8 (b0.toNat : Int), .int .u8 (b1.toNat : Int), .int .u8 (b2.toNat : Int), .int .u8 (b3.toNat : Int)] j).run Tryd.prog w = .ok (.int .u8 (([b0, b1, b2, b3].getD j 0).toNat : Int)) w := by
    refine run_part_plain w plain_u8 ?_
    have hcase : j = 0 ∨ j = 1 ∨ j = 2 ∨ j = 3 := by omega
    rcases hcase with rfl | rfl | rfl | rfl <;> rfl
  generalize ([b0, b1, b2, b3].getD j 0).toNat = y at *
  simp [Instr.index, asIntOf, run_underlying Tryd.underlying39, sizeOf, typeInfo, hi0, hz1, hp]
  omega

def TurnRel (w3 : World) (base n c : Nat) (A : Option Addr) (q ts : List UInt8) (k gk : Nat) (i : Value) (wr : World) : Prop :=
  ∃ (j : Nat) (l : List UInt8), gk + j = 4 ∧ i = .int .i64 (j : Int) ∧ wr.ownsRow base 5 1 (.slice A n c) n (cbs l) ∧ w3.grownBy wr (Value.slice A n c).ownBlock ∧ Turned q l k j ts

set_option maxHeartbeats 1000000 in
set_option maxRecDepth 100000 in
theorem markShows_law (w : World) (ht : TabAt w) (A0 : Option Addr) (n0 c0 : Nat) (l0 : List UInt8) (h0 : Sl w w.heap.size A0 n0 c0 l0) (x : Nat) (hx : x < 65536) (b0 b1 b2 b3 : UInt8) :
    Calls Tryd.prog 6 #[.slice A0 n0 c0, .int .u16 (x : Int), .agg #[.int .u8 (b0.toNat : Int), .int .u8 (b1.toNat : Int), .int .u8 (b2.toNat : Int), .int .u8 (b3.toNat : Int)]] w (Yes w) := by
  have HT := Lib.hid ht; clear ht
  go_enter Tryd.func6, Tryd.ntmps6
  go_wp2_with fail
  have hbA : Below w.heap.size w (w.alloc (.cells #[.int .u8 (b0.toNat : Int), .int .u8 (b1.toNat : Int), .int .u8 (b2.toNat : Int), .int .u8 (b3.toNat : Int)] 39)) := (Below.refl _ w).alloc (Nat.le_refl _) _
  refine (awake_any _ (HT.out.alloc _)).mono ?_
  rintro e w1 ⟨rfl, hbel⟩
  have hb1 : Below w.heap.size w w1 := hbA.trans (hbel.mono (by simp))
  have h0' := (h0.onA _).on hbel (Nat.le_refl _)
  have HT1 := Lib.hid ((HT.out.alloc _).below hbel)
  have hq0 : w1.cell? ⟨w.heap.size, 0, none⟩ = some (.int .u8 (b0.toNat : Int)) := (hbel.cell (p := ⟨w.heap.size, 0, none⟩) (by simp)).trans (by simp)
  have hq1 : w1.cell? ⟨w.heap.size, 1, none⟩ = some (.int .u8 (b1.toNat : Int)) := (hbel.cell (p := ⟨w.heap.size, 1, none⟩) (by simp)).trans (by simp)
  have hq2 : w1.cell? ⟨w.heap.size, 2, none⟩ = some (.int .u8 (b2.toNat : Int)) := (hbel.cell (p := ⟨w.heap.size, 2, none⟩) (by simp)).trans (by simp)
  have hq3 : w1.cell? ⟨w.heap.size, 3, none⟩ = some (.int .u8 (b3.toNat : Int)) := (hbel.cell (p := ⟨w.heap.size, 3, none⟩) (by simp)).trans (by simp)
  have hzg : w.heap.size < w1.heap.size := by have := hbel.size; simp at this; omega
  clear hbel hbA h0 HT
  go_wp2_with fail
  refine (cut_any w1 A0 n0 c0 l0 300 h0' (by omega)).mono ?_
  rintro e w2 ⟨A3, n3, c3, rfl, hown3, hbel⟩
  have h3 := Sl.of_own hown3
  have HT2 := Lib.hid (HT1.out.below hbel)
  have hb2 := hb1.trans (hbel.mono hb1.size)
  have hl3 : (l0.take 300).length ≤ 300 := by rw [List.length_take]; omega
  generalize l0.take 300 = p at *
  have hr0 := (hbel.cell (p := ⟨w.heap.size, 0, none⟩) hzg).trans hq0
  have hr1 := (hbel.cell (p := ⟨w.heap.size, 1, none⟩) hzg).trans hq1
  have hr2 := (hbel.cell (p := ⟨w.heap.size, 2, none⟩) hzg).trans hq2
  have hr3 := (hbel.cell (p := ⟨w.heap.size, 3, none⟩) hzg).trans hq3
  have hzg2 : w.heap.size < w2.heap.size := Nat.lt_of_lt_of_le hzg hbel.size
  clear hown3 hbel hb1 h0' HT1 hq0 hq1 hq2 hq3 hzg
  go_wp2_with fail
  refine (close_any w2 A3 n3 c3 p HT2.out h3 (by omega)).mono ?_
  rintro e w3 ⟨A4, n4, c4, rfl, hown4, hbel⟩
  have HT3 := Lib.hid (HT2.out.below hbel)
  have hb3 := hb2.trans (hbel.mono hb2.size)
  have hq0 := (hbel.cell (p := ⟨w.heap.size, 0, none⟩) hzg2).trans hr0
  have hq1 := (hbel.cell (p := ⟨w.heap.size, 1, none⟩) hzg2).trans hr1
  have hq2 := (hbel.cell (p := ⟨w.heap.size, 2, none⟩) hzg2).trans hr2
  have hq3 := (hbel.cell (p := ⟨w.heap.size, 3, none⟩) hzg2).trans hr3
  have hn4 : 4 ≤ n4 ∧ n4 ≤ 304 := by have := (Sl.of_own hown4).len; rw [closed_len] at this; omega
  clear hbel hr0 hr1 hr2 hr3 HT2 h3 hb2
  have hn4a : ¬ (n4 : Int) < 4 := by omega
  have hn4b : (4 : Int) ≤ (n4 : Int) := by omega
  have hn4c : n4 ≤ 304 := hn4.2
  clear hn4
  by_cases hz : b0 = 0 ∧ b1 = 0 ∧ b2 = 0 ∧ b3 = 0
  · have he := eq4_zero w3 b0 b1 b2 b3 hz
    clear hz
    go_wp2
    go_ret
    exact ⟨rfl, hb3⟩
  · have he := eq4_not w3 b0 b1 b2 b3 hz
    have HZ := Lib.hid hz; clear hz
    obtain ⟨k, hk⟩ : ∃ k : Nat, k = x % (n4 - 3) := ⟨_, rfl⟩
    have hkn : k + 4 ≤ n4 := by have := Nat.mod_lt x (show 0 < n4 - 3 by omega); omega
    have ek : (x : Int) % ((n4 : Int) - 3) = (k : Int) := by
      rw [hk, show ((n4 : Int) - 3) = ((n4 - 3 : Nat) : Int) from by omega]; simp
    have hn3 : (0 : Int) < (n4 : Int) - 3 := by omega
    clear hk
    go_wp2
    rw [ek]
    clear ek he hq0 hq1 hq2 hq3 hn4a hn4b hn3
    go_loopg [36] 4 (fun gk i wr => TurnRel w3 w2.heap.size n4 c4 A4 (closed p) [b0, b1, b2, b3] k gk i wr)
    case atStart => exact ⟨0, closed p, rfl, rfl, hown4, only_refl _ _, Turned.start _ _ _⟩
    case round =>
      obtain ⟨j, l, hj, rfl, hown, hgr, hT⟩ := hrel
      have HJ := Lib.hid hj; clear hj
      have HTU := Lib.hid hT; clear hT
      by_cases hlt : j < 4
      · obtain ⟨gx, y, rfl, hgb, hgl, hy, hc, hf⟩ := own_at hown (j := k + j) (by omega)
        have HY := Lib.hid hy; clear hy
        have hix := idx4 wr b0 b1 b2 b3 j hlt
        have HST : Hid (Turned (closed p) (l.set (k + j) (y ^^^ [b0, b1, b2, b3].getD j 0)) k (j + 1) [b0, b1, b2, b3]) := HTU.out.step hlt HY.out
        generalize [b0, b1, b2, b3].getD j 0 = t at *
        have HX := Lib.hid (xor_byte y t)
        have hkj : k + j < n4 := by omega
        clear HY HTU
        go_wp2
        go_roundg (gk - 1)
        case measure => have := HJ.out; omega
        case rel =>
          refine ⟨j + 1, _, by have := HJ.out; omega, by go_num, ?_, only_trans hgr (only_set wr gx (k + j) _), HST.out⟩
          rw [HX.out]
          exact own_set hown (k + j) (y ^^^ t)
      · have hj4 : j = 4 := by have := HJ.out; omega
        have HD : Hid (opn l = ([], 3)) := by
          have hT := HTU.out
          rw [hj4] at hT
          have hl := (Sl.of_own hown4).len
          exact opn_turned k hT.len.symm hT.front.symm hT.back.symm (hT.differ (by omega) HZ.out)
        have hl4 := Sl.of_own hown
        have hlt4 : ∀ g, (Value.slice A4 n4 c4).ownBlock = some g → w2.heap.size ≤ g := fun g hg => (hown4.lt g hg).1
        have HT4 : Hid (TabAt wr) := ⟨fun i hi => (World.cell?_of_block (w := w3) (a := ⟨0, i, none⟩) (hgr.block 0 HT3.out.pos (fun e => by have := hlt4 0 e.symm; omega))).trans (HT3.out.cell i hi)⟩
        have hb4 := hb3.grown hgr hb3.size (fun g hg => by have := hlt4 g hg; omega)
        have hj4' : ¬ (j : Int) < 4 := by omega
        clear hown hown4 hgr hlt4 HTU hj4 hb3 HT3
        go_wp2_with fail
        refine (open_any wr A4 n4 c4 l HT4.out hl4 (by have := hl4.len; omega)).mono ?_
        rintro e w5 ⟨A5, n5, c5, rfl, h5, hbel⟩
        rw [HD.out] at h5 ⊢
        have hn5 : n5 = 0 := by simpa using h5.len.symm
        subst hn5
        clear h5
        go_wp2
        go_ret
        exact ⟨rfl, hb4.trans (hbel.mono hb4.size)⟩
end Go.Proofs.YtmafdoodgkhgeaaDoor
