/-
  THE WALK of the law FrameTurned: where the table is as the program's text lays it, it returns true, whatever the frame and whatever is turned, and turns nothing that was there.
-/
import Derived.Test.YtlkcnpmgafckoaaDoorFrameAwake
import Derived.Test.YtlkcnpmgafckoaaDoorFrameSame
namespace Go.Proofs.YtlkcnpmgafckoaaDoor
open Go.RowKit

/-- The frame of which there is nothing. -/
def zeroF : Fv := ⟨0, 0, 0, 0, 0, 0, 0, none, 0, 0, [], none, 0, 0, []⟩
theorem zeroF_at (w : World) : FrAt w zeroF where
  rs := Rs.nil_ w _ none 0 (Nat.zero_le _)
  it := ⟨rfl, Nat.le_refl _, Nat.zero_le _, fun h => absurd h (Nat.lt_irrefl _), fun k hk => absurd hk List.not_mem_nil⟩
  kd := by decide
  ag := by decide
  ep := by decide
  ic := by decide
  ba := by decide
  cu := by decide
  li := by decide

set_option maxRecDepth 100000 in
set_option maxHeartbeats 800000 in
theorem decode_bad (w : World) (ht : TabAt w) (A : Option Addr) (n c : Nat) (l : List UInt8) (hs : Sl w w.heap.size A n c l) (hl : l.length ≤ 65507) (er : Nat) (he : (opn l).2 = er) (h0 : er ≠ 0) :
    Calls Tryd.prog 19 #[.slice A n c] w (Says w (.tuple #[zeroF.v, .int .i64 (er : Int)])) := by
  have hln := hs.len
  have HS := Lib.hid hs
  have HT := Lib.hid ht
  have HE := Lib.hid he
  have hlI : ¬ (65507 : Int) < (n : Int) := by omega
  have h0I : ((er : Int) != 0) = true := by simp; omega
  have HL := Lib.hid hl
  clear hs ht he hl hln h0
  unfold Fv.v zeroF
  go_enter Tryd.func19, Tryd.ntmps19
  go_wp2_with fail
  have hbx := below_box w (.cells #[.int .u8 0, .int .i64 0, .int .u64 0, .int .u64 0, .int .u64 0, .int .u64 0, .int .u64 0, .slice none 0 0, .slice none 0 0] 26)
  have hblk := heap_alloc_new w (.cells #[.int .u8 0, .int .i64 0, .int .u64 0, .int .u64 0, .int .u64 0, .int .u64 0, .int .u64 0, .slice none 0 0, .slice none 0 0] 26)
  have hz : w.heap.size < (w.alloc (.cells #[.int .u8 0, .int .i64 0, .int .u64 0, .int .u64 0, .int .u64 0, .int .u64 0, .int .u64 0, .slice none 0 0, .slice none 0 0] 26)).heap.size := by simp
  have hs1 := HS.out.onA (.cells #[.int .u8 0, .int .i64 0, .int .u64 0, .int .u64 0, .int .u64 0, .int .u64 0, .int .u64 0, .slice none 0 0, .slice none 0 0] 26)
  have ht1 := HT.out.alloc (.cells #[.int .u8 0, .int .i64 0, .int .u64 0, .int .u64 0, .int .u64 0, .int .u64 0, .int .u64 0, .slice none 0 0, .slice none 0 0] 26)
  generalize w.alloc (.cells #[.int .u8 0, .int .i64 0, .int .u64 0, .int .u64 0, .int .u64 0, .int .u64 0, .int .u64 0, .slice none 0 0, .slice none 0 0] 26) = wb at *
  refine (open_any wb A n c l ht1 hs1 (by have := HL.out; omega)).mono ?_
  rintro e w2 ⟨A2, n2, c2, rfl, _, hb2⟩
  rw [HE.out]
  have hblk2 := (hb2.block w.heap.size hz).trans hblk
  have q : ∀ i, w2.cell? ⟨w.heap.size, i, none⟩ = (#[Value.int .u8 0, .int .i64 0, .int .u64 0, .int .u64 0, .int .u64 0, .int .u64 0, .int .u64 0, .slice none 0 0, .slice none 0 0] : Array Value)[i]? := fun i => cell_of_row w2 _ i _ _ _ hblk2
  have hbw : Below w.heap.size w w2 := hbx.trans (hb2.mono hbx.size)
  have HBW := Lib.hid hbw
  have HB9 := Lib.hid (set9_heap (.int .u8 0) (.int .i64 0) (.int .u64 0) (.int .u64 0) (.int .u64 0) (.int .u64 0) (.int .u64 0) (.slice none 0 0) (.slice none 0 0) hblk2)
  have q0 := q 0
  have q1 := q 1
  have q2 := q 2
  have q3 := q 3
  have q4 := q 4
  have q5 := q 5
  have q6 := q 6
  have q7 := q 7
  have q8 := q 8
  simp only [List.getElem?_toArray, List.getElem?_cons_zero, List.getElem?_cons_succ] at q0 q1 q2 q3 q4 q5 q6 q7 q8
  have f : ∀ i, w2.frozen? ⟨w.heap.size, i, none⟩ = false := fun i => frz_block (i := i) hblk2
  have f0 := f 0
  have f1 := f 1
  have f2 := f 2
  have f3 := f 3
  have f4 := f 4
  have f5 := f 5
  have f6 := f 6
  have f7 := f 7
  have f8 := f 8
  clear hbx hblk hs1 ht1 hb2 hbw q f hblk2
  go_wp2
  have hr : ∀ i, (set9 w2 w.heap.size (.int .u8 0) (.int .i64 0) (.int .u64 0) (.int .u64 0) (.int .u64 0) (.int .u64 0) (.int .u64 0) (.slice none 0 0) (.slice none 0 0)).cell? ⟨w.heap.size, i, none⟩ = (#[Value.int .u8 0, .int .i64 0, .int .u64 0, .int .u64 0, .int .u64 0, .int .u64 0, .int .u64 0, .slice none 0 0, .slice none 0 0] : Array Value)[i]? := fun i => cell_of_row _ _ i _ _ _ HB9.out
  have hb9 := set9_below (.int .u8 0) (.int .i64 0) (.int .u64 0) (.int .u64 0) (.int .u64 0) (.int .u64 0) (.int .u64 0) (.slice none 0 0) (.slice none 0 0) HBW.out (Nat.le_refl _)
  change bodyPost _ _ _ _ _ (set9 w2 w.heap.size (.int .u8 0) (.int .i64 0) (.int .u64 0) (.int .u64 0) (.int .u64 0) (.int .u64 0) (.int .u64 0) (.slice none 0 0) (.slice none 0 0))
  generalize set9 w2 w.heap.size (.int .u8 0) (.int .i64 0) (.int .u64 0) (.int .u64 0) (.int .u64 0) (.int .u64 0) (.int .u64 0) (.slice none 0 0) (.slice none 0 0) = w9 at *
  refine bodyPost_ret (v := .tuple #[.agg #[.int .u8 0, .int .i64 0, .int .u64 0, .int .u64 0, .int .u64 0, .int .u64 0, .int .u64 0, .slice none 0 0, .slice none 0 0], .int .i64 (er : Int)]) (by simp [results, Tryd.results19, go_sem, hr]) rfl ⟨rfl, hb9⟩

end Go.Proofs.YtlkcnpmgafckoaaDoor
