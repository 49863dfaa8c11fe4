/-
  CONTRACT of layer 5: any bytes are decoded: Decode.
  No statement is proved here.
-/
import Derived.Test.YtlkcnpmgafckoaaDoorFrameGet4
namespace Go.Proofs.YtlkcnpmgafckoaaDoor
open Go.RowKit

/-- What Decode answers: a frame, the error. -/
def DecPost (w : World) (l : List UInt8) (e : Ending) (w' : World) : Prop :=
  ∃ k : Fv, e = .returned (.tuple #[k.v, .int .i64 ((decM l).2 : Int)]) ∧ k.m = (decM l).1 ∧ FrAt w' k ∧ Below w.heap.size w w'
theorem dec_long {l : List UInt8} (h : 65507 < l.length) : decM l = (zeroM, 6) := by unfold decM; rw [if_pos h]
theorem dec_bad {l : List UInt8} (h : ¬ 65507 < l.length) (h2 : (opn l).2 ≠ 0) : decM l = (zeroM, (opn l).2) := by unfold decM; rw [if_neg h, if_pos h2]
theorem dec_end {l l2 : List UInt8} {m : Fm} {e2 : Nat} (h : ¬ 65507 < l.length) (h2 : (opn l).2 = 0) (hm : getM (opn l).1 = (m, l2, e2)) (he : endN l2 e2 ≠ 0) : decM l = (zeroM, endN l2 e2) := by
  unfold decM
  rw [if_neg h, if_neg (by omega), hm]
  dsimp only
  rw [if_pos he]
theorem dec_arg {l l2 : List UInt8} {m : Fm} {e2 : Nat} (h : ¬ 65507 < l.length) (h2 : (opn l).2 = 0) (hm : getM (opn l).1 = (m, l2, e2)) (he : endN l2 e2 = 0) (hr : ¬ RightP m) : decM l = (zeroM, 1) := by
  unfold decM
  rw [if_neg h, if_neg (by omega), hm]
  dsimp only
  rw [if_neg (by omega), if_neg hr]
theorem dec_ok {l l2 : List UInt8} {m : Fm} {e2 : Nat} (h : ¬ 65507 < l.length) (h2 : (opn l).2 = 0) (hm : getM (opn l).1 = (m, l2, e2)) (he : endN l2 e2 = 0) (hr : RightP m) : decM l = (m, 0) := by
  unfold decM
  rw [if_neg h, if_neg (by omega), hm]
  dsimp only
  rw [if_neg (by omega), if_pos hr]
theorem opn_short (l : List UInt8) : (opn l).1.length ≤ l.length := by
  unfold opn
  split
  · exact Nat.zero_le _
  · split
    · simp
    · exact Nat.zero_le _

set_option maxRecDepth 100000 in
set_option maxHeartbeats 2000000 in
theorem decode_long (w : World) (A : Option Addr) (n c : Nat) (l : List UInt8) (hs : Sl w w.heap.size A n c l) (hl : 65507 < l.length) :
    Calls Tryd.prog 19 #[.slice A n c] w (DecPost w l) := by
  have hln := hs.len
  have HD := Lib.hid (dec_long hl)
  have hlI : (65507 : Int) < (n : Int) := by omega
  clear hs hl hln
  go_enter Tryd.func19, Tryd.ntmps19
  go_wp2
  refine bodyPost_ret (v := .tuple #[.agg #[Value.int .u8 0, .int .i64 0, .int .u64 0, .int .u64 0, .int .u64 0, .int .u64 0, .int .u64 0, .slice none 0 0, .slice none 0 0], .int .i64 6]) (by simp [results, Tryd.results19, go_sem]) rfl ?_
  refine ⟨zeroF, by rw [HD.out]; rfl, by rw [HD.out]; rfl, zeroF_at _, below_box w _⟩

set_option maxRecDepth 100000 in
set_option maxHeartbeats 2000000 in
theorem decode_end (w : World) (ht : TabAt w) (A : Option Addr) (n c : Nat) (l : List UInt8) (hs : Sl w w.heap.size A n c l) (hl : l.length ≤ 65507) {m : Fm} {l2 : List UInt8} {e2 : Nat} (h2 : (opn l).2 = 0) (hm : getM (opn l).1 = (m, l2, e2)) (he : endN l2 e2 ≠ 0) :
    Calls Tryd.prog 19 #[.slice A n c] w (DecPost w l) := by
  have hln := hs.len
  have HD := Lib.hid (dec_end (by omega) h2 hm he)
  have HS := Lib.hid hs
  have HT := Lib.hid ht
  have HE := Lib.hid h2
  have HM := Lib.hid hm
  have HN := Lib.hid he
  have hlI : ¬ (65507 : Int) < (n : Int) := by omega
  have HL := Lib.hid hl
  have HO := Lib.hid (opn_short l)
  clear hs ht h2 hm he hl hln 
  go_enter Tryd.func19, Tryd.ntmps19
  go_wp2_with fail
  have hbx := below_box w (.cells #[.int .u8 0, .int .i64 0, .int .u64 0, .int .u64 0, .int .u64 0, .int .u64 0, .int .u64 0, .slice none 0 0, .slice none 0 0] 26)
  have hblk := heap_alloc_new w (.cells #[.int .u8 0, .int .i64 0, .int .u64 0, .int .u64 0, .int .u64 0, .int .u64 0, .int .u64 0, .slice none 0 0, .slice none 0 0] 26)
  have hz : w.heap.size < (w.alloc (.cells #[.int .u8 0, .int .i64 0, .int .u64 0, .int .u64 0, .int .u64 0, .int .u64 0, .int .u64 0, .slice none 0 0, .slice none 0 0] 26)).heap.size := by simp
  have hs1 := HS.out.onA (.cells #[.int .u8 0, .int .i64 0, .int .u64 0, .int .u64 0, .int .u64 0, .int .u64 0, .int .u64 0, .slice none 0 0, .slice none 0 0] 26)
  have ht1 := HT.out.alloc (.cells #[.int .u8 0, .int .i64 0, .int .u64 0, .int .u64 0, .int .u64 0, .int .u64 0, .int .u64 0, .slice none 0 0, .slice none 0 0] 26)
  generalize w.alloc (.cells #[.int .u8 0, .int .i64 0, .int .u64 0, .int .u64 0, .int .u64 0, .int .u64 0, .int .u64 0, .slice none 0 0, .slice none 0 0] 26) = wb at *
  refine (open_any wb A n c l ht1 hs1 (by have := HL.out; omega)).mono ?_
  rintro e w2 ⟨A2, n2, c2, rfl, hs2, hb2⟩
  rw [HE.out]
  have HS2 := Lib.hid hs2
  have HK2 := Lib.hid ((hb2.block w.heap.size hz).trans hblk)
  have HB2 : Hid (Below w.heap.size w w2) := hbx.trans (hb2.mono hbx.size)
  have HZ2 : Hid (w.heap.size < w2.heap.size) := Nat.lt_of_lt_of_le hz hb2.size
  clear hbx hblk hz hs1 ht1 hb2 hs2 HS HT HE
  go_wp2_with fail
  refine (of_any w2 A2 n2 c2 (opn l).1 HS2.out (by have := HO.out; have := HL.out; omega)).mono ?_
  rintro e w3 ⟨g, A3, n3, c3, hg, rfl, hin3, hb3⟩
  have HC := Lib.hid (getF_any hin3)
  rw [HM.out] at HC
  have HGZ : Hid (w.heap.size < g) := Nat.lt_of_lt_of_le HZ2.out hg
  have HGL := Lib.hid hin3.lt
  have HK3 := Lib.hid ((hb3.block w.heap.size HZ2.out).trans HK2.out)
  have HB3 : Hid (Below w.heap.size w w3) := HB2.out.trans (hb3.mono HB2.out.size)
  have HZ3 : Hid (w.heap.size < w3.heap.size) := Nat.lt_of_lt_of_le HZ2.out hb3.size
  clear hin3 hb3 hg HK2 HB2 HZ2 HS2 HM HO HL
  go_wp2_with fail
  refine HC.out.mono ?_
  rintro e w4 ⟨k, rfl, hk, hnw, ⟨A4, n4, c4, hin4⟩, hgr4⟩
  have HK := Lib.hid hk
  have HK4 := Lib.hid (box_kept HK3.out hgr4 (by have := HGZ.out; omega))
  have HB4 : Hid (Below w.heap.size w w4) := below_grown HB3.out hgr4 (by have := HGZ.out; omega) (by have := HZ3.out; omega)
  have HZ4 : Hid (w3.heap.size ≤ w4.heap.size) := hgr4.size
  have HW4 := Lib.hid hnw
  have HI4 := Lib.hid hin4
  clear hk hnw hin4 hgr4 HC HK3 HB3
  unfold Fv.v
  go_wp2_with fail
  change Calls _ _ _ (w4.alloc k.box) _
  have HBF := Lib.hid (below_box w4 k.box)
  have HF := Lib.hid (heap_alloc_new w4 k.box)
  have HI5 := Lib.hid (HI4.out.below HBF.out HI4.out.lt)
  have HW5 := Lib.hid (HW4.out.kept (only_below HBF.out (some g)) (by have := HGL.out; omega))
  have HK5 := Lib.hid ((HBF.out.block w.heap.size (by have := HZ3.out; have := HZ4.out; omega)).trans HK4.out)
  have HB5 : Hid (Below w.heap.size w (w4.alloc k.box)) := HB4.out.trans (HBF.out.mono HB4.out.size)
  have HZ5 : Hid (w4.heap.size < (w4.alloc k.box).heap.size) := by show _ < _; simp
  clear HBF HI4 HW4 HK4 HB4
  generalize w4.alloc k.box = w5 at *
  refine (end_any HI5.out).mono ?_
  rintro e w6 ⟨A6, n6, c6, rfl, hin6, hgr6⟩
  have hne : g ≠ w4.heap.size := by have := HGL.out; have := HZ4.out; omega
  have hF6 := box_kept HF.out hgr6 hne
  have hK6 := box_kept HK5.out hgr6 (by have := HGZ.out; omega)
  have HW6 := Lib.hid (HW5.out.kept hgr6 HGL.out)
  have HB6 : Hid (Below w.heap.size w w6) := below_grown HB5.out hgr6 (by have := HGZ.out; omega) (by have := HZ3.out; have := HZ4.out; have := HZ5.out; omega)
  have HZ6 : Hid (w5.heap.size ≤ w6.heap.size) := hgr6.size
  have h0I : (((endN l2 e2 : Nat) : Int) != 0) = true := by have := HN.out; simp; omega
  have qA : ∀ i, w6.cell? ⟨w.heap.size, i, none⟩ = (#[Value.int .u8 0, .int .i64 0, .int .u64 0, .int .u64 0, .int .u64 0, .int .u64 0, .int .u64 0, .slice none 0 0, .slice none 0 0] : Array Value)[i]? := fun i => cell_of_row w6 _ i _ _ _ hK6
  obtain ⟨q0, q1, q2, q3, q4, q5, q6, q7, q8⟩ : w6.cell? ⟨w.heap.size, 0, none⟩ = some (.int .u8 0) ∧ w6.cell? ⟨w.heap.size, 1, none⟩ = some (.int .i64 0) ∧ w6.cell? ⟨w.heap.size, 2, none⟩ = some (.int .u64 0) ∧ w6.cell? ⟨w.heap.size, 3, none⟩ = some (.int .u64 0) ∧ w6.cell? ⟨w.heap.size, 4, none⟩ = some (.int .u64 0) ∧ w6.cell? ⟨w.heap.size, 5, none⟩ = some (.int .u64 0) ∧ w6.cell? ⟨w.heap.size, 6, none⟩ = some (.int .u64 0) ∧ w6.cell? ⟨w.heap.size, 7, none⟩ = some (.slice none 0 0) ∧ w6.cell? ⟨w.heap.size, 8, none⟩ = some (.slice none 0 0) := ⟨qA 0, qA 1, qA 2, qA 3, qA 4, qA 5, qA 6, qA 7, qA 8⟩
  obtain ⟨f0, f1, f2, f3, f4, f5, f6, f7, f8⟩ : w6.frozen? ⟨w.heap.size, 0, none⟩ = false ∧ w6.frozen? ⟨w.heap.size, 1, none⟩ = false ∧ w6.frozen? ⟨w.heap.size, 2, none⟩ = false ∧ w6.frozen? ⟨w.heap.size, 3, none⟩ = false ∧ w6.frozen? ⟨w.heap.size, 4, none⟩ = false ∧ w6.frozen? ⟨w.heap.size, 5, none⟩ = false ∧ w6.frozen? ⟨w.heap.size, 6, none⟩ = false ∧ w6.frozen? ⟨w.heap.size, 7, none⟩ = false ∧ w6.frozen? ⟨w.heap.size, 8, none⟩ = false := ⟨frz_block (i := 0) hK6, frz_block (i := 1) hK6, frz_block (i := 2) hK6, frz_block (i := 3) hK6, frz_block (i := 4) hK6, frz_block (i := 5) hK6, frz_block (i := 6) hK6, frz_block (i := 7) hK6, frz_block (i := 8) hK6⟩
  have HB9 := Lib.hid (set9_heap (.int .u8 0) (.int .i64 0) (.int .u64 0) (.int .u64 0) (.int .u64 0) (.int .u64 0) (.int .u64 0) (.slice none 0 0) (.slice none 0 0) hK6)
  have HBW := HB6
  generalize endN l2 e2 = er at *
  clear hin6 hgr6 hne hF6 hK6 qA HI5 HW5 HK5 HB5 HB6
  go_wp2
  have hr : ∀ i, (set9 w6 w.heap.size (.int .u8 0) (.int .i64 0) (.int .u64 0) (.int .u64 0) (.int .u64 0) (.int .u64 0) (.int .u64 0) (.slice none 0 0) (.slice none 0 0)).cell? ⟨w.heap.size, i, none⟩ = (#[Value.int .u8 0, .int .i64 0, .int .u64 0, .int .u64 0, .int .u64 0, .int .u64 0, .int .u64 0, .slice none 0 0, .slice none 0 0] : Array Value)[i]? := fun i => cell_of_row _ _ i _ _ _ HB9.out
  have hb9 := set9_below (.int .u8 0) (.int .i64 0) (.int .u64 0) (.int .u64 0) (.int .u64 0) (.int .u64 0) (.int .u64 0) (.slice none 0 0) (.slice none 0 0) HBW.out (Nat.le_refl _)
  change bodyPost _ _ _ _ _ (set9 w6 w.heap.size (.int .u8 0) (.int .i64 0) (.int .u64 0) (.int .u64 0) (.int .u64 0) (.int .u64 0) (.int .u64 0) (.slice none 0 0) (.slice none 0 0))
  generalize (set9 w6 w.heap.size (.int .u8 0) (.int .i64 0) (.int .u64 0) (.int .u64 0) (.int .u64 0) (.int .u64 0) (.int .u64 0) (.slice none 0 0) (.slice none 0 0)) = wz at *
  refine bodyPost_ret (v := .tuple #[.agg #[Value.int .u8 0, .int .i64 0, .int .u64 0, .int .u64 0, .int .u64 0, .int .u64 0, .int .u64 0, .slice none 0 0, .slice none 0 0], .int .i64 (er : Int)]) (by simp [results, Tryd.results19, go_sem, hr]) rfl ?_
  exact ⟨zeroF, by rw [HD.out]; rfl, by rw [HD.out]; rfl, zeroF_at _, hb9⟩

set_option maxRecDepth 100000 in
set_option maxHeartbeats 2000000 in
theorem decode_arg (w : World) (ht : TabAt w) (A : Option Addr) (n c : Nat) (l : List UInt8) (hs : Sl w w.heap.size A n c l) (hl : l.length ≤ 65507) {m : Fm} {l2 : List UInt8} {e2 : Nat} (h2 : (opn l).2 = 0) (hm : getM (opn l).1 = (m, l2, e2)) (he : endN l2 e2 = 0) (hr : ¬ RightP m) :
    Calls Tryd.prog 19 #[.slice A n c] w (DecPost w l) := by
  have hln := hs.len
  have HD := Lib.hid (dec_arg (by omega) h2 hm he hr)
  have HS := Lib.hid hs
  have HT := Lib.hid ht
  have HE := Lib.hid h2
  have HM := Lib.hid hm
  have HN := Lib.hid he
  have HR := Lib.hid hr
  have hlI : ¬ (65507 : Int) < (n : Int) := by omega
  have HL := Lib.hid hl
  have HO := Lib.hid (opn_short l)
  clear hs ht h2 hm he hl hln hr
  go_enter Tryd.func19, Tryd.ntmps19
  go_wp2_with fail
  have hbx := below_box w (.cells #[.int .u8 0, .int .i64 0, .int .u64 0, .int .u64 0, .int .u64 0, .int .u64 0, .int .u64 0, .slice none 0 0, .slice none 0 0] 26)
  have hblk := heap_alloc_new w (.cells #[.int .u8 0, .int .i64 0, .int .u64 0, .int .u64 0, .int .u64 0, .int .u64 0, .int .u64 0, .slice none 0 0, .slice none 0 0] 26)
  have hz : w.heap.size < (w.alloc (.cells #[.int .u8 0, .int .i64 0, .int .u64 0, .int .u64 0, .int .u64 0, .int .u64 0, .int .u64 0, .slice none 0 0, .slice none 0 0] 26)).heap.size := by simp
  have hs1 := HS.out.onA (.cells #[.int .u8 0, .int .i64 0, .int .u64 0, .int .u64 0, .int .u64 0, .int .u64 0, .int .u64 0, .slice none 0 0, .slice none 0 0] 26)
  have ht1 := HT.out.alloc (.cells #[.int .u8 0, .int .i64 0, .int .u64 0, .int .u64 0, .int .u64 0, .int .u64 0, .int .u64 0, .slice none 0 0, .slice none 0 0] 26)
  generalize w.alloc (.cells #[.int .u8 0, .int .i64 0, .int .u64 0, .int .u64 0, .int .u64 0, .int .u64 0, .int .u64 0, .slice none 0 0, .slice none 0 0] 26) = wb at *
  refine (open_any wb A n c l ht1 hs1 (by have := HL.out; omega)).mono ?_
  rintro e w2 ⟨A2, n2, c2, rfl, hs2, hb2⟩
  rw [HE.out]
  have HS2 := Lib.hid hs2
  have HK2 := Lib.hid ((hb2.block w.heap.size hz).trans hblk)
  have HB2 : Hid (Below w.heap.size w w2) := hbx.trans (hb2.mono hbx.size)
  have HZ2 : Hid (w.heap.size < w2.heap.size) := Nat.lt_of_lt_of_le hz hb2.size
  clear hbx hblk hz hs1 ht1 hb2 hs2 HS HT HE
  go_wp2_with fail
  refine (of_any w2 A2 n2 c2 (opn l).1 HS2.out (by have := HO.out; have := HL.out; omega)).mono ?_
  rintro e w3 ⟨g, A3, n3, c3, hg, rfl, hin3, hb3⟩
  have HC := Lib.hid (getF_any hin3)
  rw [HM.out] at HC
  have HGZ : Hid (w.heap.size < g) := Nat.lt_of_lt_of_le HZ2.out hg
  have HGL := Lib.hid hin3.lt
  have HK3 := Lib.hid ((hb3.block w.heap.size HZ2.out).trans HK2.out)
  have HB3 : Hid (Below w.heap.size w w3) := HB2.out.trans (hb3.mono HB2.out.size)
  have HZ3 : Hid (w.heap.size < w3.heap.size) := Nat.lt_of_lt_of_le HZ2.out hb3.size
  clear hin3 hb3 hg HK2 HB2 HZ2 HS2 HM HO HL
  go_wp2_with fail
  refine HC.out.mono ?_
  rintro e w4 ⟨k, rfl, hk, hnw, ⟨A4, n4, c4, hin4⟩, hgr4⟩
  have HK := Lib.hid hk
  have HK4 := Lib.hid (box_kept HK3.out hgr4 (by have := HGZ.out; omega))
  have HB4 : Hid (Below w.heap.size w w4) := below_grown HB3.out hgr4 (by have := HGZ.out; omega) (by have := HZ3.out; omega)
  have HZ4 : Hid (w3.heap.size ≤ w4.heap.size) := hgr4.size
  have HW4 := Lib.hid hnw
  have HI4 := Lib.hid hin4
  clear hk hnw hin4 hgr4 HC HK3 HB3
  unfold Fv.v
  go_wp2_with fail
  change Calls _ _ _ (w4.alloc k.box) _
  have HBF := Lib.hid (below_box w4 k.box)
  have HF := Lib.hid (heap_alloc_new w4 k.box)
  have HI5 := Lib.hid (HI4.out.below HBF.out HI4.out.lt)
  have HW5 := Lib.hid (HW4.out.kept (only_below HBF.out (some g)) (by have := HGL.out; omega))
  have HK5 := Lib.hid ((HBF.out.block w.heap.size (by have := HZ3.out; have := HZ4.out; omega)).trans HK4.out)
  have HB5 : Hid (Below w.heap.size w (w4.alloc k.box)) := HB4.out.trans (HBF.out.mono HB4.out.size)
  have HZ5 : Hid (w4.heap.size < (w4.alloc k.box).heap.size) := by show _ < _; simp
  clear HBF HI4 HW4 HK4 HB4
  generalize w4.alloc k.box = w5 at *
  refine (end_any HI5.out).mono ?_
  rintro e w6 ⟨A6, n6, c6, rfl, hin6, hgr6⟩
  have hne : g ≠ w4.heap.size := by have := HGL.out; have := HZ4.out; omega
  have hF6 := box_kept HF.out hgr6 hne
  have hK6 := box_kept HK5.out hgr6 (by have := HGZ.out; omega)
  have HW6 := Lib.hid (HW5.out.kept hgr6 HGL.out)
  have HB6 : Hid (Below w.heap.size w w6) := below_grown HB5.out hgr6 (by have := HGZ.out; omega) (by have := HZ3.out; have := HZ4.out; have := HZ5.out; omega)
  have HZ6 : Hid (w5.heap.size ≤ w6.heap.size) := hgr6.size
  rw [HN.out]
  have qA : ∀ i, w6.cell? ⟨w4.heap.size, i, none⟩ = (#[Value.int .u8 (k.kd : Int), .int .i64 k.ag, .int .u64 (k.ep : Int), .int .u64 (k.ic : Int), .int .u64 (k.ba : Int), .int .u64 (k.cu : Int), .int .u64 (k.li : Int), .slice k.Ar k.nr k.cr, .slice k.Ai k.ni k.ci] : Array Value)[i]? := fun i => cell_of_row w6 _ i _ _ _ hF6
  obtain ⟨q0, q1, q2, q3, q4, q5, q6, q7, q8⟩ : w6.cell? ⟨w4.heap.size, 0, none⟩ = some (.int .u8 (k.kd : Int)) ∧ w6.cell? ⟨w4.heap.size, 1, none⟩ = some (.int .i64 k.ag) ∧ w6.cell? ⟨w4.heap.size, 2, none⟩ = some (.int .u64 (k.ep : Int)) ∧ w6.cell? ⟨w4.heap.size, 3, none⟩ = some (.int .u64 (k.ic : Int)) ∧ w6.cell? ⟨w4.heap.size, 4, none⟩ = some (.int .u64 (k.ba : Int)) ∧ w6.cell? ⟨w4.heap.size, 5, none⟩ = some (.int .u64 (k.cu : Int)) ∧ w6.cell? ⟨w4.heap.size, 6, none⟩ = some (.int .u64 (k.li : Int)) ∧ w6.cell? ⟨w4.heap.size, 7, none⟩ = some (.slice k.Ar k.nr k.cr) ∧ w6.cell? ⟨w4.heap.size, 8, none⟩ = some (.slice k.Ai k.ni k.ci) := ⟨qA 0, qA 1, qA 2, qA 3, qA 4, qA 5, qA 6, qA 7, qA 8⟩
  have HF6 := Lib.hid hF6
  have HK6 := Lib.hid hK6
  clear hin6 hgr6 hne hF6 hK6 qA HI5 HW5 HK5 HB5 HF HN
  go_wp2_with fail
  have hc := rightF_any w6 k HW6.out.fr
  rw [HK.out] at hc
  refine hc.mono ?_
  rintro e w7 ⟨rfl, hb7⟩
  have hK7 := (hb7.block w.heap.size (by have := HZ3.out; have := HZ4.out; have := HZ5.out; have := HZ6.out; omega)).trans HK6.out
  have hF7 := (hb7.block w4.heap.size (by have := HZ5.out; have := HZ6.out; omega)).trans HF6.out
  have HBW : Hid (Below w.heap.size w w7) := HB6.out.trans (hb7.mono HB6.out.size)
  rw [decP_no HR.out]
  have pA : ∀ i, w7.cell? ⟨w.heap.size, i, none⟩ = (#[Value.int .u8 0, .int .i64 0, .int .u64 0, .int .u64 0, .int .u64 0, .int .u64 0, .int .u64 0, .slice none 0 0, .slice none 0 0] : Array Value)[i]? := fun i => cell_of_row w7 _ i _ _ _ hK7
  obtain ⟨p0, p1, p2, p3, p4, p5, p6, p7, p8⟩ : w7.cell? ⟨w.heap.size, 0, none⟩ = some (.int .u8 0) ∧ w7.cell? ⟨w.heap.size, 1, none⟩ = some (.int .i64 0) ∧ w7.cell? ⟨w.heap.size, 2, none⟩ = some (.int .u64 0) ∧ w7.cell? ⟨w.heap.size, 3, none⟩ = some (.int .u64 0) ∧ w7.cell? ⟨w.heap.size, 4, none⟩ = some (.int .u64 0) ∧ w7.cell? ⟨w.heap.size, 5, none⟩ = some (.int .u64 0) ∧ w7.cell? ⟨w.heap.size, 6, none⟩ = some (.int .u64 0) ∧ w7.cell? ⟨w.heap.size, 7, none⟩ = some (.slice none 0 0) ∧ w7.cell? ⟨w.heap.size, 8, none⟩ = some (.slice none 0 0) := ⟨pA 0, pA 1, pA 2, pA 3, pA 4, pA 5, pA 6, pA 7, pA 8⟩
  obtain ⟨f0, f1, f2, f3, f4, f5, f6, f7, f8⟩ : w7.frozen? ⟨w.heap.size, 0, none⟩ = false ∧ w7.frozen? ⟨w.heap.size, 1, none⟩ = false ∧ w7.frozen? ⟨w.heap.size, 2, none⟩ = false ∧ w7.frozen? ⟨w.heap.size, 3, none⟩ = false ∧ w7.frozen? ⟨w.heap.size, 4, none⟩ = false ∧ w7.frozen? ⟨w.heap.size, 5, none⟩ = false ∧ w7.frozen? ⟨w.heap.size, 6, none⟩ = false ∧ w7.frozen? ⟨w.heap.size, 7, none⟩ = false ∧ w7.frozen? ⟨w.heap.size, 8, none⟩ = false := ⟨frz_block (i := 0) hK7, frz_block (i := 1) hK7, frz_block (i := 2) hK7, frz_block (i := 3) hK7, frz_block (i := 4) hK7, frz_block (i := 5) hK7, frz_block (i := 6) hK7, frz_block (i := 7) hK7, frz_block (i := 8) hK7⟩
  have HB9 := Lib.hid (set9_heap (.int .u8 0) (.int .i64 0) (.int .u64 0) (.int .u64 0) (.int .u64 0) (.int .u64 0) (.int .u64 0) (.slice none 0 0) (.slice none 0 0) hK7)
  clear hb7 hK7 hF7 pA hc HF6 HK6 HW6 HB6 q0 q1 q2 q3 q4 q5 q6 q7 q8
  go_wp2
  have hr : ∀ i, (set9 w7 w.heap.size (.int .u8 0) (.int .i64 0) (.int .u64 0) (.int .u64 0) (.int .u64 0) (.int .u64 0) (.int .u64 0) (.slice none 0 0) (.slice none 0 0)).cell? ⟨w.heap.size, i, none⟩ = (#[Value.int .u8 0, .int .i64 0, .int .u64 0, .int .u64 0, .int .u64 0, .int .u64 0, .int .u64 0, .slice none 0 0, .slice none 0 0] : Array Value)[i]? := fun i => cell_of_row _ _ i _ _ _ HB9.out
  have hb9 := set9_below (.int .u8 0) (.int .i64 0) (.int .u64 0) (.int .u64 0) (.int .u64 0) (.int .u64 0) (.int .u64 0) (.slice none 0 0) (.slice none 0 0) HBW.out (Nat.le_refl _)
  change bodyPost _ _ _ _ _ (set9 w7 w.heap.size (.int .u8 0) (.int .i64 0) (.int .u64 0) (.int .u64 0) (.int .u64 0) (.int .u64 0) (.int .u64 0) (.slice none 0 0) (.slice none 0 0))
  generalize (set9 w7 w.heap.size (.int .u8 0) (.int .i64 0) (.int .u64 0) (.int .u64 0) (.int .u64 0) (.int .u64 0) (.int .u64 0) (.slice none 0 0) (.slice none 0 0)) = wz at *
  refine bodyPost_ret (v := .tuple #[.agg #[Value.int .u8 0, .int .i64 0, .int .u64 0, .int .u64 0, .int .u64 0, .int .u64 0, .int .u64 0, .slice none 0 0, .slice none 0 0], .int .i64 1]) (by simp [results, Tryd.results19, go_sem, hr]) rfl ?_
  exact ⟨zeroF, by rw [HD.out]; rfl, by rw [HD.out]; rfl, zeroF_at _, hb9⟩

set_option maxRecDepth 100000 in
set_option maxHeartbeats 2000000 in
theorem decode_ok (w : World) (ht : TabAt w) (A : Option Addr) (n c : Nat) (l : List UInt8) (hs : Sl w w.heap.size A n c l) (hl : l.length ≤ 65507) {m : Fm} {l2 : List UInt8} {e2 : Nat} (h2 : (opn l).2 = 0) (hm : getM (opn l).1 = (m, l2, e2)) (he : endN l2 e2 = 0) (hr : RightP m) :
    Calls Tryd.prog 19 #[.slice A n c] w (DecPost w l) := by
  have hln := hs.len
  have HD := Lib.hid (dec_ok (by omega) h2 hm he hr)
  have HS := Lib.hid hs
  have HT := Lib.hid ht
  have HE := Lib.hid h2
  have HM := Lib.hid hm
  have HN := Lib.hid he
  have HR := Lib.hid hr
  have hlI : ¬ (65507 : Int) < (n : Int) := by omega
  have HL := Lib.hid hl
  have HO := Lib.hid (opn_short l)
  clear hs ht h2 hm he hl hln hr
  go_enter Tryd.func19, Tryd.ntmps19
  go_wp2_with fail
  have hbx := below_box w (.cells #[.int .u8 0, .int .i64 0, .int .u64 0, .int .u64 0, .int .u64 0, .int .u64 0, .int .u64 0, .slice none 0 0, .slice none 0 0] 26)
  have hblk := heap_alloc_new w (.cells #[.int .u8 0, .int .i64 0, .int .u64 0, .int .u64 0, .int .u64 0, .int .u64 0, .int .u64 0, .slice none 0 0, .slice none 0 0] 26)
  have hz : w.heap.size < (w.alloc (.cells #[.int .u8 0, .int .i64 0, .int .u64 0, .int .u64 0, .int .u64 0, .int .u64 0, .int .u64 0, .slice none 0 0, .slice none 0 0] 26)).heap.size := by simp
  have hs1 := HS.out.onA (.cells #[.int .u8 0, .int .i64 0, .int .u64 0, .int .u64 0, .int .u64 0, .int .u64 0, .int .u64 0, .slice none 0 0, .slice none 0 0] 26)
  have ht1 := HT.out.alloc (.cells #[.int .u8 0, .int .i64 0, .int .u64 0, .int .u64 0, .int .u64 0, .int .u64 0, .int .u64 0, .slice none 0 0, .slice none 0 0] 26)
  generalize w.alloc (.cells #[.int .u8 0, .int .i64 0, .int .u64 0, .int .u64 0, .int .u64 0, .int .u64 0, .int .u64 0, .slice none 0 0, .slice none 0 0] 26) = wb at *
  refine (open_any wb A n c l ht1 hs1 (by have := HL.out; omega)).mono ?_
  rintro e w2 ⟨A2, n2, c2, rfl, hs2, hb2⟩
  rw [HE.out]
  have HS2 := Lib.hid hs2
  have HK2 := Lib.hid ((hb2.block w.heap.size hz).trans hblk)
  have HB2 : Hid (Below w.heap.size w w2) := hbx.trans (hb2.mono hbx.size)
  have HZ2 : Hid (w.heap.size < w2.heap.size) := Nat.lt_of_lt_of_le hz hb2.size
  clear hbx hblk hz hs1 ht1 hb2 hs2 HS HT HE
  go_wp2_with fail
  refine (of_any w2 A2 n2 c2 (opn l).1 HS2.out (by have := HO.out; have := HL.out; omega)).mono ?_
  rintro e w3 ⟨g, A3, n3, c3, hg, rfl, hin3, hb3⟩
  have HC := Lib.hid (getF_any hin3)
  rw [HM.out] at HC
  have HGZ : Hid (w.heap.size < g) := Nat.lt_of_lt_of_le HZ2.out hg
  have HGL := Lib.hid hin3.lt
  have HK3 := Lib.hid ((hb3.block w.heap.size HZ2.out).trans HK2.out)
  have HB3 : Hid (Below w.heap.size w w3) := HB2.out.trans (hb3.mono HB2.out.size)
  have HZ3 : Hid (w.heap.size < w3.heap.size) := Nat.lt_of_lt_of_le HZ2.out hb3.size
  clear hin3 hb3 hg HK2 HB2 HZ2 HS2 HM HO HL
  go_wp2_with fail
  refine HC.out.mono ?_
  rintro e w4 ⟨k, rfl, hk, hnw, ⟨A4, n4, c4, hin4⟩, hgr4⟩
  have HK := Lib.hid hk
  have HK4 := Lib.hid (box_kept HK3.out hgr4 (by have := HGZ.out; omega))
  have HB4 : Hid (Below w.heap.size w w4) := below_grown HB3.out hgr4 (by have := HGZ.out; omega) (by have := HZ3.out; omega)
  have HZ4 : Hid (w3.heap.size ≤ w4.heap.size) := hgr4.size
  have HW4 := Lib.hid hnw
  have HI4 := Lib.hid hin4
  clear hk hnw hin4 hgr4 HC HK3 HB3
  unfold Fv.v
  go_wp2_with fail
  change Calls _ _ _ (w4.alloc k.box) _
  have HBF := Lib.hid (below_box w4 k.box)
  have HF := Lib.hid (heap_alloc_new w4 k.box)
  have HI5 := Lib.hid (HI4.out.below HBF.out HI4.out.lt)
  have HW5 := Lib.hid (HW4.out.kept (only_below HBF.out (some g)) (by have := HGL.out; omega))
  have HK5 := Lib.hid ((HBF.out.block w.heap.size (by have := HZ3.out; have := HZ4.out; omega)).trans HK4.out)
  have HB5 : Hid (Below w.heap.size w (w4.alloc k.box)) := HB4.out.trans (HBF.out.mono HB4.out.size)
  have HZ5 : Hid (w4.heap.size < (w4.alloc k.box).heap.size) := by show _ < _; simp
  clear HBF HI4 HW4 HK4 HB4
  generalize w4.alloc k.box = w5 at *
  refine (end_any HI5.out).mono ?_
  rintro e w6 ⟨A6, n6, c6, rfl, hin6, hgr6⟩
  have hne : g ≠ w4.heap.size := by have := HGL.out; have := HZ4.out; omega
  have hF6 := box_kept HF.out hgr6 hne
  have hK6 := box_kept HK5.out hgr6 (by have := HGZ.out; omega)
  have HW6 := Lib.hid (HW5.out.kept hgr6 HGL.out)
  have HB6 : Hid (Below w.heap.size w w6) := below_grown HB5.out hgr6 (by have := HGZ.out; omega) (by have := HZ3.out; have := HZ4.out; have := HZ5.out; omega)
  have HZ6 : Hid (w5.heap.size ≤ w6.heap.size) := hgr6.size
  rw [HN.out]
  have qA : ∀ i, w6.cell? ⟨w4.heap.size, i, none⟩ = (#[Value.int .u8 (k.kd : Int), .int .i64 k.ag, .int .u64 (k.ep : Int), .int .u64 (k.ic : Int), .int .u64 (k.ba : Int), .int .u64 (k.cu : Int), .int .u64 (k.li : Int), .slice k.Ar k.nr k.cr, .slice k.Ai k.ni k.ci] : Array Value)[i]? := fun i => cell_of_row w6 _ i _ _ _ hF6
  obtain ⟨q0, q1, q2, q3, q4, q5, q6, q7, q8⟩ : w6.cell? ⟨w4.heap.size, 0, none⟩ = some (.int .u8 (k.kd : Int)) ∧ w6.cell? ⟨w4.heap.size, 1, none⟩ = some (.int .i64 k.ag) ∧ w6.cell? ⟨w4.heap.size, 2, none⟩ = some (.int .u64 (k.ep : Int)) ∧ w6.cell? ⟨w4.heap.size, 3, none⟩ = some (.int .u64 (k.ic : Int)) ∧ w6.cell? ⟨w4.heap.size, 4, none⟩ = some (.int .u64 (k.ba : Int)) ∧ w6.cell? ⟨w4.heap.size, 5, none⟩ = some (.int .u64 (k.cu : Int)) ∧ w6.cell? ⟨w4.heap.size, 6, none⟩ = some (.int .u64 (k.li : Int)) ∧ w6.cell? ⟨w4.heap.size, 7, none⟩ = some (.slice k.Ar k.nr k.cr) ∧ w6.cell? ⟨w4.heap.size, 8, none⟩ = some (.slice k.Ai k.ni k.ci) := ⟨qA 0, qA 1, qA 2, qA 3, qA 4, qA 5, qA 6, qA 7, qA 8⟩
  have HF6 := Lib.hid hF6
  have HK6 := Lib.hid hK6
  clear hin6 hgr6 hne hF6 hK6 qA HI5 HW5 HK5 HB5 HF HN
  go_wp2_with fail
  have hc := rightF_any w6 k HW6.out.fr
  rw [HK.out] at hc
  refine hc.mono ?_
  rintro e w7 ⟨rfl, hb7⟩
  have hK7 := (hb7.block w.heap.size (by have := HZ3.out; have := HZ4.out; have := HZ5.out; have := HZ6.out; omega)).trans HK6.out
  have hF7 := (hb7.block w4.heap.size (by have := HZ5.out; have := HZ6.out; omega)).trans HF6.out
  have HBW : Hid (Below w.heap.size w w7) := HB6.out.trans (hb7.mono HB6.out.size)
  rw [decP_yes HR.out]
  have HW7 := Lib.hid (HW6.out.kept (only_below hb7 (some g)) (by have := HGL.out; omega))
  have pA : ∀ i, w7.cell? ⟨w.heap.size, i, none⟩ = (#[Value.int .u8 0, .int .i64 0, .int .u64 0, .int .u64 0, .int .u64 0, .int .u64 0, .int .u64 0, .slice none 0 0, .slice none 0 0] : Array Value)[i]? := fun i => cell_of_row w7 _ i _ _ _ hK7
  obtain ⟨p0, p1, p2, p3, p4, p5, p6, p7, p8⟩ : w7.cell? ⟨w.heap.size, 0, none⟩ = some (.int .u8 0) ∧ w7.cell? ⟨w.heap.size, 1, none⟩ = some (.int .i64 0) ∧ w7.cell? ⟨w.heap.size, 2, none⟩ = some (.int .u64 0) ∧ w7.cell? ⟨w.heap.size, 3, none⟩ = some (.int .u64 0) ∧ w7.cell? ⟨w.heap.size, 4, none⟩ = some (.int .u64 0) ∧ w7.cell? ⟨w.heap.size, 5, none⟩ = some (.int .u64 0) ∧ w7.cell? ⟨w.heap.size, 6, none⟩ = some (.int .u64 0) ∧ w7.cell? ⟨w.heap.size, 7, none⟩ = some (.slice none 0 0) ∧ w7.cell? ⟨w.heap.size, 8, none⟩ = some (.slice none 0 0) := ⟨pA 0, pA 1, pA 2, pA 3, pA 4, pA 5, pA 6, pA 7, pA 8⟩
  obtain ⟨f0, f1, f2, f3, f4, f5, f6, f7, f8⟩ : w7.frozen? ⟨w.heap.size, 0, none⟩ = false ∧ w7.frozen? ⟨w.heap.size, 1, none⟩ = false ∧ w7.frozen? ⟨w.heap.size, 2, none⟩ = false ∧ w7.frozen? ⟨w.heap.size, 3, none⟩ = false ∧ w7.frozen? ⟨w.heap.size, 4, none⟩ = false ∧ w7.frozen? ⟨w.heap.size, 5, none⟩ = false ∧ w7.frozen? ⟨w.heap.size, 6, none⟩ = false ∧ w7.frozen? ⟨w.heap.size, 7, none⟩ = false ∧ w7.frozen? ⟨w.heap.size, 8, none⟩ = false := ⟨frz_block (i := 0) hK7, frz_block (i := 1) hK7, frz_block (i := 2) hK7, frz_block (i := 3) hK7, frz_block (i := 4) hK7, frz_block (i := 5) hK7, frz_block (i := 6) hK7, frz_block (i := 7) hK7, frz_block (i := 8) hK7⟩
  have sA : ∀ i, w7.cell? ⟨w4.heap.size, i, none⟩ = (#[Value.int .u8 (k.kd : Int), .int .i64 k.ag, .int .u64 (k.ep : Int), .int .u64 (k.ic : Int), .int .u64 (k.ba : Int), .int .u64 (k.cu : Int), .int .u64 (k.li : Int), .slice k.Ar k.nr k.cr, .slice k.Ai k.ni k.ci] : Array Value)[i]? := fun i => cell_of_row w7 _ i _ _ _ hF7
  obtain ⟨s0, s1, s2, s3, s4, s5, s6, s7, s8⟩ : w7.cell? ⟨w4.heap.size, 0, none⟩ = some (.int .u8 (k.kd : Int)) ∧ w7.cell? ⟨w4.heap.size, 1, none⟩ = some (.int .i64 k.ag) ∧ w7.cell? ⟨w4.heap.size, 2, none⟩ = some (.int .u64 (k.ep : Int)) ∧ w7.cell? ⟨w4.heap.size, 3, none⟩ = some (.int .u64 (k.ic : Int)) ∧ w7.cell? ⟨w4.heap.size, 4, none⟩ = some (.int .u64 (k.ba : Int)) ∧ w7.cell? ⟨w4.heap.size, 5, none⟩ = some (.int .u64 (k.cu : Int)) ∧ w7.cell? ⟨w4.heap.size, 6, none⟩ = some (.int .u64 (k.li : Int)) ∧ w7.cell? ⟨w4.heap.size, 7, none⟩ = some (.slice k.Ar k.nr k.cr) ∧ w7.cell? ⟨w4.heap.size, 8, none⟩ = some (.slice k.Ai k.ni k.ci) := ⟨sA 0, sA 1, sA 2, sA 3, sA 4, sA 5, sA 6, sA 7, sA 8⟩
  have HB9 := Lib.hid (set9_heap (.int .u8 (k.kd : Int)) (.int .i64 k.ag) (.int .u64 (k.ep : Int)) (.int .u64 (k.ic : Int)) (.int .u64 (k.ba : Int)) (.int .u64 (k.cu : Int)) (.int .u64 (k.li : Int)) (.slice k.Ar k.nr k.cr) (.slice k.Ai k.ni k.ci) hK7)
  have HNR : Hid (w.heap.size < w3.heap.size) := HZ3
  clear hb7 hK7 hF7 pA sA hc HF6 HK6 HW6 HB6 q0 q1 q2 q3 q4 q5 q6 q7 q8
  go_wp2
  have hr : ∀ i, (set9 w7 w.heap.size (.int .u8 (k.kd : Int)) (.int .i64 k.ag) (.int .u64 (k.ep : Int)) (.int .u64 (k.ic : Int)) (.int .u64 (k.ba : Int)) (.int .u64 (k.cu : Int)) (.int .u64 (k.li : Int)) (.slice k.Ar k.nr k.cr) (.slice k.Ai k.ni k.ci)).cell? ⟨w.heap.size, i, none⟩ = (#[Value.int .u8 (k.kd : Int), .int .i64 k.ag, .int .u64 (k.ep : Int), .int .u64 (k.ic : Int), .int .u64 (k.ba : Int), .int .u64 (k.cu : Int), .int .u64 (k.li : Int), .slice k.Ar k.nr k.cr, .slice k.Ai k.ni k.ci] : Array Value)[i]? := fun i => cell_of_row _ _ i _ _ _ HB9.out
  have hb9 := set9_below (.int .u8 (k.kd : Int)) (.int .i64 k.ag) (.int .u64 (k.ep : Int)) (.int .u64 (k.ic : Int)) (.int .u64 (k.ba : Int)) (.int .u64 (k.cu : Int)) (.int .u64 (k.li : Int)) (.slice k.Ar k.nr k.cr) (.slice k.Ai k.ni k.ci) HBW.out (Nat.le_refl _)
  have hw9 := HW7.out.set9 HNR.out (.int .u8 (k.kd : Int)) (.int .i64 k.ag) (.int .u64 (k.ep : Int)) (.int .u64 (k.ic : Int)) (.int .u64 (k.ba : Int)) (.int .u64 (k.cu : Int)) (.int .u64 (k.li : Int)) (.slice k.Ar k.nr k.cr) (.slice k.Ai k.ni k.ci)
  change bodyPost _ _ _ _ _ (set9 w7 w.heap.size (.int .u8 (k.kd : Int)) (.int .i64 k.ag) (.int .u64 (k.ep : Int)) (.int .u64 (k.ic : Int)) (.int .u64 (k.ba : Int)) (.int .u64 (k.cu : Int)) (.int .u64 (k.li : Int)) (.slice k.Ar k.nr k.cr) (.slice k.Ai k.ni k.ci))
  generalize (set9 w7 w.heap.size (.int .u8 (k.kd : Int)) (.int .i64 k.ag) (.int .u64 (k.ep : Int)) (.int .u64 (k.ic : Int)) (.int .u64 (k.ba : Int)) (.int .u64 (k.cu : Int)) (.int .u64 (k.li : Int)) (.slice k.Ar k.nr k.cr) (.slice k.Ai k.ni k.ci)) = wz at *
  refine bodyPost_ret (v := .tuple #[.agg #[Value.int .u8 (k.kd : Int), .int .i64 k.ag, .int .u64 (k.ep : Int), .int .u64 (k.ic : Int), .int .u64 (k.ba : Int), .int .u64 (k.cu : Int), .int .u64 (k.li : Int), .slice k.Ar k.nr k.cr, .slice k.Ai k.ni k.ci], .int .i64 0]) (by simp [results, Tryd.results19, go_sem, hr]) rfl ?_
  exact ⟨k, by rw [HD.out]; rfl, by rw [HD.out]; exact HK.out, hw9.fr, hb9⟩

theorem decode_any (w : World) (ht : TabAt w) (A : Option Addr) (n c : Nat) (l : List UInt8) (hs : Sl w w.heap.size A n c l) :
    Calls Tryd.prog 19 #[.slice A n c] w (DecPost w l) := by
  by_cases hl : 65507 < l.length
  · exact decode_long w A n c l hs hl
  by_cases h2 : (opn l).2 = 0
  · obtain ⟨⟨m, l2, e2⟩, hm⟩ : ∃ x, getM (opn l).1 = x := ⟨_, rfl⟩
    by_cases he : endN l2 e2 = 0
    · by_cases hr : RightP m
      · exact decode_ok w ht A n c l hs (by omega) h2 hm he hr
      · exact decode_arg w ht A n c l hs (by omega) h2 hm he hr
    · exact decode_end w ht A n c l hs (by omega) h2 hm he
  · refine (decode_bad w ht A n c l hs (by omega) _ rfl h2).mono ?_
    rintro e w' ⟨rfl, hb⟩
    refine ⟨zeroF, ?_, ?_, zeroF_at _, hb⟩
    · rw [dec_bad hl h2]
    · rw [dec_bad hl h2]; rfl
end Go.Proofs.YtlkcnpmgafckoaaDoor
