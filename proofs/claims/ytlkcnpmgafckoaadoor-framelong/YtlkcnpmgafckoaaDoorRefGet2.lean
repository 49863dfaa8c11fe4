/-
  CONTRACT of the reference of layer 5: its Decode.
  No statement is proved here.
-/
import Derived.Test.YtlkcnpmgafckoaaDoorRefGet1
namespace Go.Proofs.YtlkcnpmgafckoaaDoor
open Go.RowKit

/-- What the reference's Decode answers. -/
def RDecPost (w : World) (l : List UInt8) (e : Ending) (w' : World) : Prop :=
  ∃ k : Fv, e = .returned (.tuple #[k.r, .int .i64 ((decM l).2 : Int)]) ∧ k.m = (decM l).1 ∧ FrAt w' k ∧ Below w.heap.size w w'
def RAnsRel (w0 : World) (g F kd : Nat) (ag : Int) (ep ic cu li : Nat) (l : List UInt8) (er N gk : Nat) (i : Value) (wr : World) : Prop :=
  ∃ (j : Nat) (A : Option Addr) (n cp : Nat), gk + j = N ∧ i = .int .i64 (gk : Int) ∧ Gr w0 wr g F (ansF kd ag ep ic cu li A n cp (stRuns l er j).1) (stRuns l er j).2.1 (stRuns l er j).2.2
def RBatRel (w0 : World) (g F kd : Nat) (ag : Int) (ep ic ba : Nat) (l : List UInt8) (er N gk : Nat) (i : Value) (wr : World) : Prop :=
  ∃ (j : Nat) (A : Option Addr) (n cp : Nat) (ks : List Ik), gk + j = N ∧ i = .int .i64 (gk : Int) ∧ ks.map Ik.it = (stItems l er j).1 ∧ Gr w0 wr g F (batF kd ag ep ic ba A n cp ks) (stItems l er j).2.1 (stItems l er j).2.2
theorem rrun_info' : (Tryd.prog.info? 76).map (fun i => (i.zero, i.size, i.bytes)) = some (some (.agg #[.int .u64 0, .int .u64 0]), 2, 16) := by kernel_rfl
theorem stByte_er {l l1 : List UInt8} {k e1 : Nat} (h : stByte l 0 = (k, l1, e1)) : e1 = 0 ∨ e1 = 2 := by
  unfold stByte at h
  rw [if_pos rfl] at h
  cases l with
  | nil => injection h with _ h; injection h with _ h; exact .inr h.symm
  | cons a t => injection h with _ h; injection h with _ h; exact .inl h.symm
theorem dec_kind {l l1 : List UInt8} {kd e1 : Nat} (h : ¬ 65507 < l.length) (h2 : (opn l).2 = 0) (h1 : stByte (opn l).1 0 = (kd, l1, e1)) (hkd : ¬ (1 ≤ kd ∧ kd ≤ 4)) : decM l = (zeroM, 2) := by
  have hg : getM (opn l).1 = (zeroM, l1, failN e1 2) := by simp only [getM, h1]; rw [if_neg hkd]
  have hf : failN e1 2 = 2 := by rcases stByte_er h1 with rfl | rfl <;> rfl
  rw [hf] at hg
  have he : endN l1 2 = 2 := by unfold endN failN; split <;> simp
  have := dec_end h h2 hg (by rw [he]; omega)
  rw [this, he]


set_option maxRecDepth 100000 in
set_option maxHeartbeats 4000000 in
theorem refDec0_any (w : World) (A : Option Addr) (n c : Nat) (l : List UInt8) (hs : Sl w w.heap.size A n c l) (hl : l.length ≤ 65507) {l1 : List UInt8} {e1 kd : Nat} (h2 : (opn l).2 = 0) (h1 : stByte (opn l).1 0 = (kd, l1, e1)) (hkd : ¬ (1 ≤ kd ∧ kd ≤ 4)) :
    Calls Tryd.prog 22 #[.slice A n c] w (RDecPost w l) := by
  have hk256 := stByte_lt h1
  have HD := Lib.hid (dec_kind (by omega) h2 h1 hkd)
  have hwk : IntKind.i64.wrap (kd : Int) = (kd : Int) := by rw [IntKind.wrap_i64]; omega
  have HKD := Lib.hid hkd
  have HK256 := Lib.hid hk256
  clear hk256 hkd
  have hln := hs.len
  have HS := Lib.hid hs
  have HE := Lib.hid h2
  have HL := Lib.hid hl
  have HO := Lib.hid (opn_short l)
  have HB1 := Lib.hid h1
  have hlI : ¬ (65507 : Int) < (n : Int) := by omega
  clear hs h2 hl hln h1 
  go_enter Tryd.func22, Tryd.ntmps22
  go_wp2_with fail
  have hbx := below_box w (.cells #[.int .i64 0, .int .i64 0, .int .u64 0, .int .u64 0, .int .u64 0, .int .u64 0, .int .u64 0, .slice none 0 0, .slice none 0 0] 33)
  have hblk := heap_alloc_new w (.cells #[.int .i64 0, .int .i64 0, .int .u64 0, .int .u64 0, .int .u64 0, .int .u64 0, .int .u64 0, .slice none 0 0, .slice none 0 0] 33)
  have hz : w.heap.size < (w.alloc (.cells #[.int .i64 0, .int .i64 0, .int .u64 0, .int .u64 0, .int .u64 0, .int .u64 0, .int .u64 0, .slice none 0 0, .slice none 0 0] 33)).heap.size := by simp
  have hs1 := HS.out.onA (.cells #[.int .i64 0, .int .i64 0, .int .u64 0, .int .u64 0, .int .u64 0, .int .u64 0, .int .u64 0, .slice none 0 0, .slice none 0 0] 33)
  generalize w.alloc (.cells #[.int .i64 0, .int .i64 0, .int .u64 0, .int .u64 0, .int .u64 0, .int .u64 0, .int .u64 0, .slice none 0 0, .slice none 0 0] 33) = wb at *
  refine (refOpen_any wb A n c l hs1 (by have := HL.out; omega)).mono ?_
  rintro e w2 ⟨A2, n2, c2, rfl, hs2, hb2⟩
  rw [HE.out]
  have HS2 := Lib.hid hs2
  have HK2 := Lib.hid ((hb2.block w.heap.size hz).trans hblk)
  have HB2 : Hid (Below w.heap.size w w2) := hbx.trans (hb2.mono hbx.size)
  have HZ2 : Hid (w.heap.size < w2.heap.size) := Nat.lt_of_lt_of_le hz hb2.size
  clear hbx hblk hz hs1 hb2 hs2 HS
  go_wp2_with fail
  have HIN : Hid (RefAt (w2.alloc (.cells #[.slice A2 n2 c2, .int .i64 0, .int .i64 0] 92)) w2.heap.size A2 n2 c2 0 0 (opn l).1) := ⟨heap_alloc_new w2 _, HS2.out.below (below_box w2 _) (Nat.le_refl _), Nat.zero_le _, by have := HO.out; have := HL.out; omega⟩
  have HK3 := Lib.hid (((below_box w2 (.cells #[.slice A2 n2 c2, .int .i64 0, .int .i64 0] 92)).block w.heap.size HZ2.out).trans HK2.out)
  have HB3 : Hid (Below w.heap.size w (w2.alloc (.cells #[.slice A2 n2 c2, .int .i64 0, .int .i64 0] 92))) := HB2.out.trans ((below_box w2 _).mono HB2.out.size)
  have HZ3 : Hid ((w2.alloc (.cells #[.slice A2 n2 c2, .int .i64 0, .int .i64 0] 92)).heap.size = w2.heap.size + 1) := by show _ = _; simp
  clear HS2 HK2 HB2 HO
  generalize w2.alloc (.cells #[.slice A2 n2 c2, .int .i64 0, .int .i64 0] 92) = w3 at *
  have HCB := Lib.hid (refByte_any HIN.out)
  rw [List.drop_zero, HB1.out] at HCB
  refine HCB.out.mono ?_
  rintro e w4 ⟨a4, rfl, hin4, hd4, hgr4⟩
  have hzk := HZ3.out
  have hgz := hgr4.size
  have hgR : w2.heap.size ≠ w.heap.size := by have := HZ2.out; omega
  have hlo : ((kd : Int) < 1) ∨ ¬ ((kd : Int) < 1) := Classical.em _
  have HG := Lib.hid (gr_start (kd := kd) hin4 hd4 hgr4 (by omega) HK256.out)
  have hK5 := box_kept HK3.out HG.out.gr hgR
  have HBW : Hid (Below w.heap.size w (w4.alloc (.cells #[.int .i64 (kd : Int), .int .i64 0, .int .u64 0, .int .u64 0, .int .u64 0, .int .u64 0, .int .u64 0, .slice none 0 0, .slice none 0 0] 33))) := below_grown HB3.out HG.out.gr (by have := HZ2.out; omega) (by have := HZ2.out; omega)
  have HK5 : Hid ((w4.alloc (.cells #[.int .i64 (kd : Int), .int .i64 0, .int .u64 0, .int .u64 0, .int .u64 0, .int .u64 0, .int .u64 0, .slice none 0 0, .slice none 0 0] 33)).heap[w.heap.size]? = some (.cells #[.int .i64 0, .int .i64 0, .int .u64 0, .int .u64 0, .int .u64 0, .int .u64 0, .int .u64 0, .slice none 0 0, .slice none 0 0] 33 (0, 0))) := hK5
  have HQ : Hid ((w4.alloc (.cells #[.int .i64 (kd : Int), .int .i64 0, .int .u64 0, .int .u64 0, .int .u64 0, .int .u64 0, .int .u64 0, .slice none 0 0, .slice none 0 0] 33)).cell? ⟨w4.heap.size, 0, none⟩ = some (.int .i64 (kd : Int))) := HG.out.cellAt 0
  clear hin4 hd4 hgr4 hK5 HG hzk hgz HCB HIN HB1
  rcases hlo with hlo | hlo
  · have qn := HQ.out
    have pA : ∀ i, (w4.alloc (.cells #[.int .i64 (kd : Int), .int .i64 0, .int .u64 0, .int .u64 0, .int .u64 0, .int .u64 0, .int .u64 0, .slice none 0 0, .slice none 0 0] 33)).cell? ⟨w.heap.size, i, none⟩ = (#[Value.int .i64 0, .int .i64 0, .int .u64 0, .int .u64 0, .int .u64 0, .int .u64 0, .int .u64 0, .slice none 0 0, .slice none 0 0] : Array Value)[i]? := fun i => cell_of_row (w4.alloc (.cells #[.int .i64 (kd : Int), .int .i64 0, .int .u64 0, .int .u64 0, .int .u64 0, .int .u64 0, .int .u64 0, .slice none 0 0, .slice none 0 0] 33)) _ i _ _ _ HK5.out
    obtain ⟨p0, p1, p2, p3, p4, p5, p6, p7, p8⟩ : (w4.alloc (.cells #[.int .i64 (kd : Int), .int .i64 0, .int .u64 0, .int .u64 0, .int .u64 0, .int .u64 0, .int .u64 0, .slice none 0 0, .slice none 0 0] 33)).cell? ⟨w.heap.size, 0, none⟩ = some (.int .i64 0) ∧ (w4.alloc (.cells #[.int .i64 (kd : Int), .int .i64 0, .int .u64 0, .int .u64 0, .int .u64 0, .int .u64 0, .int .u64 0, .slice none 0 0, .slice none 0 0] 33)).cell? ⟨w.heap.size, 1, none⟩ = some (.int .i64 0) ∧ (w4.alloc (.cells #[.int .i64 (kd : Int), .int .i64 0, .int .u64 0, .int .u64 0, .int .u64 0, .int .u64 0, .int .u64 0, .slice none 0 0, .slice none 0 0] 33)).cell? ⟨w.heap.size, 2, none⟩ = some (.int .u64 0) ∧ (w4.alloc (.cells #[.int .i64 (kd : Int), .int .i64 0, .int .u64 0, .int .u64 0, .int .u64 0, .int .u64 0, .int .u64 0, .slice none 0 0, .slice none 0 0] 33)).cell? ⟨w.heap.size, 3, none⟩ = some (.int .u64 0) ∧ (w4.alloc (.cells #[.int .i64 (kd : Int), .int .i64 0, .int .u64 0, .int .u64 0, .int .u64 0, .int .u64 0, .int .u64 0, .slice none 0 0, .slice none 0 0] 33)).cell? ⟨w.heap.size, 4, none⟩ = some (.int .u64 0) ∧ (w4.alloc (.cells #[.int .i64 (kd : Int), .int .i64 0, .int .u64 0, .int .u64 0, .int .u64 0, .int .u64 0, .int .u64 0, .slice none 0 0, .slice none 0 0] 33)).cell? ⟨w.heap.size, 5, none⟩ = some (.int .u64 0) ∧ (w4.alloc (.cells #[.int .i64 (kd : Int), .int .i64 0, .int .u64 0, .int .u64 0, .int .u64 0, .int .u64 0, .int .u64 0, .slice none 0 0, .slice none 0 0] 33)).cell? ⟨w.heap.size, 6, none⟩ = some (.int .u64 0) ∧ (w4.alloc (.cells #[.int .i64 (kd : Int), .int .i64 0, .int .u64 0, .int .u64 0, .int .u64 0, .int .u64 0, .int .u64 0, .slice none 0 0, .slice none 0 0] 33)).cell? ⟨w.heap.size, 7, none⟩ = some (.slice none 0 0) ∧ (w4.alloc (.cells #[.int .i64 (kd : Int), .int .i64 0, .int .u64 0, .int .u64 0, .int .u64 0, .int .u64 0, .int .u64 0, .slice none 0 0, .slice none 0 0] 33)).cell? ⟨w.heap.size, 8, none⟩ = some (.slice none 0 0) := ⟨pA 0, pA 1, pA 2, pA 3, pA 4, pA 5, pA 6, pA 7, pA 8⟩
    obtain ⟨f0, f1, f2, f3, f4, f5, f6, f7, f8⟩ : (w4.alloc (.cells #[.int .i64 (kd : Int), .int .i64 0, .int .u64 0, .int .u64 0, .int .u64 0, .int .u64 0, .int .u64 0, .slice none 0 0, .slice none 0 0] 33)).frozen? ⟨w.heap.size, 0, none⟩ = false ∧ (w4.alloc (.cells #[.int .i64 (kd : Int), .int .i64 0, .int .u64 0, .int .u64 0, .int .u64 0, .int .u64 0, .int .u64 0, .slice none 0 0, .slice none 0 0] 33)).frozen? ⟨w.heap.size, 1, none⟩ = false ∧ (w4.alloc (.cells #[.int .i64 (kd : Int), .int .i64 0, .int .u64 0, .int .u64 0, .int .u64 0, .int .u64 0, .int .u64 0, .slice none 0 0, .slice none 0 0] 33)).frozen? ⟨w.heap.size, 2, none⟩ = false ∧ (w4.alloc (.cells #[.int .i64 (kd : Int), .int .i64 0, .int .u64 0, .int .u64 0, .int .u64 0, .int .u64 0, .int .u64 0, .slice none 0 0, .slice none 0 0] 33)).frozen? ⟨w.heap.size, 3, none⟩ = false ∧ (w4.alloc (.cells #[.int .i64 (kd : Int), .int .i64 0, .int .u64 0, .int .u64 0, .int .u64 0, .int .u64 0, .int .u64 0, .slice none 0 0, .slice none 0 0] 33)).frozen? ⟨w.heap.size, 4, none⟩ = false ∧ (w4.alloc (.cells #[.int .i64 (kd : Int), .int .i64 0, .int .u64 0, .int .u64 0, .int .u64 0, .int .u64 0, .int .u64 0, .slice none 0 0, .slice none 0 0] 33)).frozen? ⟨w.heap.size, 5, none⟩ = false ∧ (w4.alloc (.cells #[.int .i64 (kd : Int), .int .i64 0, .int .u64 0, .int .u64 0, .int .u64 0, .int .u64 0, .int .u64 0, .slice none 0 0, .slice none 0 0] 33)).frozen? ⟨w.heap.size, 6, none⟩ = false ∧ (w4.alloc (.cells #[.int .i64 (kd : Int), .int .i64 0, .int .u64 0, .int .u64 0, .int .u64 0, .int .u64 0, .int .u64 0, .slice none 0 0, .slice none 0 0] 33)).frozen? ⟨w.heap.size, 7, none⟩ = false ∧ (w4.alloc (.cells #[.int .i64 (kd : Int), .int .i64 0, .int .u64 0, .int .u64 0, .int .u64 0, .int .u64 0, .int .u64 0, .slice none 0 0, .slice none 0 0] 33)).frozen? ⟨w.heap.size, 8, none⟩ = false := ⟨frz_block (i := 0) HK5.out, frz_block (i := 1) HK5.out, frz_block (i := 2) HK5.out, frz_block (i := 3) HK5.out, frz_block (i := 4) HK5.out, frz_block (i := 5) HK5.out, frz_block (i := 6) HK5.out, frz_block (i := 7) HK5.out, frz_block (i := 8) HK5.out⟩
    have HB9 := Lib.hid (set9_heap (.int .i64 0) (.int .i64 0) (.int .u64 0) (.int .u64 0) (.int .u64 0) (.int .u64 0) (.int .u64 0) (.slice none 0 0) (.slice none 0 0) HK5.out)
    clear pA
    go_wp2
    have hr9 : ∀ i, (set9 (w4.alloc (.cells #[.int .i64 (kd : Int), .int .i64 0, .int .u64 0, .int .u64 0, .int .u64 0, .int .u64 0, .int .u64 0, .slice none 0 0, .slice none 0 0] 33)) w.heap.size (.int .i64 0) (.int .i64 0) (.int .u64 0) (.int .u64 0) (.int .u64 0) (.int .u64 0) (.int .u64 0) (.slice none 0 0) (.slice none 0 0)).cell? ⟨w.heap.size, i, none⟩ = (#[Value.int .i64 0, .int .i64 0, .int .u64 0, .int .u64 0, .int .u64 0, .int .u64 0, .int .u64 0, .slice none 0 0, .slice none 0 0] : Array Value)[i]? := fun i => cell_of_row _ _ i _ _ _ HB9.out
    have hb9 := set9_below (.int .i64 0) (.int .i64 0) (.int .u64 0) (.int .u64 0) (.int .u64 0) (.int .u64 0) (.int .u64 0) (.slice none 0 0) (.slice none 0 0) HBW.out (Nat.le_refl _)
    change bodyPost _ _ _ _ _ (set9 (w4.alloc (.cells #[.int .i64 (kd : Int), .int .i64 0, .int .u64 0, .int .u64 0, .int .u64 0, .int .u64 0, .int .u64 0, .slice none 0 0, .slice none 0 0] 33)) w.heap.size (.int .i64 0) (.int .i64 0) (.int .u64 0) (.int .u64 0) (.int .u64 0) (.int .u64 0) (.int .u64 0) (.slice none 0 0) (.slice none 0 0))
    generalize (set9 (w4.alloc (.cells #[.int .i64 (kd : Int), .int .i64 0, .int .u64 0, .int .u64 0, .int .u64 0, .int .u64 0, .int .u64 0, .slice none 0 0, .slice none 0 0] 33)) w.heap.size (.int .i64 0) (.int .i64 0) (.int .u64 0) (.int .u64 0) (.int .u64 0) (.int .u64 0) (.int .u64 0) (.slice none 0 0) (.slice none 0 0)) = wz at *
    refine bodyPost_ret (v := .tuple #[.agg #[Value.int .i64 0, .int .i64 0, .int .u64 0, .int .u64 0, .int .u64 0, .int .u64 0, .int .u64 0, .slice none 0 0, .slice none 0 0], .int .i64 2]) (by simp [results, Tryd.results22, go_sem, hr9]) rfl ?_
    exact ⟨zeroF, by rw [HD.out]; rfl, by rw [HD.out]; rfl, zeroF_at _, hb9⟩
  · have hhi : (4 : Int) < (kd : Int) := by have := HKD.out; omega
    have qn := HQ.out
    have pA : ∀ i, (w4.alloc (.cells #[.int .i64 (kd : Int), .int .i64 0, .int .u64 0, .int .u64 0, .int .u64 0, .int .u64 0, .int .u64 0, .slice none 0 0, .slice none 0 0] 33)).cell? ⟨w.heap.size, i, none⟩ = (#[Value.int .i64 0, .int .i64 0, .int .u64 0, .int .u64 0, .int .u64 0, .int .u64 0, .int .u64 0, .slice none 0 0, .slice none 0 0] : Array Value)[i]? := fun i => cell_of_row (w4.alloc (.cells #[.int .i64 (kd : Int), .int .i64 0, .int .u64 0, .int .u64 0, .int .u64 0, .int .u64 0, .int .u64 0, .slice none 0 0, .slice none 0 0] 33)) _ i _ _ _ HK5.out
    obtain ⟨p0, p1, p2, p3, p4, p5, p6, p7, p8⟩ : (w4.alloc (.cells #[.int .i64 (kd : Int), .int .i64 0, .int .u64 0, .int .u64 0, .int .u64 0, .int .u64 0, .int .u64 0, .slice none 0 0, .slice none 0 0] 33)).cell? ⟨w.heap.size, 0, none⟩ = some (.int .i64 0) ∧ (w4.alloc (.cells #[.int .i64 (kd : Int), .int .i64 0, .int .u64 0, .int .u64 0, .int .u64 0, .int .u64 0, .int .u64 0, .slice none 0 0, .slice none 0 0] 33)).cell? ⟨w.heap.size, 1, none⟩ = some (.int .i64 0) ∧ (w4.alloc (.cells #[.int .i64 (kd : Int), .int .i64 0, .int .u64 0, .int .u64 0, .int .u64 0, .int .u64 0, .int .u64 0, .slice none 0 0, .slice none 0 0] 33)).cell? ⟨w.heap.size, 2, none⟩ = some (.int .u64 0) ∧ (w4.alloc (.cells #[.int .i64 (kd : Int), .int .i64 0, .int .u64 0, .int .u64 0, .int .u64 0, .int .u64 0, .int .u64 0, .slice none 0 0, .slice none 0 0] 33)).cell? ⟨w.heap.size, 3, none⟩ = some (.int .u64 0) ∧ (w4.alloc (.cells #[.int .i64 (kd : Int), .int .i64 0, .int .u64 0, .int .u64 0, .int .u64 0, .int .u64 0, .int .u64 0, .slice none 0 0, .slice none 0 0] 33)).cell? ⟨w.heap.size, 4, none⟩ = some (.int .u64 0) ∧ (w4.alloc (.cells #[.int .i64 (kd : Int), .int .i64 0, .int .u64 0, .int .u64 0, .int .u64 0, .int .u64 0, .int .u64 0, .slice none 0 0, .slice none 0 0] 33)).cell? ⟨w.heap.size, 5, none⟩ = some (.int .u64 0) ∧ (w4.alloc (.cells #[.int .i64 (kd : Int), .int .i64 0, .int .u64 0, .int .u64 0, .int .u64 0, .int .u64 0, .int .u64 0, .slice none 0 0, .slice none 0 0] 33)).cell? ⟨w.heap.size, 6, none⟩ = some (.int .u64 0) ∧ (w4.alloc (.cells #[.int .i64 (kd : Int), .int .i64 0, .int .u64 0, .int .u64 0, .int .u64 0, .int .u64 0, .int .u64 0, .slice none 0 0, .slice none 0 0] 33)).cell? ⟨w.heap.size, 7, none⟩ = some (.slice none 0 0) ∧ (w4.alloc (.cells #[.int .i64 (kd : Int), .int .i64 0, .int .u64 0, .int .u64 0, .int .u64 0, .int .u64 0, .int .u64 0, .slice none 0 0, .slice none 0 0] 33)).cell? ⟨w.heap.size, 8, none⟩ = some (.slice none 0 0) := ⟨pA 0, pA 1, pA 2, pA 3, pA 4, pA 5, pA 6, pA 7, pA 8⟩
    obtain ⟨f0, f1, f2, f3, f4, f5, f6, f7, f8⟩ : (w4.alloc (.cells #[.int .i64 (kd : Int), .int .i64 0, .int .u64 0, .int .u64 0, .int .u64 0, .int .u64 0, .int .u64 0, .slice none 0 0, .slice none 0 0] 33)).frozen? ⟨w.heap.size, 0, none⟩ = false ∧ (w4.alloc (.cells #[.int .i64 (kd : Int), .int .i64 0, .int .u64 0, .int .u64 0, .int .u64 0, .int .u64 0, .int .u64 0, .slice none 0 0, .slice none 0 0] 33)).frozen? ⟨w.heap.size, 1, none⟩ = false ∧ (w4.alloc (.cells #[.int .i64 (kd : Int), .int .i64 0, .int .u64 0, .int .u64 0, .int .u64 0, .int .u64 0, .int .u64 0, .slice none 0 0, .slice none 0 0] 33)).frozen? ⟨w.heap.size, 2, none⟩ = false ∧ (w4.alloc (.cells #[.int .i64 (kd : Int), .int .i64 0, .int .u64 0, .int .u64 0, .int .u64 0, .int .u64 0, .int .u64 0, .slice none 0 0, .slice none 0 0] 33)).frozen? ⟨w.heap.size, 3, none⟩ = false ∧ (w4.alloc (.cells #[.int .i64 (kd : Int), .int .i64 0, .int .u64 0, .int .u64 0, .int .u64 0, .int .u64 0, .int .u64 0, .slice none 0 0, .slice none 0 0] 33)).frozen? ⟨w.heap.size, 4, none⟩ = false ∧ (w4.alloc (.cells #[.int .i64 (kd : Int), .int .i64 0, .int .u64 0, .int .u64 0, .int .u64 0, .int .u64 0, .int .u64 0, .slice none 0 0, .slice none 0 0] 33)).frozen? ⟨w.heap.size, 5, none⟩ = false ∧ (w4.alloc (.cells #[.int .i64 (kd : Int), .int .i64 0, .int .u64 0, .int .u64 0, .int .u64 0, .int .u64 0, .int .u64 0, .slice none 0 0, .slice none 0 0] 33)).frozen? ⟨w.heap.size, 6, none⟩ = false ∧ (w4.alloc (.cells #[.int .i64 (kd : Int), .int .i64 0, .int .u64 0, .int .u64 0, .int .u64 0, .int .u64 0, .int .u64 0, .slice none 0 0, .slice none 0 0] 33)).frozen? ⟨w.heap.size, 7, none⟩ = false ∧ (w4.alloc (.cells #[.int .i64 (kd : Int), .int .i64 0, .int .u64 0, .int .u64 0, .int .u64 0, .int .u64 0, .int .u64 0, .slice none 0 0, .slice none 0 0] 33)).frozen? ⟨w.heap.size, 8, none⟩ = false := ⟨frz_block (i := 0) HK5.out, frz_block (i := 1) HK5.out, frz_block (i := 2) HK5.out, frz_block (i := 3) HK5.out, frz_block (i := 4) HK5.out, frz_block (i := 5) HK5.out, frz_block (i := 6) HK5.out, frz_block (i := 7) HK5.out, frz_block (i := 8) HK5.out⟩
    have HB9 := Lib.hid (set9_heap (.int .i64 0) (.int .i64 0) (.int .u64 0) (.int .u64 0) (.int .u64 0) (.int .u64 0) (.int .u64 0) (.slice none 0 0) (.slice none 0 0) HK5.out)
    clear pA
    go_wp2
    have hr9 : ∀ i, (set9 (w4.alloc (.cells #[.int .i64 (kd : Int), .int .i64 0, .int .u64 0, .int .u64 0, .int .u64 0, .int .u64 0, .int .u64 0, .slice none 0 0, .slice none 0 0] 33)) w.heap.size (.int .i64 0) (.int .i64 0) (.int .u64 0) (.int .u64 0) (.int .u64 0) (.int .u64 0) (.int .u64 0) (.slice none 0 0) (.slice none 0 0)).cell? ⟨w.heap.size, i, none⟩ = (#[Value.int .i64 0, .int .i64 0, .int .u64 0, .int .u64 0, .int .u64 0, .int .u64 0, .int .u64 0, .slice none 0 0, .slice none 0 0] : Array Value)[i]? := fun i => cell_of_row _ _ i _ _ _ HB9.out
    have hb9 := set9_below (.int .i64 0) (.int .i64 0) (.int .u64 0) (.int .u64 0) (.int .u64 0) (.int .u64 0) (.int .u64 0) (.slice none 0 0) (.slice none 0 0) HBW.out (Nat.le_refl _)
    change bodyPost _ _ _ _ _ (set9 (w4.alloc (.cells #[.int .i64 (kd : Int), .int .i64 0, .int .u64 0, .int .u64 0, .int .u64 0, .int .u64 0, .int .u64 0, .slice none 0 0, .slice none 0 0] 33)) w.heap.size (.int .i64 0) (.int .i64 0) (.int .u64 0) (.int .u64 0) (.int .u64 0) (.int .u64 0) (.int .u64 0) (.slice none 0 0) (.slice none 0 0))
    generalize (set9 (w4.alloc (.cells #[.int .i64 (kd : Int), .int .i64 0, .int .u64 0, .int .u64 0, .int .u64 0, .int .u64 0, .int .u64 0, .slice none 0 0, .slice none 0 0] 33)) w.heap.size (.int .i64 0) (.int .i64 0) (.int .u64 0) (.int .u64 0) (.int .u64 0) (.int .u64 0) (.int .u64 0) (.slice none 0 0) (.slice none 0 0)) = wz at *
    refine bodyPost_ret (v := .tuple #[.agg #[Value.int .i64 0, .int .i64 0, .int .u64 0, .int .u64 0, .int .u64 0, .int .u64 0, .int .u64 0, .slice none 0 0, .slice none 0 0], .int .i64 2]) (by simp [results, Tryd.results22, go_sem, hr9]) rfl ?_
    exact ⟨zeroF, by rw [HD.out]; rfl, by rw [HD.out]; rfl, zeroF_at _, hb9⟩


set_option maxRecDepth 100000 in
set_option maxHeartbeats 4000000 in
theorem refDec1_any (w : World) (A : Option Addr) (n c : Nat) (l : List UInt8) (hs : Sl w w.heap.size A n c l) (hl : l.length ≤ 65507) {l1 : List UInt8} {e1 : Nat} (h2 : (opn l).2 = 0) (h1 : stByte (opn l).1 0 = (1, l1, e1)) :
    Calls Tryd.prog 22 #[.slice A n c] w (RDecPost w l) := by
  have hab := stMost_le l1 e1 15
  obtain ⟨⟨a, l2, e2⟩, H2⟩ : ∃ x, Hid (stMost l1 e1 15 = x) := ⟨_, rfl⟩
  rw [H2.out] at hab
  have HAB := Lib.hid (show a ≤ 64 by dsimp only at hab; omega)
  have HPB := Lib.hid (stNum_lt l2 e2)
  obtain ⟨⟨ep, l3, e3⟩, H3⟩ : ∃ x, Hid (stNum l2 e2 = x) := ⟨_, rfl⟩
  rw [H3.out] at HPB
  have HV1 := Lib.hid (stNum_lt l3 e3)
  obtain ⟨⟨v1, l4, e4⟩, H4⟩ : ∃ x, Hid (stNum l3 e3 = x) := ⟨_, rfl⟩
  rw [H4.out] at HV1
  have HX : Hid (getM (opn l).1 = (⟨1, (a : Int), ep, 0, v1, 0, 0, [], []⟩, l4, e4)) := by
    show _ = _
    simp only [getM, getK, getH, h1, H2.out, H3.out, H4.out]
    rfl
  have hln := hs.len
  have HS := Lib.hid hs
  have HE := Lib.hid h2
  have HL := Lib.hid hl
  have HO := Lib.hid (opn_short l)
  have HB1 := Lib.hid h1
  have hlI : ¬ (65507 : Int) < (n : Int) := by omega
  clear hs h2 hl hln h1 hab
  go_enter Tryd.func22, Tryd.ntmps22
  go_wp2_with fail
  have hbx := below_box w (.cells #[.int .i64 0, .int .i64 0, .int .u64 0, .int .u64 0, .int .u64 0, .int .u64 0, .int .u64 0, .slice none 0 0, .slice none 0 0] 33)
  have hblk := heap_alloc_new w (.cells #[.int .i64 0, .int .i64 0, .int .u64 0, .int .u64 0, .int .u64 0, .int .u64 0, .int .u64 0, .slice none 0 0, .slice none 0 0] 33)
  have hz : w.heap.size < (w.alloc (.cells #[.int .i64 0, .int .i64 0, .int .u64 0, .int .u64 0, .int .u64 0, .int .u64 0, .int .u64 0, .slice none 0 0, .slice none 0 0] 33)).heap.size := by simp
  have hs1 := HS.out.onA (.cells #[.int .i64 0, .int .i64 0, .int .u64 0, .int .u64 0, .int .u64 0, .int .u64 0, .int .u64 0, .slice none 0 0, .slice none 0 0] 33)
  generalize w.alloc (.cells #[.int .i64 0, .int .i64 0, .int .u64 0, .int .u64 0, .int .u64 0, .int .u64 0, .int .u64 0, .slice none 0 0, .slice none 0 0] 33) = wb at *
  refine (refOpen_any wb A n c l hs1 (by have := HL.out; omega)).mono ?_
  rintro e w2 ⟨A2, n2, c2, rfl, hs2, hb2⟩
  rw [HE.out]
  have HS2 := Lib.hid hs2
  have HK2 := Lib.hid ((hb2.block w.heap.size hz).trans hblk)
  have HB2 : Hid (Below w.heap.size w w2) := hbx.trans (hb2.mono hbx.size)
  have HZ2 : Hid (w.heap.size < w2.heap.size) := Nat.lt_of_lt_of_le hz hb2.size
  clear hbx hblk hz hs1 hb2 hs2 HS
  go_wp2_with fail
  have HIN : Hid (RefAt (w2.alloc (.cells #[.slice A2 n2 c2, .int .i64 0, .int .i64 0] 92)) w2.heap.size A2 n2 c2 0 0 (opn l).1) := ⟨heap_alloc_new w2 _, HS2.out.below (below_box w2 _) (Nat.le_refl _), Nat.zero_le _, by have := HO.out; have := HL.out; omega⟩
  have HK3 := Lib.hid (((below_box w2 (.cells #[.slice A2 n2 c2, .int .i64 0, .int .i64 0] 92)).block w.heap.size HZ2.out).trans HK2.out)
  have HB3 : Hid (Below w.heap.size w (w2.alloc (.cells #[.slice A2 n2 c2, .int .i64 0, .int .i64 0] 92))) := HB2.out.trans ((below_box w2 _).mono HB2.out.size)
  have HZ3 : Hid ((w2.alloc (.cells #[.slice A2 n2 c2, .int .i64 0, .int .i64 0] 92)).heap.size = w2.heap.size + 1) := by show _ = _; simp
  clear HS2 HK2 HB2 HO
  generalize w2.alloc (.cells #[.slice A2 n2 c2, .int .i64 0, .int .i64 0] 92) = w3 at *
  have HCB := Lib.hid (refByte_any HIN.out)
  rw [List.drop_zero, HB1.out] at HCB
  refine HCB.out.mono ?_
  rintro e w4 ⟨a4, rfl, hin4, hd4, hgr4⟩
  have HG := Lib.hid (gr_start (kd := 1) hin4 hd4 hgr4 (by have := HZ3.out; omega) (by omega))
  have qn : (w4.alloc (.cells #[.int .i64 1, .int .i64 0, .int .u64 0, .int .u64 0, .int .u64 0, .int .u64 0, .int .u64 0, .slice none 0 0, .slice none 0 0] 33)).cell? ⟨w4.heap.size, 0, none⟩ = some (.int .i64 1) := HG.out.cellAt 0
  clear hin4 hd4 hgr4 HCB HIN HB1
  go_wp2_with fail
  change Calls _ _ _ (w4.alloc (headF 1 0 0).rbox) _
  clear qn
  generalize (w4.alloc (headF 1 0 0).rbox) = w5 at *
  obtain ⟨Az, nz, cz, az, pz, hinz, hdz⟩ := HG.out.inn
  have HC := Lib.hid (refMost_any hinz 15 (by omega))
  rw [hdz, H2.out] at HC
  refine HC.out.mono ?_
  rintro e y1 ⟨ay, rfl, hiny, hdy, hgry⟩
  have HGy := Lib.hid (HG.out.next hiny hdy hgry)
  have qo : y1.cell? ⟨w4.heap.size, 1, none⟩ = some (.int .i64 0) := HGy.out.cellAt 1
  have fo := HGy.out.frz 1
  replace HG := Lib.hid (HGy.out.set_ag a HAB.out)
  clear hinz hdz HC hiny hdy hgry HGy
  go_wp2_with fail
  generalize (y1.setCell ⟨w4.heap.size, 1, none⟩ (.int .i64 (a : Int))) = x1 at *
  clear qo fo
  obtain ⟨Az, nz, cz, az, pz, hinz, hdz⟩ := HG.out.inn
  have HC := Lib.hid (refNumber_any hinz)
  rw [hdz, H3.out] at HC
  refine HC.out.mono ?_
  rintro e y2 ⟨ay, rfl, hiny, hdy, hgry⟩
  have HGy := Lib.hid (HG.out.next hiny hdy hgry)
  have qo : y2.cell? ⟨w4.heap.size, 2, none⟩ = some (.int .u64 0) := HGy.out.cellAt 2
  have fo := HGy.out.frz 2
  have qk : y2.cell? ⟨w4.heap.size, 0, none⟩ = some (.int .i64 1) := HGy.out.cellAt 0
  replace HG := Lib.hid (HGy.out.set_ep ep HPB.out)
  clear hinz hdz HC hiny hdy hgry HGy
  go_wp2_with fail
  generalize (y2.setCell ⟨w4.heap.size, 2, none⟩ (.int .u64 (ep : Int))) = x2 at *
  clear qo fo
  clear qk
  obtain ⟨Az, nz, cz, az, pz, hinz, hdz⟩ := HG.out.inn
  have HC := Lib.hid (refNumber_any hinz)
  rw [hdz, H4.out] at HC
  refine HC.out.mono ?_
  rintro e y3 ⟨ay, rfl, hiny, hdy, hgry⟩
  have HGy := Lib.hid (HG.out.next hiny hdy hgry)
  have qo : y3.cell? ⟨w4.heap.size, 4, none⟩ = some (.int .u64 0) := HGy.out.cellAt 4
  have fo := HGy.out.frz 4
  have qk : y3.cell? ⟨w4.heap.size, 0, none⟩ = some (.int .i64 1) := HGy.out.cellAt 0
  replace HG := Lib.hid (HGy.out.set_ba v1 HV1.out)
  clear hinz hdz HC hiny hdy hgry HGy
  go_wp2_with fail
  generalize (y3.setCell ⟨w4.heap.size, 4, none⟩ (.int .u64 (v1 : Int))) = x3 at *
  clear qo fo
  clear qk
  obtain ⟨k, hk⟩ : ∃ k : Fv, k = ⟨1, (a : Int), ep, 0, v1, 0, 0, none, 0, 0, [], none, 0, 0, []⟩ := ⟨_, rfl⟩
  have HNR : Hid (k.nr ≤ 40) := by rw [hk]; exact Nat.zero_le _
  have HNI : Hid (k.ni ≤ 70) := by rw [hk]; exact Nat.zero_le _
  have HM : Hid (getM (opn l).1 = (k.m, l4, e4)) := by rw [hk]; exact HX.out
  replace HG : Hid (Gr w3 x3 w2.heap.size w4.heap.size k l4 e4) := by rw [hk]; exact HG.out
  clear hk HX
  obtain ⟨Ae, ne, ce, ae, pe, hine, hde⟩ := HG.out.inn
  have hce := refEnd_any hine
  rw [hde] at hce
  refine hce.mono ?_
  rintro e w6 ⟨a6, rfl, hin6, hd6, hgr6⟩
  have HG6 := Lib.hid (HG.out.next hin6 hd6 hgr6)
  clear hce hine hde hin6 hd6 hgr6 HG
  have hgR : w2.heap.size ≠ w.heap.size := by have := HZ2.out; omega
  have hRF : w.heap.size < w4.heap.size := by have := HZ2.out; have := HG6.out.le; have := HG6.out.lt; omega
  by_cases he : endN l4 e4 = 0
  · rw [he]
    have qA : ∀ i, w6.cell? ⟨w4.heap.size, i, none⟩ = (#[Value.int .i64 (k.kd : Int), .int .i64 k.ag, .int .u64 (k.ep : Int), .int .u64 (k.ic : Int), .int .u64 (k.ba : Int), .int .u64 (k.cu : Int), .int .u64 (k.li : Int), .slice k.Ar k.nr k.cr, .slice k.Ai k.ni k.ci] : Array Value)[i]? := fun i => cell_of_row w6 _ i _ _ _ HG6.out.blk
    obtain ⟨q0, q1, q2, q3, q4, q5, q6, q7, q8⟩ : w6.cell? ⟨w4.heap.size, 0, none⟩ = some (.int .i64 (k.kd : Int)) ∧ w6.cell? ⟨w4.heap.size, 1, none⟩ = some (.int .i64 k.ag) ∧ w6.cell? ⟨w4.heap.size, 2, none⟩ = some (.int .u64 (k.ep : Int)) ∧ w6.cell? ⟨w4.heap.size, 3, none⟩ = some (.int .u64 (k.ic : Int)) ∧ w6.cell? ⟨w4.heap.size, 4, none⟩ = some (.int .u64 (k.ba : Int)) ∧ w6.cell? ⟨w4.heap.size, 5, none⟩ = some (.int .u64 (k.cu : Int)) ∧ w6.cell? ⟨w4.heap.size, 6, none⟩ = some (.int .u64 (k.li : Int)) ∧ w6.cell? ⟨w4.heap.size, 7, none⟩ = some (.slice k.Ar k.nr k.cr) ∧ w6.cell? ⟨w4.heap.size, 8, none⟩ = some (.slice k.Ai k.ni k.ci) := ⟨qA 0, qA 1, qA 2, qA 3, qA 4, qA 5, qA 6, qA 7, qA 8⟩
    have HE8 := Lib.hid he
    clear he qA
    go_wp2_with fail
    have hc := refRightF_any w6 k HG6.out.fr HNR.out HNI.out
    refine hc.mono ?_
    rintro e w7 ⟨rfl, hb7⟩
    have HG7 := Lib.hid (HG6.out.on hb7)
    have hK7 := box_kept HK3.out HG7.out.gr hgR
    have HBW : Hid (Below w.heap.size w w7) := below_grown HB3.out HG7.out.gr (by have := HZ2.out; omega) (by have := HZ2.out; have := HZ3.out; omega)
    clear hc hb7 HG6 q0 q1 q2 q3 q4 q5 q6 q7 q8
    by_cases hri : RightP k.m
    · rw [decP_yes hri]
      have pA : ∀ i, w7.cell? ⟨w.heap.size, i, none⟩ = (#[Value.int .i64 0, .int .i64 0, .int .u64 0, .int .u64 0, .int .u64 0, .int .u64 0, .int .u64 0, .slice none 0 0, .slice none 0 0] : Array Value)[i]? := fun i => cell_of_row w7 _ i _ _ _ hK7
      obtain ⟨p0, p1, p2, p3, p4, p5, p6, p7, p8⟩ : w7.cell? ⟨w.heap.size, 0, none⟩ = some (.int .i64 0) ∧ w7.cell? ⟨w.heap.size, 1, none⟩ = some (.int .i64 0) ∧ w7.cell? ⟨w.heap.size, 2, none⟩ = some (.int .u64 0) ∧ w7.cell? ⟨w.heap.size, 3, none⟩ = some (.int .u64 0) ∧ w7.cell? ⟨w.heap.size, 4, none⟩ = some (.int .u64 0) ∧ w7.cell? ⟨w.heap.size, 5, none⟩ = some (.int .u64 0) ∧ w7.cell? ⟨w.heap.size, 6, none⟩ = some (.int .u64 0) ∧ w7.cell? ⟨w.heap.size, 7, none⟩ = some (.slice none 0 0) ∧ w7.cell? ⟨w.heap.size, 8, none⟩ = some (.slice none 0 0) := ⟨pA 0, pA 1, pA 2, pA 3, pA 4, pA 5, pA 6, pA 7, pA 8⟩
      obtain ⟨f0, f1, f2, f3, f4, f5, f6, f7, f8⟩ : w7.frozen? ⟨w.heap.size, 0, none⟩ = false ∧ w7.frozen? ⟨w.heap.size, 1, none⟩ = false ∧ w7.frozen? ⟨w.heap.size, 2, none⟩ = false ∧ w7.frozen? ⟨w.heap.size, 3, none⟩ = false ∧ w7.frozen? ⟨w.heap.size, 4, none⟩ = false ∧ w7.frozen? ⟨w.heap.size, 5, none⟩ = false ∧ w7.frozen? ⟨w.heap.size, 6, none⟩ = false ∧ w7.frozen? ⟨w.heap.size, 7, none⟩ = false ∧ w7.frozen? ⟨w.heap.size, 8, none⟩ = false := ⟨frz_block (i := 0) hK7, frz_block (i := 1) hK7, frz_block (i := 2) hK7, frz_block (i := 3) hK7, frz_block (i := 4) hK7, frz_block (i := 5) hK7, frz_block (i := 6) hK7, frz_block (i := 7) hK7, frz_block (i := 8) hK7⟩
      have sA : ∀ i, w7.cell? ⟨w4.heap.size, i, none⟩ = (#[Value.int .i64 (k.kd : Int), .int .i64 k.ag, .int .u64 (k.ep : Int), .int .u64 (k.ic : Int), .int .u64 (k.ba : Int), .int .u64 (k.cu : Int), .int .u64 (k.li : Int), .slice k.Ar k.nr k.cr, .slice k.Ai k.ni k.ci] : Array Value)[i]? := fun i => cell_of_row w7 _ i _ _ _ HG7.out.blk
      obtain ⟨s0, s1, s2, s3, s4, s5, s6, s7, s8⟩ : w7.cell? ⟨w4.heap.size, 0, none⟩ = some (.int .i64 (k.kd : Int)) ∧ w7.cell? ⟨w4.heap.size, 1, none⟩ = some (.int .i64 k.ag) ∧ w7.cell? ⟨w4.heap.size, 2, none⟩ = some (.int .u64 (k.ep : Int)) ∧ w7.cell? ⟨w4.heap.size, 3, none⟩ = some (.int .u64 (k.ic : Int)) ∧ w7.cell? ⟨w4.heap.size, 4, none⟩ = some (.int .u64 (k.ba : Int)) ∧ w7.cell? ⟨w4.heap.size, 5, none⟩ = some (.int .u64 (k.cu : Int)) ∧ w7.cell? ⟨w4.heap.size, 6, none⟩ = some (.int .u64 (k.li : Int)) ∧ w7.cell? ⟨w4.heap.size, 7, none⟩ = some (.slice k.Ar k.nr k.cr) ∧ w7.cell? ⟨w4.heap.size, 8, none⟩ = some (.slice k.Ai k.ni k.ci) := ⟨sA 0, sA 1, sA 2, sA 3, sA 4, sA 5, sA 6, sA 7, sA 8⟩
      have HB9 := Lib.hid (set9_heap (.int .i64 (k.kd : Int)) (.int .i64 k.ag) (.int .u64 (k.ep : Int)) (.int .u64 (k.ic : Int)) (.int .u64 (k.ba : Int)) (.int .u64 (k.cu : Int)) (.int .u64 (k.li : Int)) (.slice k.Ar k.nr k.cr) (.slice k.Ai k.ni k.ci) hK7)
      have HD := Lib.hid (dec_ok (by have := HL.out; omega) HE.out HM.out HE8.out hri)
      clear hK7 pA sA hri
      go_wp2
      have hr9 : ∀ i, (set9 w7 w.heap.size (.int .i64 (k.kd : Int)) (.int .i64 k.ag) (.int .u64 (k.ep : Int)) (.int .u64 (k.ic : Int)) (.int .u64 (k.ba : Int)) (.int .u64 (k.cu : Int)) (.int .u64 (k.li : Int)) (.slice k.Ar k.nr k.cr) (.slice k.Ai k.ni k.ci)).cell? ⟨w.heap.size, i, none⟩ = (#[Value.int .i64 (k.kd : Int), .int .i64 k.ag, .int .u64 (k.ep : Int), .int .u64 (k.ic : Int), .int .u64 (k.ba : Int), .int .u64 (k.cu : Int), .int .u64 (k.li : Int), .slice k.Ar k.nr k.cr, .slice k.Ai k.ni k.ci] : Array Value)[i]? := fun i => cell_of_row _ _ i _ _ _ HB9.out
      have hb9 := set9_below (.int .i64 (k.kd : Int)) (.int .i64 k.ag) (.int .u64 (k.ep : Int)) (.int .u64 (k.ic : Int)) (.int .u64 (k.ba : Int)) (.int .u64 (k.cu : Int)) (.int .u64 (k.li : Int)) (.slice k.Ar k.nr k.cr) (.slice k.Ai k.ni k.ci) HBW.out (Nat.le_refl _)
      have hw9 := HG7.out.frSet hRF (.int .i64 (k.kd : Int)) (.int .i64 k.ag) (.int .u64 (k.ep : Int)) (.int .u64 (k.ic : Int)) (.int .u64 (k.ba : Int)) (.int .u64 (k.cu : Int)) (.int .u64 (k.li : Int)) (.slice k.Ar k.nr k.cr) (.slice k.Ai k.ni k.ci)
      change bodyPost _ _ _ _ _ (set9 w7 w.heap.size (.int .i64 (k.kd : Int)) (.int .i64 k.ag) (.int .u64 (k.ep : Int)) (.int .u64 (k.ic : Int)) (.int .u64 (k.ba : Int)) (.int .u64 (k.cu : Int)) (.int .u64 (k.li : Int)) (.slice k.Ar k.nr k.cr) (.slice k.Ai k.ni k.ci))
      generalize (set9 w7 w.heap.size (.int .i64 (k.kd : Int)) (.int .i64 k.ag) (.int .u64 (k.ep : Int)) (.int .u64 (k.ic : Int)) (.int .u64 (k.ba : Int)) (.int .u64 (k.cu : Int)) (.int .u64 (k.li : Int)) (.slice k.Ar k.nr k.cr) (.slice k.Ai k.ni k.ci)) = wz at *
      refine bodyPost_ret (v := .tuple #[.agg #[Value.int .i64 (k.kd : Int), .int .i64 k.ag, .int .u64 (k.ep : Int), .int .u64 (k.ic : Int), .int .u64 (k.ba : Int), .int .u64 (k.cu : Int), .int .u64 (k.li : Int), .slice k.Ar k.nr k.cr, .slice k.Ai k.ni k.ci], .int .i64 0]) (by simp [results, Tryd.results22, go_sem, hr9]) rfl ?_
      exact ⟨k, by rw [HD.out]; rfl, by rw [HD.out], hw9, hb9⟩
    · rw [decP_no hri]
      have pA : ∀ i, w7.cell? ⟨w.heap.size, i, none⟩ = (#[Value.int .i64 0, .int .i64 0, .int .u64 0, .int .u64 0, .int .u64 0, .int .u64 0, .int .u64 0, .slice none 0 0, .slice none 0 0] : Array Value)[i]? := fun i => cell_of_row w7 _ i _ _ _ hK7
      obtain ⟨p0, p1, p2, p3, p4, p5, p6, p7, p8⟩ : w7.cell? ⟨w.heap.size, 0, none⟩ = some (.int .i64 0) ∧ w7.cell? ⟨w.heap.size, 1, none⟩ = some (.int .i64 0) ∧ w7.cell? ⟨w.heap.size, 2, none⟩ = some (.int .u64 0) ∧ w7.cell? ⟨w.heap.size, 3, none⟩ = some (.int .u64 0) ∧ w7.cell? ⟨w.heap.size, 4, none⟩ = some (.int .u64 0) ∧ w7.cell? ⟨w.heap.size, 5, none⟩ = some (.int .u64 0) ∧ w7.cell? ⟨w.heap.size, 6, none⟩ = some (.int .u64 0) ∧ w7.cell? ⟨w.heap.size, 7, none⟩ = some (.slice none 0 0) ∧ w7.cell? ⟨w.heap.size, 8, none⟩ = some (.slice none 0 0) := ⟨pA 0, pA 1, pA 2, pA 3, pA 4, pA 5, pA 6, pA 7, pA 8⟩
      obtain ⟨f0, f1, f2, f3, f4, f5, f6, f7, f8⟩ : w7.frozen? ⟨w.heap.size, 0, none⟩ = false ∧ w7.frozen? ⟨w.heap.size, 1, none⟩ = false ∧ w7.frozen? ⟨w.heap.size, 2, none⟩ = false ∧ w7.frozen? ⟨w.heap.size, 3, none⟩ = false ∧ w7.frozen? ⟨w.heap.size, 4, none⟩ = false ∧ w7.frozen? ⟨w.heap.size, 5, none⟩ = false ∧ w7.frozen? ⟨w.heap.size, 6, none⟩ = false ∧ w7.frozen? ⟨w.heap.size, 7, none⟩ = false ∧ w7.frozen? ⟨w.heap.size, 8, none⟩ = false := ⟨frz_block (i := 0) hK7, frz_block (i := 1) hK7, frz_block (i := 2) hK7, frz_block (i := 3) hK7, frz_block (i := 4) hK7, frz_block (i := 5) hK7, frz_block (i := 6) hK7, frz_block (i := 7) hK7, frz_block (i := 8) hK7⟩
      have HB9 := Lib.hid (set9_heap (.int .i64 0) (.int .i64 0) (.int .u64 0) (.int .u64 0) (.int .u64 0) (.int .u64 0) (.int .u64 0) (.slice none 0 0) (.slice none 0 0) hK7)
      have HD := Lib.hid (dec_arg (by have := HL.out; omega) HE.out HM.out HE8.out hri)
      clear hK7 pA hri
      go_wp2
      have hr9 : ∀ i, (set9 w7 w.heap.size (.int .i64 0) (.int .i64 0) (.int .u64 0) (.int .u64 0) (.int .u64 0) (.int .u64 0) (.int .u64 0) (.slice none 0 0) (.slice none 0 0)).cell? ⟨w.heap.size, i, none⟩ = (#[Value.int .i64 0, .int .i64 0, .int .u64 0, .int .u64 0, .int .u64 0, .int .u64 0, .int .u64 0, .slice none 0 0, .slice none 0 0] : Array Value)[i]? := fun i => cell_of_row _ _ i _ _ _ HB9.out
      have hb9 := set9_below (.int .i64 0) (.int .i64 0) (.int .u64 0) (.int .u64 0) (.int .u64 0) (.int .u64 0) (.int .u64 0) (.slice none 0 0) (.slice none 0 0) HBW.out (Nat.le_refl _)
      change bodyPost _ _ _ _ _ (set9 w7 w.heap.size (.int .i64 0) (.int .i64 0) (.int .u64 0) (.int .u64 0) (.int .u64 0) (.int .u64 0) (.int .u64 0) (.slice none 0 0) (.slice none 0 0))
      generalize (set9 w7 w.heap.size (.int .i64 0) (.int .i64 0) (.int .u64 0) (.int .u64 0) (.int .u64 0) (.int .u64 0) (.int .u64 0) (.slice none 0 0) (.slice none 0 0)) = wz at *
      refine bodyPost_ret (v := .tuple #[.agg #[Value.int .i64 0, .int .i64 0, .int .u64 0, .int .u64 0, .int .u64 0, .int .u64 0, .int .u64 0, .slice none 0 0, .slice none 0 0], .int .i64 1]) (by simp [results, Tryd.results22, go_sem, hr9]) rfl ?_
      exact ⟨zeroF, by rw [HD.out]; rfl, by rw [HD.out]; rfl, zeroF_at _, hb9⟩
  · have HD := Lib.hid (dec_end (by have := HL.out; omega) HE.out HM.out he)
    have h0I : (((endN l4 e4 : Nat) : Int) != 0) = true := by simp; omega
    have hK6 := box_kept HK3.out HG6.out.gr hgR
    have HBW : Hid (Below w.heap.size w w6) := below_grown HB3.out HG6.out.gr (by have := HZ2.out; omega) (by have := HZ2.out; have := HZ3.out; omega)
    have pA : ∀ i, w6.cell? ⟨w.heap.size, i, none⟩ = (#[Value.int .i64 0, .int .i64 0, .int .u64 0, .int .u64 0, .int .u64 0, .int .u64 0, .int .u64 0, .slice none 0 0, .slice none 0 0] : Array Value)[i]? := fun i => cell_of_row w6 _ i _ _ _ hK6
    obtain ⟨p0, p1, p2, p3, p4, p5, p6, p7, p8⟩ : w6.cell? ⟨w.heap.size, 0, none⟩ = some (.int .i64 0) ∧ w6.cell? ⟨w.heap.size, 1, none⟩ = some (.int .i64 0) ∧ w6.cell? ⟨w.heap.size, 2, none⟩ = some (.int .u64 0) ∧ w6.cell? ⟨w.heap.size, 3, none⟩ = some (.int .u64 0) ∧ w6.cell? ⟨w.heap.size, 4, none⟩ = some (.int .u64 0) ∧ w6.cell? ⟨w.heap.size, 5, none⟩ = some (.int .u64 0) ∧ w6.cell? ⟨w.heap.size, 6, none⟩ = some (.int .u64 0) ∧ w6.cell? ⟨w.heap.size, 7, none⟩ = some (.slice none 0 0) ∧ w6.cell? ⟨w.heap.size, 8, none⟩ = some (.slice none 0 0) := ⟨pA 0, pA 1, pA 2, pA 3, pA 4, pA 5, pA 6, pA 7, pA 8⟩
    obtain ⟨f0, f1, f2, f3, f4, f5, f6, f7, f8⟩ : w6.frozen? ⟨w.heap.size, 0, none⟩ = false ∧ w6.frozen? ⟨w.heap.size, 1, none⟩ = false ∧ w6.frozen? ⟨w.heap.size, 2, none⟩ = false ∧ w6.frozen? ⟨w.heap.size, 3, none⟩ = false ∧ w6.frozen? ⟨w.heap.size, 4, none⟩ = false ∧ w6.frozen? ⟨w.heap.size, 5, none⟩ = false ∧ w6.frozen? ⟨w.heap.size, 6, none⟩ = false ∧ w6.frozen? ⟨w.heap.size, 7, none⟩ = false ∧ w6.frozen? ⟨w.heap.size, 8, none⟩ = false := ⟨frz_block (i := 0) hK6, frz_block (i := 1) hK6, frz_block (i := 2) hK6, frz_block (i := 3) hK6, frz_block (i := 4) hK6, frz_block (i := 5) hK6, frz_block (i := 6) hK6, frz_block (i := 7) hK6, frz_block (i := 8) hK6⟩
    have HB9 := Lib.hid (set9_heap (.int .i64 0) (.int .i64 0) (.int .u64 0) (.int .u64 0) (.int .u64 0) (.int .u64 0) (.int .u64 0) (.slice none 0 0) (.slice none 0 0) hK6)
    generalize endN l4 e4 = er8 at *
    clear hK6 pA he HG6
    go_wp2
    have hr9 : ∀ i, (set9 w6 w.heap.size (.int .i64 0) (.int .i64 0) (.int .u64 0) (.int .u64 0) (.int .u64 0) (.int .u64 0) (.int .u64 0) (.slice none 0 0) (.slice none 0 0)).cell? ⟨w.heap.size, i, none⟩ = (#[Value.int .i64 0, .int .i64 0, .int .u64 0, .int .u64 0, .int .u64 0, .int .u64 0, .int .u64 0, .slice none 0 0, .slice none 0 0] : Array Value)[i]? := fun i => cell_of_row _ _ i _ _ _ HB9.out
    have hb9 := set9_below (.int .i64 0) (.int .i64 0) (.int .u64 0) (.int .u64 0) (.int .u64 0) (.int .u64 0) (.int .u64 0) (.slice none 0 0) (.slice none 0 0) HBW.out (Nat.le_refl _)
    change bodyPost _ _ _ _ _ (set9 w6 w.heap.size (.int .i64 0) (.int .i64 0) (.int .u64 0) (.int .u64 0) (.int .u64 0) (.int .u64 0) (.int .u64 0) (.slice none 0 0) (.slice none 0 0))
    generalize (set9 w6 w.heap.size (.int .i64 0) (.int .i64 0) (.int .u64 0) (.int .u64 0) (.int .u64 0) (.int .u64 0) (.int .u64 0) (.slice none 0 0) (.slice none 0 0)) = wz at *
    refine bodyPost_ret (v := .tuple #[.agg #[Value.int .i64 0, .int .i64 0, .int .u64 0, .int .u64 0, .int .u64 0, .int .u64 0, .int .u64 0, .slice none 0 0, .slice none 0 0], .int .i64 (er8 : Int)]) (by simp [results, Tryd.results22, go_sem, hr9]) rfl ?_
    exact ⟨zeroF, by rw [HD.out]; rfl, by rw [HD.out]; rfl, zeroF_at _, hb9⟩


set_option maxRecDepth 100000 in
set_option maxHeartbeats 4000000 in
theorem refDec2_any (w : World) (A : Option Addr) (n c : Nat) (l : List UInt8) (hs : Sl w w.heap.size A n c l) (hl : l.length ≤ 65507) {l1 : List UInt8} {e1 : Nat} (h2 : (opn l).2 = 0) (h1 : stByte (opn l).1 0 = (2, l1, e1)) :
    Calls Tryd.prog 22 #[.slice A n c] w (RDecPost w l) := by
  have hab := stMost_le l1 e1 15
  obtain ⟨⟨a, l2, e2⟩, H2⟩ : ∃ x, Hid (stMost l1 e1 15 = x) := ⟨_, rfl⟩
  rw [H2.out] at hab
  have HAB := Lib.hid (show a ≤ 64 by dsimp only at hab; omega)
  have HPB := Lib.hid (stNum_lt l2 e2)
  obtain ⟨⟨ep, l3, e3⟩, H3⟩ : ∃ x, Hid (stNum l2 e2 = x) := ⟨_, rfl⟩
  rw [H3.out] at HPB
  have HV1 := Lib.hid (stNum_lt l3 e3)
  obtain ⟨⟨v1, l4, e4⟩, H4⟩ : ∃ x, Hid (stNum l3 e3 = x) := ⟨_, rfl⟩
  rw [H4.out] at HV1
  have HV2 := Lib.hid (stNum_lt l4 e4)
  obtain ⟨⟨v2, l5, e5⟩, H5⟩ : ∃ x, Hid (stNum l4 e4 = x) := ⟨_, rfl⟩
  rw [H5.out] at HV2
  have HV3 := Lib.hid (stNum_lt l5 e5)
  obtain ⟨⟨v3, l6, e6⟩, H6⟩ : ∃ x, Hid (stNum l5 e5 = x) := ⟨_, rfl⟩
  rw [H6.out] at HV3
  have hN := stMost_le l6 e6 32
  obtain ⟨⟨N, l7, e7⟩, H7⟩ : ∃ x, Hid (stMost l6 e6 32 = x) := ⟨_, rfl⟩
  rw [H7.out] at hN
  dsimp only at hN
  obtain ⟨i0, hi0, hz0, hz1, hz2⟩ := info_parts rrun_info'
  have HX : Hid (getM (opn l).1 = (⟨2, (a : Int), ep, v1, 0, v2, v3, (stRuns l7 e7 N).1, []⟩, (stRuns l7 e7 N).2.1, (stRuns l7 e7 N).2.2)) := by
    show _ = _
    simp only [getM, getK, getA, h1, H2.out, H3.out, H4.out, H5.out, H6.out, H7.out]
    rfl
  have hln := hs.len
  have HS := Lib.hid hs
  have HE := Lib.hid h2
  have HL := Lib.hid hl
  have HO := Lib.hid (opn_short l)
  have HB1 := Lib.hid h1
  have hlI : ¬ (65507 : Int) < (n : Int) := by omega
  clear hs h2 hl hln h1 hab
  go_enter Tryd.func22, Tryd.ntmps22
  go_wp2_with fail
  have hbx := below_box w (.cells #[.int .i64 0, .int .i64 0, .int .u64 0, .int .u64 0, .int .u64 0, .int .u64 0, .int .u64 0, .slice none 0 0, .slice none 0 0] 33)
  have hblk := heap_alloc_new w (.cells #[.int .i64 0, .int .i64 0, .int .u64 0, .int .u64 0, .int .u64 0, .int .u64 0, .int .u64 0, .slice none 0 0, .slice none 0 0] 33)
  have hz : w.heap.size < (w.alloc (.cells #[.int .i64 0, .int .i64 0, .int .u64 0, .int .u64 0, .int .u64 0, .int .u64 0, .int .u64 0, .slice none 0 0, .slice none 0 0] 33)).heap.size := by simp
  have hs1 := HS.out.onA (.cells #[.int .i64 0, .int .i64 0, .int .u64 0, .int .u64 0, .int .u64 0, .int .u64 0, .int .u64 0, .slice none 0 0, .slice none 0 0] 33)
  generalize w.alloc (.cells #[.int .i64 0, .int .i64 0, .int .u64 0, .int .u64 0, .int .u64 0, .int .u64 0, .int .u64 0, .slice none 0 0, .slice none 0 0] 33) = wb at *
  refine (refOpen_any wb A n c l hs1 (by have := HL.out; omega)).mono ?_
  rintro e w2 ⟨A2, n2, c2, rfl, hs2, hb2⟩
  rw [HE.out]
  have HS2 := Lib.hid hs2
  have HK2 := Lib.hid ((hb2.block w.heap.size hz).trans hblk)
  have HB2 : Hid (Below w.heap.size w w2) := hbx.trans (hb2.mono hbx.size)
  have HZ2 : Hid (w.heap.size < w2.heap.size) := Nat.lt_of_lt_of_le hz hb2.size
  clear hbx hblk hz hs1 hb2 hs2 HS
  go_wp2_with fail
  have HIN : Hid (RefAt (w2.alloc (.cells #[.slice A2 n2 c2, .int .i64 0, .int .i64 0] 92)) w2.heap.size A2 n2 c2 0 0 (opn l).1) := ⟨heap_alloc_new w2 _, HS2.out.below (below_box w2 _) (Nat.le_refl _), Nat.zero_le _, by have := HO.out; have := HL.out; omega⟩
  have HK3 := Lib.hid (((below_box w2 (.cells #[.slice A2 n2 c2, .int .i64 0, .int .i64 0] 92)).block w.heap.size HZ2.out).trans HK2.out)
  have HB3 : Hid (Below w.heap.size w (w2.alloc (.cells #[.slice A2 n2 c2, .int .i64 0, .int .i64 0] 92))) := HB2.out.trans ((below_box w2 _).mono HB2.out.size)
  have HZ3 : Hid ((w2.alloc (.cells #[.slice A2 n2 c2, .int .i64 0, .int .i64 0] 92)).heap.size = w2.heap.size + 1) := by show _ = _; simp
  clear HS2 HK2 HB2 HO
  generalize w2.alloc (.cells #[.slice A2 n2 c2, .int .i64 0, .int .i64 0] 92) = w3 at *
  have HCB := Lib.hid (refByte_any HIN.out)
  rw [List.drop_zero, HB1.out] at HCB
  refine HCB.out.mono ?_
  rintro e w4 ⟨a4, rfl, hin4, hd4, hgr4⟩
  have HG := Lib.hid (gr_start (kd := 2) hin4 hd4 hgr4 (by have := HZ3.out; omega) (by omega))
  have qn : (w4.alloc (.cells #[.int .i64 2, .int .i64 0, .int .u64 0, .int .u64 0, .int .u64 0, .int .u64 0, .int .u64 0, .slice none 0 0, .slice none 0 0] 33)).cell? ⟨w4.heap.size, 0, none⟩ = some (.int .i64 2) := HG.out.cellAt 0
  clear hin4 hd4 hgr4 HCB HIN HB1
  go_wp2_with fail
  change Calls _ _ _ (w4.alloc (headF 2 0 0).rbox) _
  clear qn
  generalize (w4.alloc (headF 2 0 0).rbox) = w5 at *
  obtain ⟨Az, nz, cz, az, pz, hinz, hdz⟩ := HG.out.inn
  have HC := Lib.hid (refMost_any hinz 15 (by omega))
  rw [hdz, H2.out] at HC
  refine HC.out.mono ?_
  rintro e y1 ⟨ay, rfl, hiny, hdy, hgry⟩
  have HGy := Lib.hid (HG.out.next hiny hdy hgry)
  have qo : y1.cell? ⟨w4.heap.size, 1, none⟩ = some (.int .i64 0) := HGy.out.cellAt 1
  have fo := HGy.out.frz 1
  replace HG := Lib.hid (HGy.out.set_ag a HAB.out)
  clear hinz hdz HC hiny hdy hgry HGy
  go_wp2_with fail
  generalize (y1.setCell ⟨w4.heap.size, 1, none⟩ (.int .i64 (a : Int))) = x1 at *
  clear qo fo
  obtain ⟨Az, nz, cz, az, pz, hinz, hdz⟩ := HG.out.inn
  have HC := Lib.hid (refNumber_any hinz)
  rw [hdz, H3.out] at HC
  refine HC.out.mono ?_
  rintro e y2 ⟨ay, rfl, hiny, hdy, hgry⟩
  have HGy := Lib.hid (HG.out.next hiny hdy hgry)
  have qo : y2.cell? ⟨w4.heap.size, 2, none⟩ = some (.int .u64 0) := HGy.out.cellAt 2
  have fo := HGy.out.frz 2
  have qk : y2.cell? ⟨w4.heap.size, 0, none⟩ = some (.int .i64 2) := HGy.out.cellAt 0
  replace HG := Lib.hid (HGy.out.set_ep ep HPB.out)
  clear hinz hdz HC hiny hdy hgry HGy
  go_wp2_with fail
  generalize (y2.setCell ⟨w4.heap.size, 2, none⟩ (.int .u64 (ep : Int))) = x2 at *
  clear qo fo
  clear qk
  obtain ⟨Az, nz, cz, az, pz, hinz, hdz⟩ := HG.out.inn
  have HC := Lib.hid (refNumber_any hinz)
  rw [hdz, H4.out] at HC
  refine HC.out.mono ?_
  rintro e y3 ⟨ay, rfl, hiny, hdy, hgry⟩
  have HGy := Lib.hid (HG.out.next hiny hdy hgry)
  have qo : y3.cell? ⟨w4.heap.size, 3, none⟩ = some (.int .u64 0) := HGy.out.cellAt 3
  have fo := HGy.out.frz 3
  have qk : y3.cell? ⟨w4.heap.size, 0, none⟩ = some (.int .i64 2) := HGy.out.cellAt 0
  replace HG := Lib.hid (HGy.out.set_ic v1 HV1.out)
  clear hinz hdz HC hiny hdy hgry HGy
  go_wp2_with fail
  generalize (y3.setCell ⟨w4.heap.size, 3, none⟩ (.int .u64 (v1 : Int))) = x3 at *
  clear qo fo
  clear qk
  obtain ⟨Az, nz, cz, az, pz, hinz, hdz⟩ := HG.out.inn
  have HC := Lib.hid (refNumber_any hinz)
  rw [hdz, H5.out] at HC
  refine HC.out.mono ?_
  rintro e y4 ⟨ay, rfl, hiny, hdy, hgry⟩
  have HGy := Lib.hid (HG.out.next hiny hdy hgry)
  have qo : y4.cell? ⟨w4.heap.size, 5, none⟩ = some (.int .u64 0) := HGy.out.cellAt 5
  have fo := HGy.out.frz 5
  have qk : y4.cell? ⟨w4.heap.size, 0, none⟩ = some (.int .i64 2) := HGy.out.cellAt 0
  have qo6 : y4.cell? ⟨w4.heap.size, 6, none⟩ = some (.int .u64 0) := HGy.out.cellAt 6
  have fo6 := HGy.out.frz 6
  replace HG := Lib.hid (HGy.out.set_cu v2 HV2.out)
  clear hinz hdz HC hiny hdy hgry HGy
  have fo7 := HG.out.frz 6
  have HG0 : Hid (Gr w3 ((y4.setCell ⟨w4.heap.size, 5, none⟩ (.int .u64 (v2 : Int))).setCell ⟨w4.heap.size, 6, none⟩ (.int .u64 0)) w2.heap.size w4.heap.size _ l5 e5) := HG.out.set_li 0 (by decide)
  go_wp2_with fail
  generalize ((y4.setCell ⟨w4.heap.size, 5, none⟩ (.int .u64 (v2 : Int))).setCell ⟨w4.heap.size, 6, none⟩ (.int .u64 0)) = x4 at *
  replace HG := HG0
  clear HG0 fo7 fo6 qo6 qk
  clear qo fo
  obtain ⟨Az, nz, cz, az, pz, hinz, hdz⟩ := HG.out.inn
  have HC := Lib.hid (refNumber_any hinz)
  rw [hdz, H6.out] at HC
  refine HC.out.mono ?_
  rintro e y5 ⟨ay, rfl, hiny, hdy, hgry⟩
  have HGy := Lib.hid (HG.out.next hiny hdy hgry)
  have qo : y5.cell? ⟨w4.heap.size, 6, none⟩ = some (.int .u64 0) := HGy.out.cellAt 6
  have fo := HGy.out.frz 6
  replace HG := Lib.hid (HGy.out.set_li v3 HV3.out)
  clear hinz hdz HC hiny hdy hgry HGy
  go_wp2_with fail
  generalize (y5.setCell ⟨w4.heap.size, 6, none⟩ (.int .u64 (v3 : Int))) = x5 at *
  clear qo fo
  obtain ⟨Az, nz, cz, az, pz, hinz, hdz⟩ := HG.out.inn
  have HC := Lib.hid (refMost_any hinz 32 (by omega))
  rw [hdz, H7.out] at HC
  refine HC.out.mono ?_
  rintro e y9 ⟨ay, rfl, hiny, hdy, hgry⟩
  have HST0 : Hid (RAnsRel w3 w2.heap.size w4.heap.size 2 (a : Int) ep v1 v2 v3 l7 e7 N N (.int .i64 (N : Int)) y9) := ⟨0, none, 0, 0, rfl, rfl, HG.out.next hiny hdy hgry⟩
  clear hinz hdz HC hiny hdy hgry HG H2 H3 H4 H5 H7 HV1 HV2 H6 HV3
  go_wp2_with fail
  go_loopg [8] N (fun gk i wr => RAnsRel w3 w2.heap.size w4.heap.size 2 (a : Int) ep v1 v2 v3 l7 e7 N gk i wr)
  case atStart => exact HST0.out
  case round =>
    obtain ⟨j, A9, n9, cp, hj, rfl, hG⟩ := hrel
    have HJ := Lib.hid hj
    have HNJ : Hid (n9 = j) := by
      have h1 := hG.rs.1
      have h2 := stRuns_len l7 e7 j
      rw [show (ansF 2 (a : Int) ep v1 v2 v3 A9 n9 cp (stRuns l7 e7 j).1).L = (stRuns l7 e7 j).1 from rfl, show (ansF 2 (a : Int) ep v1 v2 v3 A9 n9 cp (stRuns l7 e7 j).1).nr = n9 from rfl, rvs_len, h2] at h1
      show _ = _
      omega
    obtain ⟨⟨S, l8, e8⟩, H8⟩ : ∃ x, Hid (stRuns l7 e7 j = x) := ⟨_, rfl⟩
    rw [H8.out] at hG
    dsimp only at hG
    have HG := Lib.hid hG
    clear hj hG HST0
    by_cases hlt : 0 < gk
    · have hltI : (0 : Int) < (gk : Int) := by omega
      have hn33 : n9 ≤ 33 := by have := HNJ.out; have := HJ.out; omega
      obtain ⟨Az, nz, cz, az, pz, hinz, hdz⟩ := HG.out.inn
      have HC1 := Lib.hid (refNumber_any hinz)
      have HU1 := Lib.hid (stNum_lt l8 e8)
      obtain ⟨⟨u1, l9, e9⟩, H9⟩ : ∃ x, Hid (stNum l8 e8 = x) := ⟨_, rfl⟩
      rw [hdz, H9.out] at HC1
      rw [H9.out] at HU1
      have HU2 := Lib.hid (stNum_lt l9 e9)
      obtain ⟨⟨u2, l10, e10⟩, H10⟩ : ∃ x, Hid (stNum l9 e9 = x) := ⟨_, rfl⟩
      rw [H10.out] at HU2
      have HST := Lib.hid (stRuns_succ H8.out H9.out H10.out)
      clear hinz hdz
      go_wp2_with fail
      refine HC1.out.mono ?_
      rintro e w10 ⟨a10, rfl, hin1, hd1, hgr1⟩
      have HG5 := Lib.hid (HG.out.next hin1 hd1 hgr1)
      clear hin1 hgr1 HC1 HG hd1
      go_wp2_with fail
      have hc7 : w10.drew.cell? ⟨w4.heap.size, 7, none⟩ = some (.slice A9 n9 cp) := HG5.out.cellAt 7
      have HGd : Hid (Gr w3 w10.drew w2.heap.size w4.heap.size (ansF 2 (a : Int) ep v1 v2 v3 A9 n9 cp S) l9 e9) := HG5.out.drewN 1
      refine wp_region_noPanic ?_
      refine wp_region_F (S := (fun w' => w'.cell? ⟨w4.heap.size, 7, none⟩ = some (.slice A9 n9 cp))) (F := (fun j => j == 7 || j == 9)) (by kernel_rfl) hc7 (fun hHeld => ?_)
      refine wpAnyF_take0 (i := 0) (oi := { dst := some 75, op := Op.fieldAddr 33 (Operand.tmp 7) 7, type := 0, pos := "ref.go:117", after := #[], guard := none }) (v := ?_) rfl (by kernel_rfl) (by kernel_rfl) (by kernel_rfl) (fun _ _ _ h => h) (Or.inl ⟨by rfl, ?_⟩) ?_
      rotate_left
      · intro w hSw; (try dsimp only at hSw); first | (go_simp; done) | (go_simp; with_reducible rfl)
      try simp only [Act.put, List.setIfInBounds_toArray, List.set_cons_zero, List.set_cons_succ]
      refine wpAnyF_take (i := 1) (oi := { dst := some 76, op := Op.load 30 (Operand.tmp 75), type := 30, pos := "ref.go:117", after := #[{ on := 0, ground := Ground.data }], guard := none }) (v := ?_) (fun j hj => by simp only [Bool.or_eq_true, beq_iff_eq] at hj; rcases hj with rfl | rfl <;> exact of_decide_eq_true (by kernel_rfl)) rfl (by kernel_rfl) (by kernel_rfl) (by kernel_rfl) (by kernel_rfl) (by kernel_rfl) (fun _ _ _ h => h) (Or.inl ⟨by rfl, ?_⟩) (by assumption) ?_
      rotate_left
      · intro w hSw; (try dsimp only at hSw); first | (go_simp; done) | (go_simp; with_reducible rfl)
      try simp only [Act.put, List.setIfInBounds_toArray, List.set_cons_zero, List.set_cons_succ]
      refine wpAnyF_take0 (i := 2) (oi := { dst := some 77, op := Op.move (Operand.tmp 9), type := 22, pos := "ref.go:117", after := #[], guard := none }) (v := ?_) rfl (by kernel_rfl) (by kernel_rfl) (by kernel_rfl) (fun _ _ _ h => h) (Or.inl ⟨by rfl, ?_⟩) ?_
      rotate_left
      · intro w hSw; (try dsimp only at hSw); first | (go_simp; done) | (go_simp; with_reducible rfl)
      try simp only [Act.put, List.setIfInBounds_toArray, List.set_cons_zero, List.set_cons_succ]
      refine wpAnyF_take0 (i := 3) (oi := { dst := some 78, op := Op.move (Operand.tmp 6), type := 90, pos := "ref.go:117", after := #[], guard := none }) (v := ?_) rfl (by kernel_rfl) (by kernel_rfl) (by kernel_rfl) (fun _ _ _ h => h) (Or.inl ⟨by rfl, ?_⟩) ?_
      rotate_left
      · intro w hSw; (try dsimp only at hSw); first | (go_simp; done) | (go_simp; with_reducible rfl)
      try simp only [Act.put, List.setIfInBounds_toArray, List.set_cons_zero, List.set_cons_succ]
      refine wpAnyF_one (i := 4) (o := { dst := some 79, op := Op.call { callee := Callee.value (Operand.func 44), args := #[Operand.tmp 78], argTypes := #[90] }, type := 22, pos := "ref.go:117", after := #[{ on := 3, ground := Ground.data }], guard := none }) (by kernel_rfl) rfl (fun K hK => ?_)
      go_simp
      go_at_call 44
      obtain ⟨Az, nz, cz, az, pz, hin7, hd7⟩ := HGd.out.inn
      have HC2 := Lib.hid (refNumber_any hin7)
      rw [hd7, H10.out] at HC2
      refine HC2.out.mono ?_
      rintro e w6 ⟨a8, rfl, hin8, hd8, hgr8⟩
      have HG6 := Lib.hid (HGd.out.next hin8 hd8 hgr8)
      have hcA : w6.cell? ⟨w4.heap.size, 7, none⟩ = some (.slice A9 n9 cp) := HG6.out.cellAt 7
      clear hin7 HC2 hin8 hgr8 hd7 hd8
      try go_wp2_with fail
      try clear hHeld
      refine hK.out _ _ (by first | exact hcA | exact hcB) (fun hHeld => ?_)
      clear hK K
      try simp only [Act.put, List.setIfInBounds_toArray, List.set_cons_zero, List.set_cons_succ]
      refine wpAnyF_take0 (i := 5) (oi := { dst := some 80, op := Op.build 76 #[(0, Operand.tmp 77), (1, Operand.tmp 79)], type := 76, pos := "ref.go:117", after := #[{ on := 2, ground := Ground.data }, { on := 4, ground := Ground.data }], guard := none }) (v := ?_) rfl (by kernel_rfl) (by kernel_rfl) (by kernel_rfl) (fun _ _ _ h => h) (Or.inl ⟨by rfl, ?_⟩) ?_
      rotate_left
      · intro w hSw; (try dsimp only at hSw); first | (go_simp; done) | (go_simp; with_reducible rfl)
      try simp only [Act.put, List.setIfInBounds_toArray, List.set_cons_zero, List.set_cons_succ]
      refine wpAnyF_one (i := 6) (o := { dst := some 81, op := Op.buildSlice 30 1 #[(0, Operand.tmp 80)], type := 30, pos := "ref.go:117", after := #[{ on := 5, ground := Ground.data }], guard := none }) (by kernel_rfl) rfl (fun K hK => ?_)
      go_simp
      have HG7 := Lib.hid (HG6.out.onA (.cells #[.int .u64 (u1 : Int), .int .u64 (u2 : Int)] 76))
      have hcB : (w6.alloc (.cells #[.int .u64 (u1 : Int), .int .u64 (u2 : Int)] 76)).cell? ⟨w4.heap.size, 7, none⟩ = some (.slice A9 n9 cp) := HG7.out.cellAt 7
      have HSQ : Hid (Sn (w6.alloc (.cells #[.int .u64 (u1 : Int), .int .u64 (u2 : Int)] 76)) (w6.heap.size + 1) (some ⟨w6.heap.size, 0, none⟩) 1 1 2 (rv (u1, u2))) := lit_sn w6 76 (rv (u1, u2)) 1 2 rfl (by unfold maxLen; omega)
      try go_wp2_with fail
      try clear hHeld
      refine hK.out _ _ (by first | exact hcA | exact hcB) (fun hHeld => ?_)
      clear hK K
      try simp only [Act.put, List.setIfInBounds_toArray, List.set_cons_zero, List.set_cons_succ]
      refine wpAnyF_oneF (i := 7) (o := { dst := some 82, op := Op.call { callee := Callee.builtin Builtin.append, args := #[Operand.tmp 76, Operand.tmp 81], argTypes := #[30, 30] }, type := 30, pos := "ref.go:117", after := #[{ on := 1, ground := Ground.data }, { on := 6, ground := Ground.data }, { on := 4, ground := Ground.chain }], guard := none }) (by kernel_rfl) (by kernel_rfl) rfl (fun K hK => ?_)
      rw [if_pos (by rfl)]
      refine oper_append_dstN (.tmp 76) (.tmp 81) 30 30 rfl (w4.heap.size + 1) 76 i0 _ 2 16 Tryd.underlying30 hi0 hz0 hz1 hz2 rfl A9 n9 cp (rvs S) rfl (.inr HG7.out.rs) _ 1 (rv (u1, u2)) rfl (HSQ.out.src Tryd.underlying30 (rv_one (u1, u2))) (by omega) (by omega) (by have := HG7.out.fl; omega) ?_
      intro AA cA w9 h1 h2 h3 h4 h5 h6
      have HB9 := Lib.hid h4
      have HO9 := Lib.hid (h3 HG7.out.rs)
      have hF7 := HG7.out.blk
      have hblk9 := (h4.block w4.heap.size (by omega)).trans hF7
      have hc9 : w9.cell? ⟨w4.heap.size, 7, none⟩ = some (.slice A9 n9 cp) := (by rw [cell_of_row w9 _ 7 _ _ _ hblk9]; rfl)
      have hf9 := frz_block (i := 7) hblk9
      clear h1 h2 h3 h4 h5 h6 hF7 hblk9
      refine hK.out _ _ ?_
      clear hK K
      try simp only [Act.put, List.setIfInBounds_toArray, List.set_cons_zero, List.set_cons_succ]
      refine wpAnyF_take0 (i := 8) (oi := { dst := some 83, op := Op.fieldAddr 33 (Operand.tmp 7) 7, type := 0, pos := "ref.go:117", after := #[{ on := 0, ground := Ground.phase }, { on := 1, ground := Ground.phase }, { on := 2, ground := Ground.phase }, { on := 3, ground := Ground.phase }, { on := 4, ground := Ground.phase }, { on := 5, ground := Ground.phase }, { on := 6, ground := Ground.phase }, { on := 7, ground := Ground.phase }], guard := none }) (v := ?_) rfl (by kernel_rfl) (by kernel_rfl) (by kernel_rfl) (fun _ _ _ h => h) (Or.inl ⟨by rfl, ?_⟩) ?_
      rotate_left
      · intro w hSw; (try dsimp only at hSw); first | (go_simp; done) | (go_simp; with_reducible rfl)
      try simp only [Act.put, List.setIfInBounds_toArray, List.set_cons_zero, List.set_cons_succ]
      refine wpAnyF_oneF (i := 9) (o := { dst := none, op := Op.store 30 (Operand.tmp 83) (Operand.tmp 82), type := 0, pos := "ref.go:117", after := #[{ on := 8, ground := Ground.data }, { on := 7, ground := Ground.data }, { on := 7, ground := Ground.chain }, { on := 0, ground := Ground.phase }, { on := 1, ground := Ground.phase }, { on := 2, ground := Ground.phase }, { on := 3, ground := Ground.phase }, { on := 4, ground := Ground.phase }, { on := 5, ground := Ground.phase }, { on := 6, ground := Ground.phase }, { on := 7, ground := Ground.phase }], guard := none }) (by kernel_rfl) (by kernel_rfl) rfl (fun K hK => ?_)
      go_simp
      skip
      try go_wp2_with fail
      refine hK.out _ _ ?_
      clear hK K
      try simp only [Act.put, List.setIfInBounds_toArray, List.set_cons_zero, List.set_cons_succ]
      refine wpAnyF_done (by kernel_rfl) ?_ _
      refine NoPanic.normal ?_
      have HGZ := Lib.hid (HG7.out.run HB9.out HO9.out ⟨HU1.out, HU2.out⟩ ⟨rfl, rfl, rfl, rfl⟩)
      have hgk : ((gk : Int) - 1) = ((gk - 1 : Nat) : Int) := by omega
      have hwg : wrap64 ((gk - 1 : Nat) : Int) = ((gk - 1 : Nat) : Int) := by have := HJ.out; unfold wrap64; omega
      go_wp2
      go_roundg (gk - 1)
      case measure => omega
      case rel =>
        refine ⟨j + 1, AA, n9 + 1, cA, by have := HJ.out; omega, by first | rfl | (have := HJ.out; rw [hwg]) | (have := HJ.out; go_num), ?_⟩
        rw [HST.out]
        exact HGZ.out
    · have hltI : ¬ (0 : Int) < (gk : Int) := by omega
      obtain rfl : j = N := by have := HJ.out; omega
      obtain ⟨k, hk⟩ : ∃ k : Fv, k = ansF 2 (a : Int) ep v1 v2 v3 A9 n9 cp S := ⟨_, rfl⟩
      have HNR : Hid (k.nr ≤ 40) := by rw [hk]; show n9 ≤ 40; have := HNJ.out; omega
      have HNI : Hid (k.ni ≤ 70) := by rw [hk]; exact Nat.zero_le _
      have HM : Hid (getM (opn l).1 = (k.m, l8, e8)) := by
        rw [hk]
        show _ = (Fm.mk 2 (a : Int) ep v1 0 v2 v3 S [], l8, e8)
        rw [HX.out, H8.out]
      have qk : wr.cell? ⟨w4.heap.size, 0, none⟩ = some (.int .i64 2) := HG.out.cellAt 0
      replace HG : Hid (Gr w3 wr w2.heap.size w4.heap.size k l8 e8) := by rw [hk]; exact HG.out
      clear hk HX H8 HNJ HJ
      go_wp2_with fail
      clear qk
      obtain ⟨Ae, ne, ce, ae, pe, hine, hde⟩ := HG.out.inn
      have hce := refEnd_any hine
      rw [hde] at hce
      refine hce.mono ?_
      rintro e w6 ⟨a6, rfl, hin6, hd6, hgr6⟩
      have HG6 := Lib.hid (HG.out.next hin6 hd6 hgr6)
      clear hce hine hde hin6 hd6 hgr6 HG
      have hgR : w2.heap.size ≠ w.heap.size := by have := HZ2.out; omega
      have hRF : w.heap.size < w4.heap.size := by have := HZ2.out; have := HG6.out.le; have := HG6.out.lt; omega
      by_cases he : endN l8 e8 = 0
      · rw [he]
        have qA : ∀ i, w6.cell? ⟨w4.heap.size, i, none⟩ = (#[Value.int .i64 (k.kd : Int), .int .i64 k.ag, .int .u64 (k.ep : Int), .int .u64 (k.ic : Int), .int .u64 (k.ba : Int), .int .u64 (k.cu : Int), .int .u64 (k.li : Int), .slice k.Ar k.nr k.cr, .slice k.Ai k.ni k.ci] : Array Value)[i]? := fun i => cell_of_row w6 _ i _ _ _ HG6.out.blk
        obtain ⟨q0, q1, q2, q3, q4, q5, q6, q7, q8⟩ : w6.cell? ⟨w4.heap.size, 0, none⟩ = some (.int .i64 (k.kd : Int)) ∧ w6.cell? ⟨w4.heap.size, 1, none⟩ = some (.int .i64 k.ag) ∧ w6.cell? ⟨w4.heap.size, 2, none⟩ = some (.int .u64 (k.ep : Int)) ∧ w6.cell? ⟨w4.heap.size, 3, none⟩ = some (.int .u64 (k.ic : Int)) ∧ w6.cell? ⟨w4.heap.size, 4, none⟩ = some (.int .u64 (k.ba : Int)) ∧ w6.cell? ⟨w4.heap.size, 5, none⟩ = some (.int .u64 (k.cu : Int)) ∧ w6.cell? ⟨w4.heap.size, 6, none⟩ = some (.int .u64 (k.li : Int)) ∧ w6.cell? ⟨w4.heap.size, 7, none⟩ = some (.slice k.Ar k.nr k.cr) ∧ w6.cell? ⟨w4.heap.size, 8, none⟩ = some (.slice k.Ai k.ni k.ci) := ⟨qA 0, qA 1, qA 2, qA 3, qA 4, qA 5, qA 6, qA 7, qA 8⟩
        have HE8 := Lib.hid he
        clear he qA
        go_wp2_with fail
        have hc := refRightF_any w6 k HG6.out.fr HNR.out HNI.out
        refine hc.mono ?_
        rintro e w7 ⟨rfl, hb7⟩
        have HG7 := Lib.hid (HG6.out.on hb7)
        have hK7 := box_kept HK3.out HG7.out.gr hgR
        have HBW : Hid (Below w.heap.size w w7) := below_grown HB3.out HG7.out.gr (by have := HZ2.out; omega) (by have := HZ2.out; have := HZ3.out; omega)
        clear hc hb7 HG6 q0 q1 q2 q3 q4 q5 q6 q7 q8
        by_cases hri : RightP k.m
        · rw [decP_yes hri]
          have pA : ∀ i, w7.cell? ⟨w.heap.size, i, none⟩ = (#[Value.int .i64 0, .int .i64 0, .int .u64 0, .int .u64 0, .int .u64 0, .int .u64 0, .int .u64 0, .slice none 0 0, .slice none 0 0] : Array Value)[i]? := fun i => cell_of_row w7 _ i _ _ _ hK7
          obtain ⟨p0, p1, p2, p3, p4, p5, p6, p7, p8⟩ : w7.cell? ⟨w.heap.size, 0, none⟩ = some (.int .i64 0) ∧ w7.cell? ⟨w.heap.size, 1, none⟩ = some (.int .i64 0) ∧ w7.cell? ⟨w.heap.size, 2, none⟩ = some (.int .u64 0) ∧ w7.cell? ⟨w.heap.size, 3, none⟩ = some (.int .u64 0) ∧ w7.cell? ⟨w.heap.size, 4, none⟩ = some (.int .u64 0) ∧ w7.cell? ⟨w.heap.size, 5, none⟩ = some (.int .u64 0) ∧ w7.cell? ⟨w.heap.size, 6, none⟩ = some (.int .u64 0) ∧ w7.cell? ⟨w.heap.size, 7, none⟩ = some (.slice none 0 0) ∧ w7.cell? ⟨w.heap.size, 8, none⟩ = some (.slice none 0 0) := ⟨pA 0, pA 1, pA 2, pA 3, pA 4, pA 5, pA 6, pA 7, pA 8⟩
          obtain ⟨f0, f1, f2, f3, f4, f5, f6, f7, f8⟩ : w7.frozen? ⟨w.heap.size, 0, none⟩ = false ∧ w7.frozen? ⟨w.heap.size, 1, none⟩ = false ∧ w7.frozen? ⟨w.heap.size, 2, none⟩ = false ∧ w7.frozen? ⟨w.heap.size, 3, none⟩ = false ∧ w7.frozen? ⟨w.heap.size, 4, none⟩ = false ∧ w7.frozen? ⟨w.heap.size, 5, none⟩ = false ∧ w7.frozen? ⟨w.heap.size, 6, none⟩ = false ∧ w7.frozen? ⟨w.heap.size, 7, none⟩ = false ∧ w7.frozen? ⟨w.heap.size, 8, none⟩ = false := ⟨frz_block (i := 0) hK7, frz_block (i := 1) hK7, frz_block (i := 2) hK7, frz_block (i := 3) hK7, frz_block (i := 4) hK7, frz_block (i := 5) hK7, frz_block (i := 6) hK7, frz_block (i := 7) hK7, frz_block (i := 8) hK7⟩
          have sA : ∀ i, w7.cell? ⟨w4.heap.size, i, none⟩ = (#[Value.int .i64 (k.kd : Int), .int .i64 k.ag, .int .u64 (k.ep : Int), .int .u64 (k.ic : Int), .int .u64 (k.ba : Int), .int .u64 (k.cu : Int), .int .u64 (k.li : Int), .slice k.Ar k.nr k.cr, .slice k.Ai k.ni k.ci] : Array Value)[i]? := fun i => cell_of_row w7 _ i _ _ _ HG7.out.blk
          obtain ⟨s0, s1, s2, s3, s4, s5, s6, s7, s8⟩ : w7.cell? ⟨w4.heap.size, 0, none⟩ = some (.int .i64 (k.kd : Int)) ∧ w7.cell? ⟨w4.heap.size, 1, none⟩ = some (.int .i64 k.ag) ∧ w7.cell? ⟨w4.heap.size, 2, none⟩ = some (.int .u64 (k.ep : Int)) ∧ w7.cell? ⟨w4.heap.size, 3, none⟩ = some (.int .u64 (k.ic : Int)) ∧ w7.cell? ⟨w4.heap.size, 4, none⟩ = some (.int .u64 (k.ba : Int)) ∧ w7.cell? ⟨w4.heap.size, 5, none⟩ = some (.int .u64 (k.cu : Int)) ∧ w7.cell? ⟨w4.heap.size, 6, none⟩ = some (.int .u64 (k.li : Int)) ∧ w7.cell? ⟨w4.heap.size, 7, none⟩ = some (.slice k.Ar k.nr k.cr) ∧ w7.cell? ⟨w4.heap.size, 8, none⟩ = some (.slice k.Ai k.ni k.ci) := ⟨sA 0, sA 1, sA 2, sA 3, sA 4, sA 5, sA 6, sA 7, sA 8⟩
          have HB9 := Lib.hid (set9_heap (.int .i64 (k.kd : Int)) (.int .i64 k.ag) (.int .u64 (k.ep : Int)) (.int .u64 (k.ic : Int)) (.int .u64 (k.ba : Int)) (.int .u64 (k.cu : Int)) (.int .u64 (k.li : Int)) (.slice k.Ar k.nr k.cr) (.slice k.Ai k.ni k.ci) hK7)
          have HD := Lib.hid (dec_ok (by have := HL.out; omega) HE.out HM.out HE8.out hri)
          clear hK7 pA sA hri
          go_wp2
          have hr9 : ∀ i, (set9 w7 w.heap.size (.int .i64 (k.kd : Int)) (.int .i64 k.ag) (.int .u64 (k.ep : Int)) (.int .u64 (k.ic : Int)) (.int .u64 (k.ba : Int)) (.int .u64 (k.cu : Int)) (.int .u64 (k.li : Int)) (.slice k.Ar k.nr k.cr) (.slice k.Ai k.ni k.ci)).cell? ⟨w.heap.size, i, none⟩ = (#[Value.int .i64 (k.kd : Int), .int .i64 k.ag, .int .u64 (k.ep : Int), .int .u64 (k.ic : Int), .int .u64 (k.ba : Int), .int .u64 (k.cu : Int), .int .u64 (k.li : Int), .slice k.Ar k.nr k.cr, .slice k.Ai k.ni k.ci] : Array Value)[i]? := fun i => cell_of_row _ _ i _ _ _ HB9.out
          have hb9 := set9_below (.int .i64 (k.kd : Int)) (.int .i64 k.ag) (.int .u64 (k.ep : Int)) (.int .u64 (k.ic : Int)) (.int .u64 (k.ba : Int)) (.int .u64 (k.cu : Int)) (.int .u64 (k.li : Int)) (.slice k.Ar k.nr k.cr) (.slice k.Ai k.ni k.ci) HBW.out (Nat.le_refl _)
          have hw9 := HG7.out.frSet hRF (.int .i64 (k.kd : Int)) (.int .i64 k.ag) (.int .u64 (k.ep : Int)) (.int .u64 (k.ic : Int)) (.int .u64 (k.ba : Int)) (.int .u64 (k.cu : Int)) (.int .u64 (k.li : Int)) (.slice k.Ar k.nr k.cr) (.slice k.Ai k.ni k.ci)
          change bodyPost _ _ _ _ _ (set9 w7 w.heap.size (.int .i64 (k.kd : Int)) (.int .i64 k.ag) (.int .u64 (k.ep : Int)) (.int .u64 (k.ic : Int)) (.int .u64 (k.ba : Int)) (.int .u64 (k.cu : Int)) (.int .u64 (k.li : Int)) (.slice k.Ar k.nr k.cr) (.slice k.Ai k.ni k.ci))
          generalize (set9 w7 w.heap.size (.int .i64 (k.kd : Int)) (.int .i64 k.ag) (.int .u64 (k.ep : Int)) (.int .u64 (k.ic : Int)) (.int .u64 (k.ba : Int)) (.int .u64 (k.cu : Int)) (.int .u64 (k.li : Int)) (.slice k.Ar k.nr k.cr) (.slice k.Ai k.ni k.ci)) = wz at *
          refine bodyPost_ret (v := .tuple #[.agg #[Value.int .i64 (k.kd : Int), .int .i64 k.ag, .int .u64 (k.ep : Int), .int .u64 (k.ic : Int), .int .u64 (k.ba : Int), .int .u64 (k.cu : Int), .int .u64 (k.li : Int), .slice k.Ar k.nr k.cr, .slice k.Ai k.ni k.ci], .int .i64 0]) (by simp [results, Tryd.results22, go_sem, hr9]) rfl ?_
          exact ⟨k, by rw [HD.out]; rfl, by rw [HD.out], hw9, hb9⟩
        · rw [decP_no hri]
          have pA : ∀ i, w7.cell? ⟨w.heap.size, i, none⟩ = (#[Value.int .i64 0, .int .i64 0, .int .u64 0, .int .u64 0, .int .u64 0, .int .u64 0, .int .u64 0, .slice none 0 0, .slice none 0 0] : Array Value)[i]? := fun i => cell_of_row w7 _ i _ _ _ hK7
          obtain ⟨p0, p1, p2, p3, p4, p5, p6, p7, p8⟩ : w7.cell? ⟨w.heap.size, 0, none⟩ = some (.int .i64 0) ∧ w7.cell? ⟨w.heap.size, 1, none⟩ = some (.int .i64 0) ∧ w7.cell? ⟨w.heap.size, 2, none⟩ = some (.int .u64 0) ∧ w7.cell? ⟨w.heap.size, 3, none⟩ = some (.int .u64 0) ∧ w7.cell? ⟨w.heap.size, 4, none⟩ = some (.int .u64 0) ∧ w7.cell? ⟨w.heap.size, 5, none⟩ = some (.int .u64 0) ∧ w7.cell? ⟨w.heap.size, 6, none⟩ = some (.int .u64 0) ∧ w7.cell? ⟨w.heap.size, 7, none⟩ = some (.slice none 0 0) ∧ w7.cell? ⟨w.heap.size, 8, none⟩ = some (.slice none 0 0) := ⟨pA 0, pA 1, pA 2, pA 3, pA 4, pA 5, pA 6, pA 7, pA 8⟩
          obtain ⟨f0, f1, f2, f3, f4, f5, f6, f7, f8⟩ : w7.frozen? ⟨w.heap.size, 0, none⟩ = false ∧ w7.frozen? ⟨w.heap.size, 1, none⟩ = false ∧ w7.frozen? ⟨w.heap.size, 2, none⟩ = false ∧ w7.frozen? ⟨w.heap.size, 3, none⟩ = false ∧ w7.frozen? ⟨w.heap.size, 4, none⟩ = false ∧ w7.frozen? ⟨w.heap.size, 5, none⟩ = false ∧ w7.frozen? ⟨w.heap.size, 6, none⟩ = false ∧ w7.frozen? ⟨w.heap.size, 7, none⟩ = false ∧ w7.frozen? ⟨w.heap.size, 8, none⟩ = false := ⟨frz_block (i := 0) hK7, frz_block (i := 1) hK7, frz_block (i := 2) hK7, frz_block (i := 3) hK7, frz_block (i := 4) hK7, frz_block (i := 5) hK7, frz_block (i := 6) hK7, frz_block (i := 7) hK7, frz_block (i := 8) hK7⟩
          have HB9 := Lib.hid (set9_heap (.int .i64 0) (.int .i64 0) (.int .u64 0) (.int .u64 0) (.int .u64 0) (.int .u64 0) (.int .u64 0) (.slice none 0 0) (.slice none 0 0) hK7)
          have HD := Lib.hid (dec_arg (by have := HL.out; omega) HE.out HM.out HE8.out hri)
          clear hK7 pA hri
          go_wp2
          have hr9 : ∀ i, (set9 w7 w.heap.size (.int .i64 0) (.int .i64 0) (.int .u64 0) (.int .u64 0) (.int .u64 0) (.int .u64 0) (.int .u64 0) (.slice none 0 0) (.slice none 0 0)).cell? ⟨w.heap.size, i, none⟩ = (#[Value.int .i64 0, .int .i64 0, .int .u64 0, .int .u64 0, .int .u64 0, .int .u64 0, .int .u64 0, .slice none 0 0, .slice none 0 0] : Array Value)[i]? := fun i => cell_of_row _ _ i _ _ _ HB9.out
          have hb9 := set9_below (.int .i64 0) (.int .i64 0) (.int .u64 0) (.int .u64 0) (.int .u64 0) (.int .u64 0) (.int .u64 0) (.slice none 0 0) (.slice none 0 0) HBW.out (Nat.le_refl _)
          change bodyPost _ _ _ _ _ (set9 w7 w.heap.size (.int .i64 0) (.int .i64 0) (.int .u64 0) (.int .u64 0) (.int .u64 0) (.int .u64 0) (.int .u64 0) (.slice none 0 0) (.slice none 0 0))
          generalize (set9 w7 w.heap.size (.int .i64 0) (.int .i64 0) (.int .u64 0) (.int .u64 0) (.int .u64 0) (.int .u64 0) (.int .u64 0) (.slice none 0 0) (.slice none 0 0)) = wz at *
          refine bodyPost_ret (v := .tuple #[.agg #[Value.int .i64 0, .int .i64 0, .int .u64 0, .int .u64 0, .int .u64 0, .int .u64 0, .int .u64 0, .slice none 0 0, .slice none 0 0], .int .i64 1]) (by simp [results, Tryd.results22, go_sem, hr9]) rfl ?_
          exact ⟨zeroF, by rw [HD.out]; rfl, by rw [HD.out]; rfl, zeroF_at _, hb9⟩
      · have HD := Lib.hid (dec_end (by have := HL.out; omega) HE.out HM.out he)
        have h0I : (((endN l8 e8 : Nat) : Int) != 0) = true := by simp; omega
        have hK6 := box_kept HK3.out HG6.out.gr hgR
        have HBW : Hid (Below w.heap.size w w6) := below_grown HB3.out HG6.out.gr (by have := HZ2.out; omega) (by have := HZ2.out; have := HZ3.out; omega)
        have pA : ∀ i, w6.cell? ⟨w.heap.size, i, none⟩ = (#[Value.int .i64 0, .int .i64 0, .int .u64 0, .int .u64 0, .int .u64 0, .int .u64 0, .int .u64 0, .slice none 0 0, .slice none 0 0] : Array Value)[i]? := fun i => cell_of_row w6 _ i _ _ _ hK6
        obtain ⟨p0, p1, p2, p3, p4, p5, p6, p7, p8⟩ : w6.cell? ⟨w.heap.size, 0, none⟩ = some (.int .i64 0) ∧ w6.cell? ⟨w.heap.size, 1, none⟩ = some (.int .i64 0) ∧ w6.cell? ⟨w.heap.size, 2, none⟩ = some (.int .u64 0) ∧ w6.cell? ⟨w.heap.size, 3, none⟩ = some (.int .u64 0) ∧ w6.cell? ⟨w.heap.size, 4, none⟩ = some (.int .u64 0) ∧ w6.cell? ⟨w.heap.size, 5, none⟩ = some (.int .u64 0) ∧ w6.cell? ⟨w.heap.size, 6, none⟩ = some (.int .u64 0) ∧ w6.cell? ⟨w.heap.size, 7, none⟩ = some (.slice none 0 0) ∧ w6.cell? ⟨w.heap.size, 8, none⟩ = some (.slice none 0 0) := ⟨pA 0, pA 1, pA 2, pA 3, pA 4, pA 5, pA 6, pA 7, pA 8⟩
        obtain ⟨f0, f1, f2, f3, f4, f5, f6, f7, f8⟩ : w6.frozen? ⟨w.heap.size, 0, none⟩ = false ∧ w6.frozen? ⟨w.heap.size, 1, none⟩ = false ∧ w6.frozen? ⟨w.heap.size, 2, none⟩ = false ∧ w6.frozen? ⟨w.heap.size, 3, none⟩ = false ∧ w6.frozen? ⟨w.heap.size, 4, none⟩ = false ∧ w6.frozen? ⟨w.heap.size, 5, none⟩ = false ∧ w6.frozen? ⟨w.heap.size, 6, none⟩ = false ∧ w6.frozen? ⟨w.heap.size, 7, none⟩ = false ∧ w6.frozen? ⟨w.heap.size, 8, none⟩ = false := ⟨frz_block (i := 0) hK6, frz_block (i := 1) hK6, frz_block (i := 2) hK6, frz_block (i := 3) hK6, frz_block (i := 4) hK6, frz_block (i := 5) hK6, frz_block (i := 6) hK6, frz_block (i := 7) hK6, frz_block (i := 8) hK6⟩
        have HB9 := Lib.hid (set9_heap (.int .i64 0) (.int .i64 0) (.int .u64 0) (.int .u64 0) (.int .u64 0) (.int .u64 0) (.int .u64 0) (.slice none 0 0) (.slice none 0 0) hK6)
        generalize endN l8 e8 = er8 at *
        clear hK6 pA he HG6
        go_wp2
        have hr9 : ∀ i, (set9 w6 w.heap.size (.int .i64 0) (.int .i64 0) (.int .u64 0) (.int .u64 0) (.int .u64 0) (.int .u64 0) (.int .u64 0) (.slice none 0 0) (.slice none 0 0)).cell? ⟨w.heap.size, i, none⟩ = (#[Value.int .i64 0, .int .i64 0, .int .u64 0, .int .u64 0, .int .u64 0, .int .u64 0, .int .u64 0, .slice none 0 0, .slice none 0 0] : Array Value)[i]? := fun i => cell_of_row _ _ i _ _ _ HB9.out
        have hb9 := set9_below (.int .i64 0) (.int .i64 0) (.int .u64 0) (.int .u64 0) (.int .u64 0) (.int .u64 0) (.int .u64 0) (.slice none 0 0) (.slice none 0 0) HBW.out (Nat.le_refl _)
        change bodyPost _ _ _ _ _ (set9 w6 w.heap.size (.int .i64 0) (.int .i64 0) (.int .u64 0) (.int .u64 0) (.int .u64 0) (.int .u64 0) (.int .u64 0) (.slice none 0 0) (.slice none 0 0))
        generalize (set9 w6 w.heap.size (.int .i64 0) (.int .i64 0) (.int .u64 0) (.int .u64 0) (.int .u64 0) (.int .u64 0) (.int .u64 0) (.slice none 0 0) (.slice none 0 0)) = wz at *
        refine bodyPost_ret (v := .tuple #[.agg #[Value.int .i64 0, .int .i64 0, .int .u64 0, .int .u64 0, .int .u64 0, .int .u64 0, .int .u64 0, .slice none 0 0, .slice none 0 0], .int .i64 (er8 : Int)]) (by simp [results, Tryd.results22, go_sem, hr9]) rfl ?_
        exact ⟨zeroF, by rw [HD.out]; rfl, by rw [HD.out]; rfl, zeroF_at _, hb9⟩


set_option maxRecDepth 100000 in
set_option maxHeartbeats 4000000 in
theorem refDec3_any (w : World) (A : Option Addr) (n c : Nat) (l : List UInt8) (hs : Sl w w.heap.size A n c l) (hl : l.length ≤ 65507) {l1 : List UInt8} {e1 : Nat} (h2 : (opn l).2 = 0) (h1 : stByte (opn l).1 0 = (3, l1, e1)) :
    Calls Tryd.prog 22 #[.slice A n c] w (RDecPost w l) := by
  have hab := stMost_le l1 e1 15
  obtain ⟨⟨a, l2, e2⟩, H2⟩ : ∃ x, Hid (stMost l1 e1 15 = x) := ⟨_, rfl⟩
  rw [H2.out] at hab
  have HAB := Lib.hid (show a ≤ 64 by dsimp only at hab; omega)
  have HPB := Lib.hid (stNum_lt l2 e2)
  obtain ⟨⟨ep, l3, e3⟩, H3⟩ : ∃ x, Hid (stNum l2 e2 = x) := ⟨_, rfl⟩
  rw [H3.out] at HPB
  have HV1 := Lib.hid (stNum_lt l3 e3)
  obtain ⟨⟨v1, l4, e4⟩, H4⟩ : ∃ x, Hid (stNum l3 e3 = x) := ⟨_, rfl⟩
  rw [H4.out] at HV1
  have HV2 := Lib.hid (stNum_lt l4 e4)
  obtain ⟨⟨v2, l5, e5⟩, H5⟩ : ∃ x, Hid (stNum l4 e4 = x) := ⟨_, rfl⟩
  rw [H5.out] at HV2
  have hN := stMost_le l5 e5 64
  obtain ⟨⟨N, l7, e7⟩, H7⟩ : ∃ x, Hid (stMost l5 e5 64 = x) := ⟨_, rfl⟩
  rw [H7.out] at hN
  dsimp only at hN
  obtain ⟨i0, hi0, hz0, hz1, hz2⟩ := info_parts ritem_info
  have HX : Hid (getM (opn l).1 = (⟨3, (a : Int), ep, v1, v2, 0, 0, [], (stItems l7 e7 N).1⟩, (stItems l7 e7 N).2.1, (stItems l7 e7 N).2.2)) := by
    show _ = _
    simp only [getM, getK, getB, h1, H2.out, H3.out, H4.out, H5.out, H7.out]
    rfl
  have hln := hs.len
  have HS := Lib.hid hs
  have HE := Lib.hid h2
  have HL := Lib.hid hl
  have HO := Lib.hid (opn_short l)
  have HB1 := Lib.hid h1
  have hlI : ¬ (65507 : Int) < (n : Int) := by omega
  clear hs h2 hl hln h1 hab
  go_enter Tryd.func22, Tryd.ntmps22
  go_wp2_with fail
  have hbx := below_box w (.cells #[.int .i64 0, .int .i64 0, .int .u64 0, .int .u64 0, .int .u64 0, .int .u64 0, .int .u64 0, .slice none 0 0, .slice none 0 0] 33)
  have hblk := heap_alloc_new w (.cells #[.int .i64 0, .int .i64 0, .int .u64 0, .int .u64 0, .int .u64 0, .int .u64 0, .int .u64 0, .slice none 0 0, .slice none 0 0] 33)
  have hz : w.heap.size < (w.alloc (.cells #[.int .i64 0, .int .i64 0, .int .u64 0, .int .u64 0, .int .u64 0, .int .u64 0, .int .u64 0, .slice none 0 0, .slice none 0 0] 33)).heap.size := by simp
  have hs1 := HS.out.onA (.cells #[.int .i64 0, .int .i64 0, .int .u64 0, .int .u64 0, .int .u64 0, .int .u64 0, .int .u64 0, .slice none 0 0, .slice none 0 0] 33)
  generalize w.alloc (.cells #[.int .i64 0, .int .i64 0, .int .u64 0, .int .u64 0, .int .u64 0, .int .u64 0, .int .u64 0, .slice none 0 0, .slice none 0 0] 33) = wb at *
  refine (refOpen_any wb A n c l hs1 (by have := HL.out; omega)).mono ?_
  rintro e w2 ⟨A2, n2, c2, rfl, hs2, hb2⟩
  rw [HE.out]
  have HS2 := Lib.hid hs2
  have HK2 := Lib.hid ((hb2.block w.heap.size hz).trans hblk)
  have HB2 : Hid (Below w.heap.size w w2) := hbx.trans (hb2.mono hbx.size)
  have HZ2 : Hid (w.heap.size < w2.heap.size) := Nat.lt_of_lt_of_le hz hb2.size
  clear hbx hblk hz hs1 hb2 hs2 HS
  go_wp2_with fail
  have HIN : Hid (RefAt (w2.alloc (.cells #[.slice A2 n2 c2, .int .i64 0, .int .i64 0] 92)) w2.heap.size A2 n2 c2 0 0 (opn l).1) := ⟨heap_alloc_new w2 _, HS2.out.below (below_box w2 _) (Nat.le_refl _), Nat.zero_le _, by have := HO.out; have := HL.out; omega⟩
  have HK3 := Lib.hid (((below_box w2 (.cells #[.slice A2 n2 c2, .int .i64 0, .int .i64 0] 92)).block w.heap.size HZ2.out).trans HK2.out)
  have HB3 : Hid (Below w.heap.size w (w2.alloc (.cells #[.slice A2 n2 c2, .int .i64 0, .int .i64 0] 92))) := HB2.out.trans ((below_box w2 _).mono HB2.out.size)
  have HZ3 : Hid ((w2.alloc (.cells #[.slice A2 n2 c2, .int .i64 0, .int .i64 0] 92)).heap.size = w2.heap.size + 1) := by show _ = _; simp
  clear HS2 HK2 HB2 HO
  generalize w2.alloc (.cells #[.slice A2 n2 c2, .int .i64 0, .int .i64 0] 92) = w3 at *
  have HCB := Lib.hid (refByte_any HIN.out)
  rw [List.drop_zero, HB1.out] at HCB
  refine HCB.out.mono ?_
  rintro e w4 ⟨a4, rfl, hin4, hd4, hgr4⟩
  have HG := Lib.hid (gr_start (kd := 3) hin4 hd4 hgr4 (by have := HZ3.out; omega) (by omega))
  have qn : (w4.alloc (.cells #[.int .i64 3, .int .i64 0, .int .u64 0, .int .u64 0, .int .u64 0, .int .u64 0, .int .u64 0, .slice none 0 0, .slice none 0 0] 33)).cell? ⟨w4.heap.size, 0, none⟩ = some (.int .i64 3) := HG.out.cellAt 0
  clear hin4 hd4 hgr4 HCB HIN HB1
  go_wp2_with fail
  change Calls _ _ _ (w4.alloc (headF 3 0 0).rbox) _
  clear qn
  generalize (w4.alloc (headF 3 0 0).rbox) = w5 at *
  obtain ⟨Az, nz, cz, az, pz, hinz, hdz⟩ := HG.out.inn
  have HC := Lib.hid (refMost_any hinz 15 (by omega))
  rw [hdz, H2.out] at HC
  refine HC.out.mono ?_
  rintro e y1 ⟨ay, rfl, hiny, hdy, hgry⟩
  have HGy := Lib.hid (HG.out.next hiny hdy hgry)
  have qo : y1.cell? ⟨w4.heap.size, 1, none⟩ = some (.int .i64 0) := HGy.out.cellAt 1
  have fo := HGy.out.frz 1
  replace HG := Lib.hid (HGy.out.set_ag a HAB.out)
  clear hinz hdz HC hiny hdy hgry HGy
  go_wp2_with fail
  generalize (y1.setCell ⟨w4.heap.size, 1, none⟩ (.int .i64 (a : Int))) = x1 at *
  clear qo fo
  obtain ⟨Az, nz, cz, az, pz, hinz, hdz⟩ := HG.out.inn
  have HC := Lib.hid (refNumber_any hinz)
  rw [hdz, H3.out] at HC
  refine HC.out.mono ?_
  rintro e y2 ⟨ay, rfl, hiny, hdy, hgry⟩
  have HGy := Lib.hid (HG.out.next hiny hdy hgry)
  have qo : y2.cell? ⟨w4.heap.size, 2, none⟩ = some (.int .u64 0) := HGy.out.cellAt 2
  have fo := HGy.out.frz 2
  have qk : y2.cell? ⟨w4.heap.size, 0, none⟩ = some (.int .i64 3) := HGy.out.cellAt 0
  replace HG := Lib.hid (HGy.out.set_ep ep HPB.out)
  clear hinz hdz HC hiny hdy hgry HGy
  go_wp2_with fail
  generalize (y2.setCell ⟨w4.heap.size, 2, none⟩ (.int .u64 (ep : Int))) = x2 at *
  clear qo fo
  clear qk
  obtain ⟨Az, nz, cz, az, pz, hinz, hdz⟩ := HG.out.inn
  have HC := Lib.hid (refNumber_any hinz)
  rw [hdz, H4.out] at HC
  refine HC.out.mono ?_
  rintro e y3 ⟨ay, rfl, hiny, hdy, hgry⟩
  have HGy := Lib.hid (HG.out.next hiny hdy hgry)
  have qo : y3.cell? ⟨w4.heap.size, 3, none⟩ = some (.int .u64 0) := HGy.out.cellAt 3
  have fo := HGy.out.frz 3
  have qk : y3.cell? ⟨w4.heap.size, 0, none⟩ = some (.int .i64 3) := HGy.out.cellAt 0
  replace HG := Lib.hid (HGy.out.set_ic v1 HV1.out)
  clear hinz hdz HC hiny hdy hgry HGy
  go_wp2_with fail
  generalize (y3.setCell ⟨w4.heap.size, 3, none⟩ (.int .u64 (v1 : Int))) = x3 at *
  clear qo fo
  clear qk
  obtain ⟨Az, nz, cz, az, pz, hinz, hdz⟩ := HG.out.inn
  have HC := Lib.hid (refNumber_any hinz)
  rw [hdz, H5.out] at HC
  refine HC.out.mono ?_
  rintro e y4 ⟨ay, rfl, hiny, hdy, hgry⟩
  have HGy := Lib.hid (HG.out.next hiny hdy hgry)
  have qo : y4.cell? ⟨w4.heap.size, 4, none⟩ = some (.int .u64 0) := HGy.out.cellAt 4
  have fo := HGy.out.frz 4
  have qk : y4.cell? ⟨w4.heap.size, 0, none⟩ = some (.int .i64 3) := HGy.out.cellAt 0
  replace HG := Lib.hid (HGy.out.set_ba v2 HV2.out)
  clear hinz hdz HC hiny hdy hgry HGy
  go_wp2_with fail
  generalize (y4.setCell ⟨w4.heap.size, 4, none⟩ (.int .u64 (v2 : Int))) = x4 at *
  clear qo fo
  clear qk
  obtain ⟨Az, nz, cz, az, pz, hinz, hdz⟩ := HG.out.inn
  have HC := Lib.hid (refMost_any hinz 64 (by omega))
  rw [hdz, H7.out] at HC
  refine HC.out.mono ?_
  rintro e y9 ⟨ay, rfl, hiny, hdy, hgry⟩
  have HST0 : Hid (RBatRel w3 w2.heap.size w4.heap.size 3 (a : Int) ep v1 v2 l7 e7 N N (.int .i64 (N : Int)) y9) := ⟨0, none, 0, 0, [], rfl, rfl, rfl, HG.out.next hiny hdy hgry⟩
  clear hinz hdz HC hiny hdy hgry HG H2 H3 H4 H5 H7 HV1 HV2
  go_wp2_with fail
  go_loopg [10] N (fun gk i wr => RBatRel w3 w2.heap.size w4.heap.size 3 (a : Int) ep v1 v2 l7 e7 N gk i wr)
  case atStart => exact HST0.out
  case round =>
    obtain ⟨j, A9, n9, cp, ks, hj, rfl, hks, hG⟩ := hrel
    have HJ := Lib.hid hj
    have HNJ : Hid (n9 = j) := by
      have h1 := hG.its.1
      have h2 := stItems_len l7 e7 j
      rw [← hks, List.length_map] at h2
      rw [show (batF 3 (a : Int) ep v1 v2 A9 n9 cp ks).ks = ks from rfl, show (batF 3 (a : Int) ep v1 v2 A9 n9 cp ks).ni = n9 from rfl, itvs_len, h2] at h1
      show _ = _
      omega
    obtain ⟨⟨S, l8, e8⟩, H8⟩ : ∃ x, Hid (stItems l7 e7 j = x) := ⟨_, rfl⟩
    rw [H8.out] at hG hks
    dsimp only at hG hks
    have HG := Lib.hid hG
    have HKS := Lib.hid hks
    clear hj hG HST0 hks
    by_cases hlt : 0 < gk
    · have hltI : (0 : Int) < (gk : Int) := by omega
      have hn33 : n9 ≤ 65 := by have := HNJ.out; have := HJ.out; omega
      have HU1 := Lib.hid (stItem_lt l8 e8)
      obtain ⟨⟨u1, u2, b, l9, e9⟩, H9⟩ : ∃ x, Hid (stItem l8 e8 = x) := ⟨_, rfl⟩
      rw [H9.out] at HU1
      have HST := Lib.hid (stItems_succ H8.out H9.out)
      go_wp2_with fail
      have hc7 : wr.drew.cell? ⟨w4.heap.size, 8, none⟩ = some (.slice A9 n9 cp) := HG.out.cellAt 8
      have HGd : Hid (Gr w3 wr.drew w2.heap.size w4.heap.size (batF 3 (a : Int) ep v1 v2 A9 n9 cp ks) l8 e8) := HG.out.drewN 1
      refine wp_region_noPanic ?_
      refine wp_region_F (S := (fun w' => w'.cell? ⟨w4.heap.size, 8, none⟩ = some (.slice A9 n9 cp))) (F := (fun j => j == 5 || j == 7)) (by kernel_rfl) hc7 (fun hHeld => ?_)
      refine wpAnyF_take0 (i := 0) (oi := { dst := some 93, op := Op.fieldAddr 33 (Operand.tmp 7) 8, type := 0, pos := "ref.go:122", after := #[], guard := none }) (v := ?_) rfl (by kernel_rfl) (by kernel_rfl) (by kernel_rfl) (fun _ _ _ h => h) (Or.inl ⟨by rfl, ?_⟩) ?_
      rotate_left
      · intro w hSw; (try dsimp only at hSw); first | (go_simp; done) | (go_simp; with_reducible rfl)
      try simp only [Act.put, List.setIfInBounds_toArray, List.set_cons_zero, List.set_cons_succ]
      refine wpAnyF_take (i := 1) (oi := { dst := some 94, op := Op.load 31 (Operand.tmp 93), type := 31, pos := "ref.go:122", after := #[{ on := 0, ground := Ground.data }], guard := none }) (v := ?_) (fun j hj => by simp only [Bool.or_eq_true, beq_iff_eq] at hj; rcases hj with rfl | rfl <;> exact of_decide_eq_true (by kernel_rfl)) rfl (by kernel_rfl) (by kernel_rfl) (by kernel_rfl) (by kernel_rfl) (by kernel_rfl) (fun _ _ _ h => h) (Or.inl ⟨by rfl, ?_⟩) (by assumption) ?_
      rotate_left
      · intro w hSw; (try dsimp only at hSw); first | (go_simp; done) | (go_simp; with_reducible rfl)
      try simp only [Act.put, List.setIfInBounds_toArray, List.set_cons_zero, List.set_cons_succ]
      refine wpAnyF_take0 (i := 2) (oi := { dst := some 95, op := Op.move (Operand.tmp 6), type := 90, pos := "ref.go:122", after := #[], guard := none }) (v := ?_) rfl (by kernel_rfl) (by kernel_rfl) (by kernel_rfl) (fun _ _ _ h => h) (Or.inl ⟨by rfl, ?_⟩) ?_
      rotate_left
      · intro w hSw; (try dsimp only at hSw); first | (go_simp; done) | (go_simp; with_reducible rfl)
      try simp only [Act.put, List.setIfInBounds_toArray, List.set_cons_zero, List.set_cons_succ]
      refine wpAnyF_one (i := 3) (o := { dst := some 96, op := Op.call { callee := Callee.value (Operand.func 45), args := #[Operand.tmp 95], argTypes := #[90] }, type := 73, pos := "ref.go:122", after := #[{ on := 2, ground := Ground.data }], guard := none }) (by kernel_rfl) rfl (fun K hK => ?_)
      go_simp
      go_at_call 45
      obtain ⟨Az, nz, cz, az, pz, hin7, hd7⟩ := HGd.out.inn
      have HC2 := Lib.hid (refGetItem_any hin7)
      rw [hd7, H9.out] at HC2
      refine HC2.out.mono ?_
      rintro e w6 ⟨a8, Ab, nb, cb, rfl, hob, hin8, hd8, hgr8⟩
      unfold itv
      have HG6 := Lib.hid (HGd.out.next hin8 hd8 hgr8)
      have hcA : w6.cell? ⟨w4.heap.size, 8, none⟩ = some (.slice A9 n9 cp) := HG6.out.cellAt 8
      have HOB := Lib.hid hob
      have hFd := HGd.out.fl
      clear hin7 HC2 hin8 hgr8 hob hd7 hd8
      try go_wp2_with fail
      try clear hHeld
      refine hK.out _ _ (by first | exact hcA | exact hcB) (fun hHeld => ?_)
      clear hK K
      try simp only [Act.put, List.setIfInBounds_toArray, List.set_cons_zero, List.set_cons_succ]
      refine wpAnyF_one (i := 4) (o := { dst := some 97, op := Op.buildSlice 31 1 #[(0, Operand.tmp 96)], type := 31, pos := "ref.go:122", after := #[{ on := 3, ground := Ground.data }], guard := none }) (by kernel_rfl) rfl (fun K hK => ?_)
      go_simp
      have HG7 := Lib.hid (HG6.out.onA (.cells #[.int .u64 (u1 : Int), .int .i64 (u2 : Int), .slice Ab nb cb] 73))
      have HOB7 := Lib.hid (HOB.out.alloc (.cells #[.int .u64 (u1 : Int), .int .i64 (u2 : Int), .slice Ab nb cb] 73))
      have hcB : (w6.alloc (.cells #[.int .u64 (u1 : Int), .int .i64 (u2 : Int), .slice Ab nb cb] 73)).cell? ⟨w4.heap.size, 8, none⟩ = some (.slice A9 n9 cp) := HG7.out.cellAt 8
      have HSQ : Hid (Sn (w6.alloc (.cells #[.int .u64 (u1 : Int), .int .i64 (u2 : Int), .slice Ab nb cb] 73)) (w6.heap.size + 1) (some ⟨w6.heap.size, 0, none⟩) 1 1 3 (Ik.v ⟨u1, (u2 : Int), ⟨Ab, nb, cb, b⟩⟩)) := lit_sn w6 73 (Ik.v ⟨u1, (u2 : Int), ⟨Ab, nb, cb, b⟩⟩) 1 3 rfl (by unfold maxLen; omega)
      try go_wp2_with fail
      try clear hHeld
      refine hK.out _ _ (by first | exact hcA | exact hcB) (fun hHeld => ?_)
      clear hK K
      try simp only [Act.put, List.setIfInBounds_toArray, List.set_cons_zero, List.set_cons_succ]
      refine wpAnyF_oneF (i := 5) (o := { dst := some 98, op := Op.call { callee := Callee.builtin Builtin.append, args := #[Operand.tmp 94, Operand.tmp 97], argTypes := #[31, 31] }, type := 31, pos := "ref.go:122", after := #[{ on := 1, ground := Ground.data }, { on := 4, ground := Ground.data }, { on := 3, ground := Ground.chain }], guard := none }) (by kernel_rfl) (by kernel_rfl) rfl (fun K hK => ?_)
      rw [if_pos (by rfl)]
      refine oper_append_dstN (.tmp 94) (.tmp 97) 31 31 rfl (w4.heap.size + 1) 73 i0 _ 3 40 Tryd.underlying31 hi0 hz0 hz1 hz2 rfl A9 n9 cp (itvs ks) rfl (.inr HG7.out.its) _ 1 (Ik.v ⟨u1, (u2 : Int), ⟨Ab, nb, cb, b⟩⟩) rfl (HSQ.out.src Tryd.underlying31 (itv_one _)) (by omega) (by omega) (by have := HG7.out.fl; omega) ?_
      intro AA cA w9 h1 h2 h3 h4 h5 h6
      have HB9 := Lib.hid h4
      have HO9 := Lib.hid (h3 HG7.out.its)
      have HR9 := Lib.hid h5
      have hF7 := HG7.out.blk
      have hblk9 := (h4.block w4.heap.size (by omega)).trans hF7
      have hc9 : w9.cell? ⟨w4.heap.size, 8, none⟩ = some (.slice A9 n9 cp) := (by rw [cell_of_row w9 _ 8 _ _ _ hblk9]; rfl)
      have hf9 := frz_block (i := 8) hblk9
      clear h1 h2 h3 h4 h5 h6 hF7 hblk9
      refine hK.out _ _ ?_
      clear hK K
      try simp only [Act.put, List.setIfInBounds_toArray, List.set_cons_zero, List.set_cons_succ]
      refine wpAnyF_take0 (i := 6) (oi := { dst := some 99, op := Op.fieldAddr 33 (Operand.tmp 7) 8, type := 0, pos := "ref.go:122", after := #[{ on := 0, ground := Ground.phase }, { on := 1, ground := Ground.phase }, { on := 2, ground := Ground.phase }, { on := 3, ground := Ground.phase }, { on := 4, ground := Ground.phase }, { on := 5, ground := Ground.phase }], guard := none }) (v := ?_) rfl (by kernel_rfl) (by kernel_rfl) (by kernel_rfl) (fun _ _ _ h => h) (Or.inl ⟨by rfl, ?_⟩) ?_
      rotate_left
      · intro w hSw; (try dsimp only at hSw); first | (go_simp; done) | (go_simp; with_reducible rfl)
      try simp only [Act.put, List.setIfInBounds_toArray, List.set_cons_zero, List.set_cons_succ]
      refine wpAnyF_oneF (i := 7) (o := { dst := none, op := Op.store 31 (Operand.tmp 99) (Operand.tmp 98), type := 0, pos := "ref.go:122", after := #[{ on := 6, ground := Ground.data }, { on := 5, ground := Ground.data }, { on := 5, ground := Ground.chain }, { on := 0, ground := Ground.phase }, { on := 1, ground := Ground.phase }, { on := 2, ground := Ground.phase }, { on := 3, ground := Ground.phase }, { on := 4, ground := Ground.phase }, { on := 5, ground := Ground.phase }], guard := none }) (by kernel_rfl) (by kernel_rfl) rfl (fun K hK => ?_)
      go_simp
      skip
      try go_wp2_with fail
      refine hK.out _ _ ?_
      clear hK K
      try simp only [Act.put, List.setIfInBounds_toArray, List.set_cons_zero, List.set_cons_succ]
      refine wpAnyF_done (by kernel_rfl) ?_ _
      refine NoPanic.normal ?_
      have HGZ := Lib.hid (HG7.out.item (x := ⟨u1, (u2 : Int), ⟨Ab, nb, cb, b⟩⟩) HB9.out HR9.out HO9.out ⟨own_lower HOB7.out (by omega), HU1.out⟩ ⟨rfl, rfl, rfl, rfl⟩)
      have hgk : ((gk : Int) - 1) = ((gk - 1 : Nat) : Int) := by omega
      have hwg : wrap64 ((gk - 1 : Nat) : Int) = ((gk - 1 : Nat) : Int) := by have := HJ.out; unfold wrap64; omega
      go_wp2
      go_roundg (gk - 1)
      case measure => omega
      case rel =>
        refine ⟨j + 1, AA, n9 + 1, cA, ks ++ [⟨u1, (u2 : Int), ⟨Ab, nb, cb, b⟩⟩], by have := HJ.out; omega, by first | rfl | (have := HJ.out; rw [hwg]) | (have := HJ.out; go_num), ?_, ?_⟩
        · rw [HST.out, List.map_append, HKS.out]; rfl
        · rw [HST.out]
          exact HGZ.out
    · have hltI : ¬ (0 : Int) < (gk : Int) := by omega
      obtain rfl : j = N := by have := HJ.out; omega
      obtain ⟨k, hk⟩ : ∃ k : Fv, k = batF 3 (a : Int) ep v1 v2 A9 n9 cp ks := ⟨_, rfl⟩
      have HNR : Hid (k.nr ≤ 40) := by rw [hk]; exact Nat.zero_le _
      have HNI : Hid (k.ni ≤ 70) := by rw [hk]; show n9 ≤ 70; have := HNJ.out; omega
      have HM : Hid (getM (opn l).1 = (k.m, l8, e8)) := by
        rw [hk]
        show _ = (Fm.mk 3 (a : Int) ep v1 v2 0 0 [] (ks.map Ik.it), l8, e8)
        rw [HKS.out, HX.out, H8.out]
      replace HG : Hid (Gr w3 wr w2.heap.size w4.heap.size k l8 e8) := by rw [hk]; exact HG.out
      have HG0 := HG
      clear hk HX H8 HKS HNJ HJ
      go_wp2_with fail
      obtain ⟨Ae, ne, ce, ae, pe, hine, hde⟩ := HG.out.inn
      have hce := refEnd_any hine
      rw [hde] at hce
      refine hce.mono ?_
      rintro e w6 ⟨a6, rfl, hin6, hd6, hgr6⟩
      have HG6 := Lib.hid (HG.out.next hin6 hd6 hgr6)
      clear hce hine hde hin6 hd6 hgr6 HG
      have hgR : w2.heap.size ≠ w.heap.size := by have := HZ2.out; omega
      have hRF : w.heap.size < w4.heap.size := by have := HZ2.out; have := HG6.out.le; have := HG6.out.lt; omega
      by_cases he : endN l8 e8 = 0
      · rw [he]
        have qA : ∀ i, w6.cell? ⟨w4.heap.size, i, none⟩ = (#[Value.int .i64 (k.kd : Int), .int .i64 k.ag, .int .u64 (k.ep : Int), .int .u64 (k.ic : Int), .int .u64 (k.ba : Int), .int .u64 (k.cu : Int), .int .u64 (k.li : Int), .slice k.Ar k.nr k.cr, .slice k.Ai k.ni k.ci] : Array Value)[i]? := fun i => cell_of_row w6 _ i _ _ _ HG6.out.blk
        obtain ⟨q0, q1, q2, q3, q4, q5, q6, q7, q8⟩ : w6.cell? ⟨w4.heap.size, 0, none⟩ = some (.int .i64 (k.kd : Int)) ∧ w6.cell? ⟨w4.heap.size, 1, none⟩ = some (.int .i64 k.ag) ∧ w6.cell? ⟨w4.heap.size, 2, none⟩ = some (.int .u64 (k.ep : Int)) ∧ w6.cell? ⟨w4.heap.size, 3, none⟩ = some (.int .u64 (k.ic : Int)) ∧ w6.cell? ⟨w4.heap.size, 4, none⟩ = some (.int .u64 (k.ba : Int)) ∧ w6.cell? ⟨w4.heap.size, 5, none⟩ = some (.int .u64 (k.cu : Int)) ∧ w6.cell? ⟨w4.heap.size, 6, none⟩ = some (.int .u64 (k.li : Int)) ∧ w6.cell? ⟨w4.heap.size, 7, none⟩ = some (.slice k.Ar k.nr k.cr) ∧ w6.cell? ⟨w4.heap.size, 8, none⟩ = some (.slice k.Ai k.ni k.ci) := ⟨qA 0, qA 1, qA 2, qA 3, qA 4, qA 5, qA 6, qA 7, qA 8⟩
        have HE8 := Lib.hid he
        clear he qA
        go_wp2_with fail
        have hc := refRightF_any w6 k HG6.out.fr HNR.out HNI.out
        refine hc.mono ?_
        rintro e w7 ⟨rfl, hb7⟩
        have HG7 := Lib.hid (HG6.out.on hb7)
        have hK7 := box_kept HK3.out HG7.out.gr hgR
        have HBW : Hid (Below w.heap.size w w7) := below_grown HB3.out HG7.out.gr (by have := HZ2.out; omega) (by have := HZ2.out; have := HZ3.out; omega)
        clear hc hb7 HG6 q0 q1 q2 q3 q4 q5 q6 q7 q8
        by_cases hri : RightP k.m
        · rw [decP_yes hri]
          have pA : ∀ i, w7.cell? ⟨w.heap.size, i, none⟩ = (#[Value.int .i64 0, .int .i64 0, .int .u64 0, .int .u64 0, .int .u64 0, .int .u64 0, .int .u64 0, .slice none 0 0, .slice none 0 0] : Array Value)[i]? := fun i => cell_of_row w7 _ i _ _ _ hK7
          obtain ⟨p0, p1, p2, p3, p4, p5, p6, p7, p8⟩ : w7.cell? ⟨w.heap.size, 0, none⟩ = some (.int .i64 0) ∧ w7.cell? ⟨w.heap.size, 1, none⟩ = some (.int .i64 0) ∧ w7.cell? ⟨w.heap.size, 2, none⟩ = some (.int .u64 0) ∧ w7.cell? ⟨w.heap.size, 3, none⟩ = some (.int .u64 0) ∧ w7.cell? ⟨w.heap.size, 4, none⟩ = some (.int .u64 0) ∧ w7.cell? ⟨w.heap.size, 5, none⟩ = some (.int .u64 0) ∧ w7.cell? ⟨w.heap.size, 6, none⟩ = some (.int .u64 0) ∧ w7.cell? ⟨w.heap.size, 7, none⟩ = some (.slice none 0 0) ∧ w7.cell? ⟨w.heap.size, 8, none⟩ = some (.slice none 0 0) := ⟨pA 0, pA 1, pA 2, pA 3, pA 4, pA 5, pA 6, pA 7, pA 8⟩
          obtain ⟨f0, f1, f2, f3, f4, f5, f6, f7, f8⟩ : w7.frozen? ⟨w.heap.size, 0, none⟩ = false ∧ w7.frozen? ⟨w.heap.size, 1, none⟩ = false ∧ w7.frozen? ⟨w.heap.size, 2, none⟩ = false ∧ w7.frozen? ⟨w.heap.size, 3, none⟩ = false ∧ w7.frozen? ⟨w.heap.size, 4, none⟩ = false ∧ w7.frozen? ⟨w.heap.size, 5, none⟩ = false ∧ w7.frozen? ⟨w.heap.size, 6, none⟩ = false ∧ w7.frozen? ⟨w.heap.size, 7, none⟩ = false ∧ w7.frozen? ⟨w.heap.size, 8, none⟩ = false := ⟨frz_block (i := 0) hK7, frz_block (i := 1) hK7, frz_block (i := 2) hK7, frz_block (i := 3) hK7, frz_block (i := 4) hK7, frz_block (i := 5) hK7, frz_block (i := 6) hK7, frz_block (i := 7) hK7, frz_block (i := 8) hK7⟩
          have sA : ∀ i, w7.cell? ⟨w4.heap.size, i, none⟩ = (#[Value.int .i64 (k.kd : Int), .int .i64 k.ag, .int .u64 (k.ep : Int), .int .u64 (k.ic : Int), .int .u64 (k.ba : Int), .int .u64 (k.cu : Int), .int .u64 (k.li : Int), .slice k.Ar k.nr k.cr, .slice k.Ai k.ni k.ci] : Array Value)[i]? := fun i => cell_of_row w7 _ i _ _ _ HG7.out.blk
          obtain ⟨s0, s1, s2, s3, s4, s5, s6, s7, s8⟩ : w7.cell? ⟨w4.heap.size, 0, none⟩ = some (.int .i64 (k.kd : Int)) ∧ w7.cell? ⟨w4.heap.size, 1, none⟩ = some (.int .i64 k.ag) ∧ w7.cell? ⟨w4.heap.size, 2, none⟩ = some (.int .u64 (k.ep : Int)) ∧ w7.cell? ⟨w4.heap.size, 3, none⟩ = some (.int .u64 (k.ic : Int)) ∧ w7.cell? ⟨w4.heap.size, 4, none⟩ = some (.int .u64 (k.ba : Int)) ∧ w7.cell? ⟨w4.heap.size, 5, none⟩ = some (.int .u64 (k.cu : Int)) ∧ w7.cell? ⟨w4.heap.size, 6, none⟩ = some (.int .u64 (k.li : Int)) ∧ w7.cell? ⟨w4.heap.size, 7, none⟩ = some (.slice k.Ar k.nr k.cr) ∧ w7.cell? ⟨w4.heap.size, 8, none⟩ = some (.slice k.Ai k.ni k.ci) := ⟨sA 0, sA 1, sA 2, sA 3, sA 4, sA 5, sA 6, sA 7, sA 8⟩
          have HB9 := Lib.hid (set9_heap (.int .i64 (k.kd : Int)) (.int .i64 k.ag) (.int .u64 (k.ep : Int)) (.int .u64 (k.ic : Int)) (.int .u64 (k.ba : Int)) (.int .u64 (k.cu : Int)) (.int .u64 (k.li : Int)) (.slice k.Ar k.nr k.cr) (.slice k.Ai k.ni k.ci) hK7)
          have HD := Lib.hid (dec_ok (by have := HL.out; omega) HE.out HM.out HE8.out hri)
          clear hK7 pA sA hri
          go_wp2
          have hr9 : ∀ i, (set9 w7 w.heap.size (.int .i64 (k.kd : Int)) (.int .i64 k.ag) (.int .u64 (k.ep : Int)) (.int .u64 (k.ic : Int)) (.int .u64 (k.ba : Int)) (.int .u64 (k.cu : Int)) (.int .u64 (k.li : Int)) (.slice k.Ar k.nr k.cr) (.slice k.Ai k.ni k.ci)).cell? ⟨w.heap.size, i, none⟩ = (#[Value.int .i64 (k.kd : Int), .int .i64 k.ag, .int .u64 (k.ep : Int), .int .u64 (k.ic : Int), .int .u64 (k.ba : Int), .int .u64 (k.cu : Int), .int .u64 (k.li : Int), .slice k.Ar k.nr k.cr, .slice k.Ai k.ni k.ci] : Array Value)[i]? := fun i => cell_of_row _ _ i _ _ _ HB9.out
          have hb9 := set9_below (.int .i64 (k.kd : Int)) (.int .i64 k.ag) (.int .u64 (k.ep : Int)) (.int .u64 (k.ic : Int)) (.int .u64 (k.ba : Int)) (.int .u64 (k.cu : Int)) (.int .u64 (k.li : Int)) (.slice k.Ar k.nr k.cr) (.slice k.Ai k.ni k.ci) HBW.out (Nat.le_refl _)
          have hw9 := HG7.out.frSet hRF (.int .i64 (k.kd : Int)) (.int .i64 k.ag) (.int .u64 (k.ep : Int)) (.int .u64 (k.ic : Int)) (.int .u64 (k.ba : Int)) (.int .u64 (k.cu : Int)) (.int .u64 (k.li : Int)) (.slice k.Ar k.nr k.cr) (.slice k.Ai k.ni k.ci)
          change bodyPost _ _ _ _ _ (set9 w7 w.heap.size (.int .i64 (k.kd : Int)) (.int .i64 k.ag) (.int .u64 (k.ep : Int)) (.int .u64 (k.ic : Int)) (.int .u64 (k.ba : Int)) (.int .u64 (k.cu : Int)) (.int .u64 (k.li : Int)) (.slice k.Ar k.nr k.cr) (.slice k.Ai k.ni k.ci))
          generalize (set9 w7 w.heap.size (.int .i64 (k.kd : Int)) (.int .i64 k.ag) (.int .u64 (k.ep : Int)) (.int .u64 (k.ic : Int)) (.int .u64 (k.ba : Int)) (.int .u64 (k.cu : Int)) (.int .u64 (k.li : Int)) (.slice k.Ar k.nr k.cr) (.slice k.Ai k.ni k.ci)) = wz at *
          refine bodyPost_ret (v := .tuple #[.agg #[Value.int .i64 (k.kd : Int), .int .i64 k.ag, .int .u64 (k.ep : Int), .int .u64 (k.ic : Int), .int .u64 (k.ba : Int), .int .u64 (k.cu : Int), .int .u64 (k.li : Int), .slice k.Ar k.nr k.cr, .slice k.Ai k.ni k.ci], .int .i64 0]) (by simp [results, Tryd.results22, go_sem, hr9]) rfl ?_
          exact ⟨k, by rw [HD.out]; rfl, by rw [HD.out], hw9, hb9⟩
        · rw [decP_no hri]
          have pA : ∀ i, w7.cell? ⟨w.heap.size, i, none⟩ = (#[Value.int .i64 0, .int .i64 0, .int .u64 0, .int .u64 0, .int .u64 0, .int .u64 0, .int .u64 0, .slice none 0 0, .slice none 0 0] : Array Value)[i]? := fun i => cell_of_row w7 _ i _ _ _ hK7
          obtain ⟨p0, p1, p2, p3, p4, p5, p6, p7, p8⟩ : w7.cell? ⟨w.heap.size, 0, none⟩ = some (.int .i64 0) ∧ w7.cell? ⟨w.heap.size, 1, none⟩ = some (.int .i64 0) ∧ w7.cell? ⟨w.heap.size, 2, none⟩ = some (.int .u64 0) ∧ w7.cell? ⟨w.heap.size, 3, none⟩ = some (.int .u64 0) ∧ w7.cell? ⟨w.heap.size, 4, none⟩ = some (.int .u64 0) ∧ w7.cell? ⟨w.heap.size, 5, none⟩ = some (.int .u64 0) ∧ w7.cell? ⟨w.heap.size, 6, none⟩ = some (.int .u64 0) ∧ w7.cell? ⟨w.heap.size, 7, none⟩ = some (.slice none 0 0) ∧ w7.cell? ⟨w.heap.size, 8, none⟩ = some (.slice none 0 0) := ⟨pA 0, pA 1, pA 2, pA 3, pA 4, pA 5, pA 6, pA 7, pA 8⟩
          obtain ⟨f0, f1, f2, f3, f4, f5, f6, f7, f8⟩ : w7.frozen? ⟨w.heap.size, 0, none⟩ = false ∧ w7.frozen? ⟨w.heap.size, 1, none⟩ = false ∧ w7.frozen? ⟨w.heap.size, 2, none⟩ = false ∧ w7.frozen? ⟨w.heap.size, 3, none⟩ = false ∧ w7.frozen? ⟨w.heap.size, 4, none⟩ = false ∧ w7.frozen? ⟨w.heap.size, 5, none⟩ = false ∧ w7.frozen? ⟨w.heap.size, 6, none⟩ = false ∧ w7.frozen? ⟨w.heap.size, 7, none⟩ = false ∧ w7.frozen? ⟨w.heap.size, 8, none⟩ = false := ⟨frz_block (i := 0) hK7, frz_block (i := 1) hK7, frz_block (i := 2) hK7, frz_block (i := 3) hK7, frz_block (i := 4) hK7, frz_block (i := 5) hK7, frz_block (i := 6) hK7, frz_block (i := 7) hK7, frz_block (i := 8) hK7⟩
          have HB9 := Lib.hid (set9_heap (.int .i64 0) (.int .i64 0) (.int .u64 0) (.int .u64 0) (.int .u64 0) (.int .u64 0) (.int .u64 0) (.slice none 0 0) (.slice none 0 0) hK7)
          have HD := Lib.hid (dec_arg (by have := HL.out; omega) HE.out HM.out HE8.out hri)
          clear hK7 pA hri
          go_wp2
          have hr9 : ∀ i, (set9 w7 w.heap.size (.int .i64 0) (.int .i64 0) (.int .u64 0) (.int .u64 0) (.int .u64 0) (.int .u64 0) (.int .u64 0) (.slice none 0 0) (.slice none 0 0)).cell? ⟨w.heap.size, i, none⟩ = (#[Value.int .i64 0, .int .i64 0, .int .u64 0, .int .u64 0, .int .u64 0, .int .u64 0, .int .u64 0, .slice none 0 0, .slice none 0 0] : Array Value)[i]? := fun i => cell_of_row _ _ i _ _ _ HB9.out
          have hb9 := set9_below (.int .i64 0) (.int .i64 0) (.int .u64 0) (.int .u64 0) (.int .u64 0) (.int .u64 0) (.int .u64 0) (.slice none 0 0) (.slice none 0 0) HBW.out (Nat.le_refl _)
          change bodyPost _ _ _ _ _ (set9 w7 w.heap.size (.int .i64 0) (.int .i64 0) (.int .u64 0) (.int .u64 0) (.int .u64 0) (.int .u64 0) (.int .u64 0) (.slice none 0 0) (.slice none 0 0))
          generalize (set9 w7 w.heap.size (.int .i64 0) (.int .i64 0) (.int .u64 0) (.int .u64 0) (.int .u64 0) (.int .u64 0) (.int .u64 0) (.slice none 0 0) (.slice none 0 0)) = wz at *
          refine bodyPost_ret (v := .tuple #[.agg #[Value.int .i64 0, .int .i64 0, .int .u64 0, .int .u64 0, .int .u64 0, .int .u64 0, .int .u64 0, .slice none 0 0, .slice none 0 0], .int .i64 1]) (by simp [results, Tryd.results22, go_sem, hr9]) rfl ?_
          exact ⟨zeroF, by rw [HD.out]; rfl, by rw [HD.out]; rfl, zeroF_at _, hb9⟩
      · have HD := Lib.hid (dec_end (by have := HL.out; omega) HE.out HM.out he)
        have h0I : (((endN l8 e8 : Nat) : Int) != 0) = true := by simp; omega
        have hK6 := box_kept HK3.out HG6.out.gr hgR
        have HBW : Hid (Below w.heap.size w w6) := below_grown HB3.out HG6.out.gr (by have := HZ2.out; omega) (by have := HZ2.out; have := HZ3.out; omega)
        have pA : ∀ i, w6.cell? ⟨w.heap.size, i, none⟩ = (#[Value.int .i64 0, .int .i64 0, .int .u64 0, .int .u64 0, .int .u64 0, .int .u64 0, .int .u64 0, .slice none 0 0, .slice none 0 0] : Array Value)[i]? := fun i => cell_of_row w6 _ i _ _ _ hK6
        obtain ⟨p0, p1, p2, p3, p4, p5, p6, p7, p8⟩ : w6.cell? ⟨w.heap.size, 0, none⟩ = some (.int .i64 0) ∧ w6.cell? ⟨w.heap.size, 1, none⟩ = some (.int .i64 0) ∧ w6.cell? ⟨w.heap.size, 2, none⟩ = some (.int .u64 0) ∧ w6.cell? ⟨w.heap.size, 3, none⟩ = some (.int .u64 0) ∧ w6.cell? ⟨w.heap.size, 4, none⟩ = some (.int .u64 0) ∧ w6.cell? ⟨w.heap.size, 5, none⟩ = some (.int .u64 0) ∧ w6.cell? ⟨w.heap.size, 6, none⟩ = some (.int .u64 0) ∧ w6.cell? ⟨w.heap.size, 7, none⟩ = some (.slice none 0 0) ∧ w6.cell? ⟨w.heap.size, 8, none⟩ = some (.slice none 0 0) := ⟨pA 0, pA 1, pA 2, pA 3, pA 4, pA 5, pA 6, pA 7, pA 8⟩
        obtain ⟨f0, f1, f2, f3, f4, f5, f6, f7, f8⟩ : w6.frozen? ⟨w.heap.size, 0, none⟩ = false ∧ w6.frozen? ⟨w.heap.size, 1, none⟩ = false ∧ w6.frozen? ⟨w.heap.size, 2, none⟩ = false ∧ w6.frozen? ⟨w.heap.size, 3, none⟩ = false ∧ w6.frozen? ⟨w.heap.size, 4, none⟩ = false ∧ w6.frozen? ⟨w.heap.size, 5, none⟩ = false ∧ w6.frozen? ⟨w.heap.size, 6, none⟩ = false ∧ w6.frozen? ⟨w.heap.size, 7, none⟩ = false ∧ w6.frozen? ⟨w.heap.size, 8, none⟩ = false := ⟨frz_block (i := 0) hK6, frz_block (i := 1) hK6, frz_block (i := 2) hK6, frz_block (i := 3) hK6, frz_block (i := 4) hK6, frz_block (i := 5) hK6, frz_block (i := 6) hK6, frz_block (i := 7) hK6, frz_block (i := 8) hK6⟩
        have HB9 := Lib.hid (set9_heap (.int .i64 0) (.int .i64 0) (.int .u64 0) (.int .u64 0) (.int .u64 0) (.int .u64 0) (.int .u64 0) (.slice none 0 0) (.slice none 0 0) hK6)
        generalize endN l8 e8 = er8 at *
        clear hK6 pA he HG6
        go_wp2
        have hr9 : ∀ i, (set9 w6 w.heap.size (.int .i64 0) (.int .i64 0) (.int .u64 0) (.int .u64 0) (.int .u64 0) (.int .u64 0) (.int .u64 0) (.slice none 0 0) (.slice none 0 0)).cell? ⟨w.heap.size, i, none⟩ = (#[Value.int .i64 0, .int .i64 0, .int .u64 0, .int .u64 0, .int .u64 0, .int .u64 0, .int .u64 0, .slice none 0 0, .slice none 0 0] : Array Value)[i]? := fun i => cell_of_row _ _ i _ _ _ HB9.out
        have hb9 := set9_below (.int .i64 0) (.int .i64 0) (.int .u64 0) (.int .u64 0) (.int .u64 0) (.int .u64 0) (.int .u64 0) (.slice none 0 0) (.slice none 0 0) HBW.out (Nat.le_refl _)
        change bodyPost _ _ _ _ _ (set9 w6 w.heap.size (.int .i64 0) (.int .i64 0) (.int .u64 0) (.int .u64 0) (.int .u64 0) (.int .u64 0) (.int .u64 0) (.slice none 0 0) (.slice none 0 0))
        generalize (set9 w6 w.heap.size (.int .i64 0) (.int .i64 0) (.int .u64 0) (.int .u64 0) (.int .u64 0) (.int .u64 0) (.int .u64 0) (.slice none 0 0) (.slice none 0 0)) = wz at *
        refine bodyPost_ret (v := .tuple #[.agg #[Value.int .i64 0, .int .i64 0, .int .u64 0, .int .u64 0, .int .u64 0, .int .u64 0, .int .u64 0, .slice none 0 0, .slice none 0 0], .int .i64 (er8 : Int)]) (by simp [results, Tryd.results22, go_sem, hr9]) rfl ?_
        exact ⟨zeroF, by rw [HD.out]; rfl, by rw [HD.out]; rfl, zeroF_at _, hb9⟩


set_option maxRecDepth 100000 in
set_option maxHeartbeats 4000000 in
theorem refDec4_any (w : World) (A : Option Addr) (n c : Nat) (l : List UInt8) (hs : Sl w w.heap.size A n c l) (hl : l.length ≤ 65507) {l1 : List UInt8} {e1 : Nat} (h2 : (opn l).2 = 0) (h1 : stByte (opn l).1 0 = (4, l1, e1)) :
    Calls Tryd.prog 22 #[.slice A n c] w (RDecPost w l) := by
  have hab := stMost_le l1 e1 15
  obtain ⟨⟨a, l2, e2⟩, H2⟩ : ∃ x, Hid (stMost l1 e1 15 = x) := ⟨_, rfl⟩
  rw [H2.out] at hab
  have HAB := Lib.hid (show a ≤ 64 by dsimp only at hab; omega)
  have HPB := Lib.hid (stNum_lt l2 e2)
  obtain ⟨⟨ep, l3, e3⟩, H3⟩ : ∃ x, Hid (stNum l2 e2 = x) := ⟨_, rfl⟩
  rw [H3.out] at HPB
  have HV1 := Lib.hid (stNum_lt l3 e3)
  obtain ⟨⟨v1, l4, e4⟩, H4⟩ : ∃ x, Hid (stNum l3 e3 = x) := ⟨_, rfl⟩
  rw [H4.out] at HV1
  have HV2 := Lib.hid (stNum_lt l4 e4)
  obtain ⟨⟨v2, l5, e5⟩, H5⟩ : ∃ x, Hid (stNum l4 e4 = x) := ⟨_, rfl⟩
  rw [H5.out] at HV2
  have HV3 := Lib.hid (stNum_lt l5 e5)
  obtain ⟨⟨v3, l6, e6⟩, H6⟩ : ∃ x, Hid (stNum l5 e5 = x) := ⟨_, rfl⟩
  rw [H6.out] at HV3
  have hN := stMost_le l6 e6 32
  obtain ⟨⟨N, l7, e7⟩, H7⟩ : ∃ x, Hid (stMost l6 e6 32 = x) := ⟨_, rfl⟩
  rw [H7.out] at hN
  dsimp only at hN
  obtain ⟨i0, hi0, hz0, hz1, hz2⟩ := info_parts rrun_info'
  have HX : Hid (getM (opn l).1 = (⟨4, (a : Int), ep, v1, 0, v2, v3, (stRuns l7 e7 N).1, []⟩, (stRuns l7 e7 N).2.1, (stRuns l7 e7 N).2.2)) := by
    show _ = _
    simp only [getM, getK, getA, h1, H2.out, H3.out, H4.out, H5.out, H6.out, H7.out]
    rfl
  have hln := hs.len
  have HS := Lib.hid hs
  have HE := Lib.hid h2
  have HL := Lib.hid hl
  have HO := Lib.hid (opn_short l)
  have HB1 := Lib.hid h1
  have hlI : ¬ (65507 : Int) < (n : Int) := by omega
  clear hs h2 hl hln h1 hab
  go_enter Tryd.func22, Tryd.ntmps22
  go_wp2_with fail
  have hbx := below_box w (.cells #[.int .i64 0, .int .i64 0, .int .u64 0, .int .u64 0, .int .u64 0, .int .u64 0, .int .u64 0, .slice none 0 0, .slice none 0 0] 33)
  have hblk := heap_alloc_new w (.cells #[.int .i64 0, .int .i64 0, .int .u64 0, .int .u64 0, .int .u64 0, .int .u64 0, .int .u64 0, .slice none 0 0, .slice none 0 0] 33)
  have hz : w.heap.size < (w.alloc (.cells #[.int .i64 0, .int .i64 0, .int .u64 0, .int .u64 0, .int .u64 0, .int .u64 0, .int .u64 0, .slice none 0 0, .slice none 0 0] 33)).heap.size := by simp
  have hs1 := HS.out.onA (.cells #[.int .i64 0, .int .i64 0, .int .u64 0, .int .u64 0, .int .u64 0, .int .u64 0, .int .u64 0, .slice none 0 0, .slice none 0 0] 33)
  generalize w.alloc (.cells #[.int .i64 0, .int .i64 0, .int .u64 0, .int .u64 0, .int .u64 0, .int .u64 0, .int .u64 0, .slice none 0 0, .slice none 0 0] 33) = wb at *
  refine (refOpen_any wb A n c l hs1 (by have := HL.out; omega)).mono ?_
  rintro e w2 ⟨A2, n2, c2, rfl, hs2, hb2⟩
  rw [HE.out]
  have HS2 := Lib.hid hs2
  have HK2 := Lib.hid ((hb2.block w.heap.size hz).trans hblk)
  have HB2 : Hid (Below w.heap.size w w2) := hbx.trans (hb2.mono hbx.size)
  have HZ2 : Hid (w.heap.size < w2.heap.size) := Nat.lt_of_lt_of_le hz hb2.size
  clear hbx hblk hz hs1 hb2 hs2 HS
  go_wp2_with fail
  have HIN : Hid (RefAt (w2.alloc (.cells #[.slice A2 n2 c2, .int .i64 0, .int .i64 0] 92)) w2.heap.size A2 n2 c2 0 0 (opn l).1) := ⟨heap_alloc_new w2 _, HS2.out.below (below_box w2 _) (Nat.le_refl _), Nat.zero_le _, by have := HO.out; have := HL.out; omega⟩
  have HK3 := Lib.hid (((below_box w2 (.cells #[.slice A2 n2 c2, .int .i64 0, .int .i64 0] 92)).block w.heap.size HZ2.out).trans HK2.out)
  have HB3 : Hid (Below w.heap.size w (w2.alloc (.cells #[.slice A2 n2 c2, .int .i64 0, .int .i64 0] 92))) := HB2.out.trans ((below_box w2 _).mono HB2.out.size)
  have HZ3 : Hid ((w2.alloc (.cells #[.slice A2 n2 c2, .int .i64 0, .int .i64 0] 92)).heap.size = w2.heap.size + 1) := by show _ = _; simp
  clear HS2 HK2 HB2 HO
  generalize w2.alloc (.cells #[.slice A2 n2 c2, .int .i64 0, .int .i64 0] 92) = w3 at *
  have HCB := Lib.hid (refByte_any HIN.out)
  rw [List.drop_zero, HB1.out] at HCB
  refine HCB.out.mono ?_
  rintro e w4 ⟨a4, rfl, hin4, hd4, hgr4⟩
  have HG := Lib.hid (gr_start (kd := 4) hin4 hd4 hgr4 (by have := HZ3.out; omega) (by omega))
  have qn : (w4.alloc (.cells #[.int .i64 4, .int .i64 0, .int .u64 0, .int .u64 0, .int .u64 0, .int .u64 0, .int .u64 0, .slice none 0 0, .slice none 0 0] 33)).cell? ⟨w4.heap.size, 0, none⟩ = some (.int .i64 4) := HG.out.cellAt 0
  clear hin4 hd4 hgr4 HCB HIN HB1
  go_wp2_with fail
  change Calls _ _ _ (w4.alloc (headF 4 0 0).rbox) _
  clear qn
  generalize (w4.alloc (headF 4 0 0).rbox) = w5 at *
  obtain ⟨Az, nz, cz, az, pz, hinz, hdz⟩ := HG.out.inn
  have HC := Lib.hid (refMost_any hinz 15 (by omega))
  rw [hdz, H2.out] at HC
  refine HC.out.mono ?_
  rintro e y1 ⟨ay, rfl, hiny, hdy, hgry⟩
  have HGy := Lib.hid (HG.out.next hiny hdy hgry)
  have qo : y1.cell? ⟨w4.heap.size, 1, none⟩ = some (.int .i64 0) := HGy.out.cellAt 1
  have fo := HGy.out.frz 1
  replace HG := Lib.hid (HGy.out.set_ag a HAB.out)
  clear hinz hdz HC hiny hdy hgry HGy
  go_wp2_with fail
  generalize (y1.setCell ⟨w4.heap.size, 1, none⟩ (.int .i64 (a : Int))) = x1 at *
  clear qo fo
  obtain ⟨Az, nz, cz, az, pz, hinz, hdz⟩ := HG.out.inn
  have HC := Lib.hid (refNumber_any hinz)
  rw [hdz, H3.out] at HC
  refine HC.out.mono ?_
  rintro e y2 ⟨ay, rfl, hiny, hdy, hgry⟩
  have HGy := Lib.hid (HG.out.next hiny hdy hgry)
  have qo : y2.cell? ⟨w4.heap.size, 2, none⟩ = some (.int .u64 0) := HGy.out.cellAt 2
  have fo := HGy.out.frz 2
  have qk : y2.cell? ⟨w4.heap.size, 0, none⟩ = some (.int .i64 4) := HGy.out.cellAt 0
  replace HG := Lib.hid (HGy.out.set_ep ep HPB.out)
  clear hinz hdz HC hiny hdy hgry HGy
  go_wp2_with fail
  generalize (y2.setCell ⟨w4.heap.size, 2, none⟩ (.int .u64 (ep : Int))) = x2 at *
  clear qo fo
  clear qk
  obtain ⟨Az, nz, cz, az, pz, hinz, hdz⟩ := HG.out.inn
  have HC := Lib.hid (refNumber_any hinz)
  rw [hdz, H4.out] at HC
  refine HC.out.mono ?_
  rintro e y3 ⟨ay, rfl, hiny, hdy, hgry⟩
  have HGy := Lib.hid (HG.out.next hiny hdy hgry)
  have qo : y3.cell? ⟨w4.heap.size, 3, none⟩ = some (.int .u64 0) := HGy.out.cellAt 3
  have fo := HGy.out.frz 3
  have qk : y3.cell? ⟨w4.heap.size, 0, none⟩ = some (.int .i64 4) := HGy.out.cellAt 0
  replace HG := Lib.hid (HGy.out.set_ic v1 HV1.out)
  clear hinz hdz HC hiny hdy hgry HGy
  go_wp2_with fail
  generalize (y3.setCell ⟨w4.heap.size, 3, none⟩ (.int .u64 (v1 : Int))) = x3 at *
  clear qo fo
  clear qk
  obtain ⟨Az, nz, cz, az, pz, hinz, hdz⟩ := HG.out.inn
  have HC := Lib.hid (refNumber_any hinz)
  rw [hdz, H5.out] at HC
  refine HC.out.mono ?_
  rintro e y4 ⟨ay, rfl, hiny, hdy, hgry⟩
  have HGy := Lib.hid (HG.out.next hiny hdy hgry)
  have qo : y4.cell? ⟨w4.heap.size, 5, none⟩ = some (.int .u64 0) := HGy.out.cellAt 5
  have fo := HGy.out.frz 5
  have qk : y4.cell? ⟨w4.heap.size, 0, none⟩ = some (.int .i64 4) := HGy.out.cellAt 0
  have qo6 : y4.cell? ⟨w4.heap.size, 6, none⟩ = some (.int .u64 0) := HGy.out.cellAt 6
  have fo6 := HGy.out.frz 6
  replace HG := Lib.hid (HGy.out.set_cu v2 HV2.out)
  clear hinz hdz HC hiny hdy hgry HGy
  have fo7 := HG.out.frz 6
  have HG0 : Hid (Gr w3 ((y4.setCell ⟨w4.heap.size, 5, none⟩ (.int .u64 (v2 : Int))).setCell ⟨w4.heap.size, 6, none⟩ (.int .u64 0)) w2.heap.size w4.heap.size _ l5 e5) := HG.out.set_li 0 (by decide)
  go_wp2_with fail
  generalize ((y4.setCell ⟨w4.heap.size, 5, none⟩ (.int .u64 (v2 : Int))).setCell ⟨w4.heap.size, 6, none⟩ (.int .u64 0)) = x4 at *
  replace HG := HG0
  clear HG0 fo7 fo6 qo6 qk
  clear qo fo
  obtain ⟨Az, nz, cz, az, pz, hinz, hdz⟩ := HG.out.inn
  have HC := Lib.hid (refNumber_any hinz)
  rw [hdz, H6.out] at HC
  refine HC.out.mono ?_
  rintro e y5 ⟨ay, rfl, hiny, hdy, hgry⟩
  have HGy := Lib.hid (HG.out.next hiny hdy hgry)
  have qo : y5.cell? ⟨w4.heap.size, 6, none⟩ = some (.int .u64 0) := HGy.out.cellAt 6
  have fo := HGy.out.frz 6
  replace HG := Lib.hid (HGy.out.set_li v3 HV3.out)
  clear hinz hdz HC hiny hdy hgry HGy
  go_wp2_with fail
  generalize (y5.setCell ⟨w4.heap.size, 6, none⟩ (.int .u64 (v3 : Int))) = x5 at *
  clear qo fo
  obtain ⟨Az, nz, cz, az, pz, hinz, hdz⟩ := HG.out.inn
  have HC := Lib.hid (refMost_any hinz 32 (by omega))
  rw [hdz, H7.out] at HC
  refine HC.out.mono ?_
  rintro e y9 ⟨ay, rfl, hiny, hdy, hgry⟩
  have HST0 : Hid (RAnsRel w3 w2.heap.size w4.heap.size 4 (a : Int) ep v1 v2 v3 l7 e7 N N (.int .i64 (N : Int)) y9) := ⟨0, none, 0, 0, rfl, rfl, HG.out.next hiny hdy hgry⟩
  clear hinz hdz HC hiny hdy hgry HG H2 H3 H4 H5 H7 HV1 HV2 H6 HV3
  go_wp2_with fail
  go_loopg [8] N (fun gk i wr => RAnsRel w3 w2.heap.size w4.heap.size 4 (a : Int) ep v1 v2 v3 l7 e7 N gk i wr)
  case atStart => exact HST0.out
  case round =>
    obtain ⟨j, A9, n9, cp, hj, rfl, hG⟩ := hrel
    have HJ := Lib.hid hj
    have HNJ : Hid (n9 = j) := by
      have h1 := hG.rs.1
      have h2 := stRuns_len l7 e7 j
      rw [show (ansF 4 (a : Int) ep v1 v2 v3 A9 n9 cp (stRuns l7 e7 j).1).L = (stRuns l7 e7 j).1 from rfl, show (ansF 4 (a : Int) ep v1 v2 v3 A9 n9 cp (stRuns l7 e7 j).1).nr = n9 from rfl, rvs_len, h2] at h1
      show _ = _
      omega
    obtain ⟨⟨S, l8, e8⟩, H8⟩ : ∃ x, Hid (stRuns l7 e7 j = x) := ⟨_, rfl⟩
    rw [H8.out] at hG
    dsimp only at hG
    have HG := Lib.hid hG
    clear hj hG HST0
    by_cases hlt : 0 < gk
    · have hltI : (0 : Int) < (gk : Int) := by omega
      have hn33 : n9 ≤ 33 := by have := HNJ.out; have := HJ.out; omega
      obtain ⟨Az, nz, cz, az, pz, hinz, hdz⟩ := HG.out.inn
      have HC1 := Lib.hid (refNumber_any hinz)
      have HU1 := Lib.hid (stNum_lt l8 e8)
      obtain ⟨⟨u1, l9, e9⟩, H9⟩ : ∃ x, Hid (stNum l8 e8 = x) := ⟨_, rfl⟩
      rw [hdz, H9.out] at HC1
      rw [H9.out] at HU1
      have HU2 := Lib.hid (stNum_lt l9 e9)
      obtain ⟨⟨u2, l10, e10⟩, H10⟩ : ∃ x, Hid (stNum l9 e9 = x) := ⟨_, rfl⟩
      rw [H10.out] at HU2
      have HST := Lib.hid (stRuns_succ H8.out H9.out H10.out)
      clear hinz hdz
      go_wp2_with fail
      refine HC1.out.mono ?_
      rintro e w10 ⟨a10, rfl, hin1, hd1, hgr1⟩
      have HG5 := Lib.hid (HG.out.next hin1 hd1 hgr1)
      clear hin1 hgr1 HC1 HG hd1
      go_wp2_with fail
      have hc7 : w10.drew.cell? ⟨w4.heap.size, 7, none⟩ = some (.slice A9 n9 cp) := HG5.out.cellAt 7
      have HGd : Hid (Gr w3 w10.drew w2.heap.size w4.heap.size (ansF 4 (a : Int) ep v1 v2 v3 A9 n9 cp S) l9 e9) := HG5.out.drewN 1
      refine wp_region_noPanic ?_
      refine wp_region_F (S := (fun w' => w'.cell? ⟨w4.heap.size, 7, none⟩ = some (.slice A9 n9 cp))) (F := (fun j => j == 7 || j == 9)) (by kernel_rfl) hc7 (fun hHeld => ?_)
      refine wpAnyF_take0 (i := 0) (oi := { dst := some 75, op := Op.fieldAddr 33 (Operand.tmp 7) 7, type := 0, pos := "ref.go:117", after := #[], guard := none }) (v := ?_) rfl (by kernel_rfl) (by kernel_rfl) (by kernel_rfl) (fun _ _ _ h => h) (Or.inl ⟨by rfl, ?_⟩) ?_
      rotate_left
      · intro w hSw; (try dsimp only at hSw); first | (go_simp; done) | (go_simp; with_reducible rfl)
      try simp only [Act.put, List.setIfInBounds_toArray, List.set_cons_zero, List.set_cons_succ]
      refine wpAnyF_take (i := 1) (oi := { dst := some 76, op := Op.load 30 (Operand.tmp 75), type := 30, pos := "ref.go:117", after := #[{ on := 0, ground := Ground.data }], guard := none }) (v := ?_) (fun j hj => by simp only [Bool.or_eq_true, beq_iff_eq] at hj; rcases hj with rfl | rfl <;> exact of_decide_eq_true (by kernel_rfl)) rfl (by kernel_rfl) (by kernel_rfl) (by kernel_rfl) (by kernel_rfl) (by kernel_rfl) (fun _ _ _ h => h) (Or.inl ⟨by rfl, ?_⟩) (by assumption) ?_
      rotate_left
      · intro w hSw; (try dsimp only at hSw); first | (go_simp; done) | (go_simp; with_reducible rfl)
      try simp only [Act.put, List.setIfInBounds_toArray, List.set_cons_zero, List.set_cons_succ]
      refine wpAnyF_take0 (i := 2) (oi := { dst := some 77, op := Op.move (Operand.tmp 9), type := 22, pos := "ref.go:117", after := #[], guard := none }) (v := ?_) rfl (by kernel_rfl) (by kernel_rfl) (by kernel_rfl) (fun _ _ _ h => h) (Or.inl ⟨by rfl, ?_⟩) ?_
      rotate_left
      · intro w hSw; (try dsimp only at hSw); first | (go_simp; done) | (go_simp; with_reducible rfl)
      try simp only [Act.put, List.setIfInBounds_toArray, List.set_cons_zero, List.set_cons_succ]
      refine wpAnyF_take0 (i := 3) (oi := { dst := some 78, op := Op.move (Operand.tmp 6), type := 90, pos := "ref.go:117", after := #[], guard := none }) (v := ?_) rfl (by kernel_rfl) (by kernel_rfl) (by kernel_rfl) (fun _ _ _ h => h) (Or.inl ⟨by rfl, ?_⟩) ?_
      rotate_left
      · intro w hSw; (try dsimp only at hSw); first | (go_simp; done) | (go_simp; with_reducible rfl)
      try simp only [Act.put, List.setIfInBounds_toArray, List.set_cons_zero, List.set_cons_succ]
      refine wpAnyF_one (i := 4) (o := { dst := some 79, op := Op.call { callee := Callee.value (Operand.func 44), args := #[Operand.tmp 78], argTypes := #[90] }, type := 22, pos := "ref.go:117", after := #[{ on := 3, ground := Ground.data }], guard := none }) (by kernel_rfl) rfl (fun K hK => ?_)
      go_simp
      go_at_call 44
      obtain ⟨Az, nz, cz, az, pz, hin7, hd7⟩ := HGd.out.inn
      have HC2 := Lib.hid (refNumber_any hin7)
      rw [hd7, H10.out] at HC2
      refine HC2.out.mono ?_
      rintro e w6 ⟨a8, rfl, hin8, hd8, hgr8⟩
      have HG6 := Lib.hid (HGd.out.next hin8 hd8 hgr8)
      have hcA : w6.cell? ⟨w4.heap.size, 7, none⟩ = some (.slice A9 n9 cp) := HG6.out.cellAt 7
      clear hin7 HC2 hin8 hgr8 hd7 hd8
      try go_wp2_with fail
      try clear hHeld
      refine hK.out _ _ (by first | exact hcA | exact hcB) (fun hHeld => ?_)
      clear hK K
      try simp only [Act.put, List.setIfInBounds_toArray, List.set_cons_zero, List.set_cons_succ]
      refine wpAnyF_take0 (i := 5) (oi := { dst := some 80, op := Op.build 76 #[(0, Operand.tmp 77), (1, Operand.tmp 79)], type := 76, pos := "ref.go:117", after := #[{ on := 2, ground := Ground.data }, { on := 4, ground := Ground.data }], guard := none }) (v := ?_) rfl (by kernel_rfl) (by kernel_rfl) (by kernel_rfl) (fun _ _ _ h => h) (Or.inl ⟨by rfl, ?_⟩) ?_
      rotate_left
      · intro w hSw; (try dsimp only at hSw); first | (go_simp; done) | (go_simp; with_reducible rfl)
      try simp only [Act.put, List.setIfInBounds_toArray, List.set_cons_zero, List.set_cons_succ]
      refine wpAnyF_one (i := 6) (o := { dst := some 81, op := Op.buildSlice 30 1 #[(0, Operand.tmp 80)], type := 30, pos := "ref.go:117", after := #[{ on := 5, ground := Ground.data }], guard := none }) (by kernel_rfl) rfl (fun K hK => ?_)
      go_simp
      have HG7 := Lib.hid (HG6.out.onA (.cells #[.int .u64 (u1 : Int), .int .u64 (u2 : Int)] 76))
      have hcB : (w6.alloc (.cells #[.int .u64 (u1 : Int), .int .u64 (u2 : Int)] 76)).cell? ⟨w4.heap.size, 7, none⟩ = some (.slice A9 n9 cp) := HG7.out.cellAt 7
      have HSQ : Hid (Sn (w6.alloc (.cells #[.int .u64 (u1 : Int), .int .u64 (u2 : Int)] 76)) (w6.heap.size + 1) (some ⟨w6.heap.size, 0, none⟩) 1 1 2 (rv (u1, u2))) := lit_sn w6 76 (rv (u1, u2)) 1 2 rfl (by unfold maxLen; omega)
      try go_wp2_with fail
      try clear hHeld
      refine hK.out _ _ (by first | exact hcA | exact hcB) (fun hHeld => ?_)
      clear hK K
      try simp only [Act.put, List.setIfInBounds_toArray, List.set_cons_zero, List.set_cons_succ]
      refine wpAnyF_oneF (i := 7) (o := { dst := some 82, op := Op.call { callee := Callee.builtin Builtin.append, args := #[Operand.tmp 76, Operand.tmp 81], argTypes := #[30, 30] }, type := 30, pos := "ref.go:117", after := #[{ on := 1, ground := Ground.data }, { on := 6, ground := Ground.data }, { on := 4, ground := Ground.chain }], guard := none }) (by kernel_rfl) (by kernel_rfl) rfl (fun K hK => ?_)
      rw [if_pos (by rfl)]
      refine oper_append_dstN (.tmp 76) (.tmp 81) 30 30 rfl (w4.heap.size + 1) 76 i0 _ 2 16 Tryd.underlying30 hi0 hz0 hz1 hz2 rfl A9 n9 cp (rvs S) rfl (.inr HG7.out.rs) _ 1 (rv (u1, u2)) rfl (HSQ.out.src Tryd.underlying30 (rv_one (u1, u2))) (by omega) (by omega) (by have := HG7.out.fl; omega) ?_
      intro AA cA w9 h1 h2 h3 h4 h5 h6
      have HB9 := Lib.hid h4
      have HO9 := Lib.hid (h3 HG7.out.rs)
      have hF7 := HG7.out.blk
      have hblk9 := (h4.block w4.heap.size (by omega)).trans hF7
      have hc9 : w9.cell? ⟨w4.heap.size, 7, none⟩ = some (.slice A9 n9 cp) := (by rw [cell_of_row w9 _ 7 _ _ _ hblk9]; rfl)
      have hf9 := frz_block (i := 7) hblk9
      clear h1 h2 h3 h4 h5 h6 hF7 hblk9
      refine hK.out _ _ ?_
      clear hK K
      try simp only [Act.put, List.setIfInBounds_toArray, List.set_cons_zero, List.set_cons_succ]
      refine wpAnyF_take0 (i := 8) (oi := { dst := some 83, op := Op.fieldAddr 33 (Operand.tmp 7) 7, type := 0, pos := "ref.go:117", after := #[{ on := 0, ground := Ground.phase }, { on := 1, ground := Ground.phase }, { on := 2, ground := Ground.phase }, { on := 3, ground := Ground.phase }, { on := 4, ground := Ground.phase }, { on := 5, ground := Ground.phase }, { on := 6, ground := Ground.phase }, { on := 7, ground := Ground.phase }], guard := none }) (v := ?_) rfl (by kernel_rfl) (by kernel_rfl) (by kernel_rfl) (fun _ _ _ h => h) (Or.inl ⟨by rfl, ?_⟩) ?_
      rotate_left
      · intro w hSw; (try dsimp only at hSw); first | (go_simp; done) | (go_simp; with_reducible rfl)
      try simp only [Act.put, List.setIfInBounds_toArray, List.set_cons_zero, List.set_cons_succ]
      refine wpAnyF_oneF (i := 9) (o := { dst := none, op := Op.store 30 (Operand.tmp 83) (Operand.tmp 82), type := 0, pos := "ref.go:117", after := #[{ on := 8, ground := Ground.data }, { on := 7, ground := Ground.data }, { on := 7, ground := Ground.chain }, { on := 0, ground := Ground.phase }, { on := 1, ground := Ground.phase }, { on := 2, ground := Ground.phase }, { on := 3, ground := Ground.phase }, { on := 4, ground := Ground.phase }, { on := 5, ground := Ground.phase }, { on := 6, ground := Ground.phase }, { on := 7, ground := Ground.phase }], guard := none }) (by kernel_rfl) (by kernel_rfl) rfl (fun K hK => ?_)
      go_simp
      skip
      try go_wp2_with fail
      refine hK.out _ _ ?_
      clear hK K
      try simp only [Act.put, List.setIfInBounds_toArray, List.set_cons_zero, List.set_cons_succ]
      refine wpAnyF_done (by kernel_rfl) ?_ _
      refine NoPanic.normal ?_
      have HGZ := Lib.hid (HG7.out.run HB9.out HO9.out ⟨HU1.out, HU2.out⟩ ⟨rfl, rfl, rfl, rfl⟩)
      have hgk : ((gk : Int) - 1) = ((gk - 1 : Nat) : Int) := by omega
      have hwg : wrap64 ((gk - 1 : Nat) : Int) = ((gk - 1 : Nat) : Int) := by have := HJ.out; unfold wrap64; omega
      go_wp2
      go_roundg (gk - 1)
      case measure => omega
      case rel =>
        refine ⟨j + 1, AA, n9 + 1, cA, by have := HJ.out; omega, by first | rfl | (have := HJ.out; rw [hwg]) | (have := HJ.out; go_num), ?_⟩
        rw [HST.out]
        exact HGZ.out
    · have hltI : ¬ (0 : Int) < (gk : Int) := by omega
      obtain rfl : j = N := by have := HJ.out; omega
      obtain ⟨k, hk⟩ : ∃ k : Fv, k = ansF 4 (a : Int) ep v1 v2 v3 A9 n9 cp S := ⟨_, rfl⟩
      have HNR : Hid (k.nr ≤ 40) := by rw [hk]; show n9 ≤ 40; have := HNJ.out; omega
      have HNI : Hid (k.ni ≤ 70) := by rw [hk]; exact Nat.zero_le _
      have HM : Hid (getM (opn l).1 = (k.m, l8, e8)) := by
        rw [hk]
        show _ = (Fm.mk 4 (a : Int) ep v1 0 v2 v3 S [], l8, e8)
        rw [HX.out, H8.out]
      have qk : wr.cell? ⟨w4.heap.size, 0, none⟩ = some (.int .i64 4) := HG.out.cellAt 0
      replace HG : Hid (Gr w3 wr w2.heap.size w4.heap.size k l8 e8) := by rw [hk]; exact HG.out
      clear hk HX H8 HNJ HJ
      go_wp2_with fail
      clear qk
      obtain ⟨Ae, ne, ce, ae, pe, hine, hde⟩ := HG.out.inn
      have hce := refEnd_any hine
      rw [hde] at hce
      refine hce.mono ?_
      rintro e w6 ⟨a6, rfl, hin6, hd6, hgr6⟩
      have HG6 := Lib.hid (HG.out.next hin6 hd6 hgr6)
      clear hce hine hde hin6 hd6 hgr6 HG
      have hgR : w2.heap.size ≠ w.heap.size := by have := HZ2.out; omega
      have hRF : w.heap.size < w4.heap.size := by have := HZ2.out; have := HG6.out.le; have := HG6.out.lt; omega
      by_cases he : endN l8 e8 = 0
      · rw [he]
        have qA : ∀ i, w6.cell? ⟨w4.heap.size, i, none⟩ = (#[Value.int .i64 (k.kd : Int), .int .i64 k.ag, .int .u64 (k.ep : Int), .int .u64 (k.ic : Int), .int .u64 (k.ba : Int), .int .u64 (k.cu : Int), .int .u64 (k.li : Int), .slice k.Ar k.nr k.cr, .slice k.Ai k.ni k.ci] : Array Value)[i]? := fun i => cell_of_row w6 _ i _ _ _ HG6.out.blk
        obtain ⟨q0, q1, q2, q3, q4, q5, q6, q7, q8⟩ : w6.cell? ⟨w4.heap.size, 0, none⟩ = some (.int .i64 (k.kd : Int)) ∧ w6.cell? ⟨w4.heap.size, 1, none⟩ = some (.int .i64 k.ag) ∧ w6.cell? ⟨w4.heap.size, 2, none⟩ = some (.int .u64 (k.ep : Int)) ∧ w6.cell? ⟨w4.heap.size, 3, none⟩ = some (.int .u64 (k.ic : Int)) ∧ w6.cell? ⟨w4.heap.size, 4, none⟩ = some (.int .u64 (k.ba : Int)) ∧ w6.cell? ⟨w4.heap.size, 5, none⟩ = some (.int .u64 (k.cu : Int)) ∧ w6.cell? ⟨w4.heap.size, 6, none⟩ = some (.int .u64 (k.li : Int)) ∧ w6.cell? ⟨w4.heap.size, 7, none⟩ = some (.slice k.Ar k.nr k.cr) ∧ w6.cell? ⟨w4.heap.size, 8, none⟩ = some (.slice k.Ai k.ni k.ci) := ⟨qA 0, qA 1, qA 2, qA 3, qA 4, qA 5, qA 6, qA 7, qA 8⟩
        have HE8 := Lib.hid he
        clear he qA
        go_wp2_with fail
        have hc := refRightF_any w6 k HG6.out.fr HNR.out HNI.out
        refine hc.mono ?_
        rintro e w7 ⟨rfl, hb7⟩
        have HG7 := Lib.hid (HG6.out.on hb7)
        have hK7 := box_kept HK3.out HG7.out.gr hgR
        have HBW : Hid (Below w.heap.size w w7) := below_grown HB3.out HG7.out.gr (by have := HZ2.out; omega) (by have := HZ2.out; have := HZ3.out; omega)
        clear hc hb7 HG6 q0 q1 q2 q3 q4 q5 q6 q7 q8
        by_cases hri : RightP k.m
        · rw [decP_yes hri]
          have pA : ∀ i, w7.cell? ⟨w.heap.size, i, none⟩ = (#[Value.int .i64 0, .int .i64 0, .int .u64 0, .int .u64 0, .int .u64 0, .int .u64 0, .int .u64 0, .slice none 0 0, .slice none 0 0] : Array Value)[i]? := fun i => cell_of_row w7 _ i _ _ _ hK7
          obtain ⟨p0, p1, p2, p3, p4, p5, p6, p7, p8⟩ : w7.cell? ⟨w.heap.size, 0, none⟩ = some (.int .i64 0) ∧ w7.cell? ⟨w.heap.size, 1, none⟩ = some (.int .i64 0) ∧ w7.cell? ⟨w.heap.size, 2, none⟩ = some (.int .u64 0) ∧ w7.cell? ⟨w.heap.size, 3, none⟩ = some (.int .u64 0) ∧ w7.cell? ⟨w.heap.size, 4, none⟩ = some (.int .u64 0) ∧ w7.cell? ⟨w.heap.size, 5, none⟩ = some (.int .u64 0) ∧ w7.cell? ⟨w.heap.size, 6, none⟩ = some (.int .u64 0) ∧ w7.cell? ⟨w.heap.size, 7, none⟩ = some (.slice none 0 0) ∧ w7.cell? ⟨w.heap.size, 8, none⟩ = some (.slice none 0 0) := ⟨pA 0, pA 1, pA 2, pA 3, pA 4, pA 5, pA 6, pA 7, pA 8⟩
          obtain ⟨f0, f1, f2, f3, f4, f5, f6, f7, f8⟩ : w7.frozen? ⟨w.heap.size, 0, none⟩ = false ∧ w7.frozen? ⟨w.heap.size, 1, none⟩ = false ∧ w7.frozen? ⟨w.heap.size, 2, none⟩ = false ∧ w7.frozen? ⟨w.heap.size, 3, none⟩ = false ∧ w7.frozen? ⟨w.heap.size, 4, none⟩ = false ∧ w7.frozen? ⟨w.heap.size, 5, none⟩ = false ∧ w7.frozen? ⟨w.heap.size, 6, none⟩ = false ∧ w7.frozen? ⟨w.heap.size, 7, none⟩ = false ∧ w7.frozen? ⟨w.heap.size, 8, none⟩ = false := ⟨frz_block (i := 0) hK7, frz_block (i := 1) hK7, frz_block (i := 2) hK7, frz_block (i := 3) hK7, frz_block (i := 4) hK7, frz_block (i := 5) hK7, frz_block (i := 6) hK7, frz_block (i := 7) hK7, frz_block (i := 8) hK7⟩
          have sA : ∀ i, w7.cell? ⟨w4.heap.size, i, none⟩ = (#[Value.int .i64 (k.kd : Int), .int .i64 k.ag, .int .u64 (k.ep : Int), .int .u64 (k.ic : Int), .int .u64 (k.ba : Int), .int .u64 (k.cu : Int), .int .u64 (k.li : Int), .slice k.Ar k.nr k.cr, .slice k.Ai k.ni k.ci] : Array Value)[i]? := fun i => cell_of_row w7 _ i _ _ _ HG7.out.blk
          obtain ⟨s0, s1, s2, s3, s4, s5, s6, s7, s8⟩ : w7.cell? ⟨w4.heap.size, 0, none⟩ = some (.int .i64 (k.kd : Int)) ∧ w7.cell? ⟨w4.heap.size, 1, none⟩ = some (.int .i64 k.ag) ∧ w7.cell? ⟨w4.heap.size, 2, none⟩ = some (.int .u64 (k.ep : Int)) ∧ w7.cell? ⟨w4.heap.size, 3, none⟩ = some (.int .u64 (k.ic : Int)) ∧ w7.cell? ⟨w4.heap.size, 4, none⟩ = some (.int .u64 (k.ba : Int)) ∧ w7.cell? ⟨w4.heap.size, 5, none⟩ = some (.int .u64 (k.cu : Int)) ∧ w7.cell? ⟨w4.heap.size, 6, none⟩ = some (.int .u64 (k.li : Int)) ∧ w7.cell? ⟨w4.heap.size, 7, none⟩ = some (.slice k.Ar k.nr k.cr) ∧ w7.cell? ⟨w4.heap.size, 8, none⟩ = some (.slice k.Ai k.ni k.ci) := ⟨sA 0, sA 1, sA 2, sA 3, sA 4, sA 5, sA 6, sA 7, sA 8⟩
          have HB9 := Lib.hid (set9_heap (.int .i64 (k.kd : Int)) (.int .i64 k.ag) (.int .u64 (k.ep : Int)) (.int .u64 (k.ic : Int)) (.int .u64 (k.ba : Int)) (.int .u64 (k.cu : Int)) (.int .u64 (k.li : Int)) (.slice k.Ar k.nr k.cr) (.slice k.Ai k.ni k.ci) hK7)
          have HD := Lib.hid (dec_ok (by have := HL.out; omega) HE.out HM.out HE8.out hri)
          clear hK7 pA sA hri
          go_wp2
          have hr9 : ∀ i, (set9 w7 w.heap.size (.int .i64 (k.kd : Int)) (.int .i64 k.ag) (.int .u64 (k.ep : Int)) (.int .u64 (k.ic : Int)) (.int .u64 (k.ba : Int)) (.int .u64 (k.cu : Int)) (.int .u64 (k.li : Int)) (.slice k.Ar k.nr k.cr) (.slice k.Ai k.ni k.ci)).cell? ⟨w.heap.size, i, none⟩ = (#[Value.int .i64 (k.kd : Int), .int .i64 k.ag, .int .u64 (k.ep : Int), .int .u64 (k.ic : Int), .int .u64 (k.ba : Int), .int .u64 (k.cu : Int), .int .u64 (k.li : Int), .slice k.Ar k.nr k.cr, .slice k.Ai k.ni k.ci] : Array Value)[i]? := fun i => cell_of_row _ _ i _ _ _ HB9.out
          have hb9 := set9_below (.int .i64 (k.kd : Int)) (.int .i64 k.ag) (.int .u64 (k.ep : Int)) (.int .u64 (k.ic : Int)) (.int .u64 (k.ba : Int)) (.int .u64 (k.cu : Int)) (.int .u64 (k.li : Int)) (.slice k.Ar k.nr k.cr) (.slice k.Ai k.ni k.ci) HBW.out (Nat.le_refl _)
          have hw9 := HG7.out.frSet hRF (.int .i64 (k.kd : Int)) (.int .i64 k.ag) (.int .u64 (k.ep : Int)) (.int .u64 (k.ic : Int)) (.int .u64 (k.ba : Int)) (.int .u64 (k.cu : Int)) (.int .u64 (k.li : Int)) (.slice k.Ar k.nr k.cr) (.slice k.Ai k.ni k.ci)
          change bodyPost _ _ _ _ _ (set9 w7 w.heap.size (.int .i64 (k.kd : Int)) (.int .i64 k.ag) (.int .u64 (k.ep : Int)) (.int .u64 (k.ic : Int)) (.int .u64 (k.ba : Int)) (.int .u64 (k.cu : Int)) (.int .u64 (k.li : Int)) (.slice k.Ar k.nr k.cr) (.slice k.Ai k.ni k.ci))
          generalize (set9 w7 w.heap.size (.int .i64 (k.kd : Int)) (.int .i64 k.ag) (.int .u64 (k.ep : Int)) (.int .u64 (k.ic : Int)) (.int .u64 (k.ba : Int)) (.int .u64 (k.cu : Int)) (.int .u64 (k.li : Int)) (.slice k.Ar k.nr k.cr) (.slice k.Ai k.ni k.ci)) = wz at *
          refine bodyPost_ret (v := .tuple #[.agg #[Value.int .i64 (k.kd : Int), .int .i64 k.ag, .int .u64 (k.ep : Int), .int .u64 (k.ic : Int), .int .u64 (k.ba : Int), .int .u64 (k.cu : Int), .int .u64 (k.li : Int), .slice k.Ar k.nr k.cr, .slice k.Ai k.ni k.ci], .int .i64 0]) (by simp [results, Tryd.results22, go_sem, hr9]) rfl ?_
          exact ⟨k, by rw [HD.out]; rfl, by rw [HD.out], hw9, hb9⟩
        · rw [decP_no hri]
          have pA : ∀ i, w7.cell? ⟨w.heap.size, i, none⟩ = (#[Value.int .i64 0, .int .i64 0, .int .u64 0, .int .u64 0, .int .u64 0, .int .u64 0, .int .u64 0, .slice none 0 0, .slice none 0 0] : Array Value)[i]? := fun i => cell_of_row w7 _ i _ _ _ hK7
          obtain ⟨p0, p1, p2, p3, p4, p5, p6, p7, p8⟩ : w7.cell? ⟨w.heap.size, 0, none⟩ = some (.int .i64 0) ∧ w7.cell? ⟨w.heap.size, 1, none⟩ = some (.int .i64 0) ∧ w7.cell? ⟨w.heap.size, 2, none⟩ = some (.int .u64 0) ∧ w7.cell? ⟨w.heap.size, 3, none⟩ = some (.int .u64 0) ∧ w7.cell? ⟨w.heap.size, 4, none⟩ = some (.int .u64 0) ∧ w7.cell? ⟨w.heap.size, 5, none⟩ = some (.int .u64 0) ∧ w7.cell? ⟨w.heap.size, 6, none⟩ = some (.int .u64 0) ∧ w7.cell? ⟨w.heap.size, 7, none⟩ = some (.slice none 0 0) ∧ w7.cell? ⟨w.heap.size, 8, none⟩ = some (.slice none 0 0) := ⟨pA 0, pA 1, pA 2, pA 3, pA 4, pA 5, pA 6, pA 7, pA 8⟩
          obtain ⟨f0, f1, f2, f3, f4, f5, f6, f7, f8⟩ : w7.frozen? ⟨w.heap.size, 0, none⟩ = false ∧ w7.frozen? ⟨w.heap.size, 1, none⟩ = false ∧ w7.frozen? ⟨w.heap.size, 2, none⟩ = false ∧ w7.frozen? ⟨w.heap.size, 3, none⟩ = false ∧ w7.frozen? ⟨w.heap.size, 4, none⟩ = false ∧ w7.frozen? ⟨w.heap.size, 5, none⟩ = false ∧ w7.frozen? ⟨w.heap.size, 6, none⟩ = false ∧ w7.frozen? ⟨w.heap.size, 7, none⟩ = false ∧ w7.frozen? ⟨w.heap.size, 8, none⟩ = false := ⟨frz_block (i := 0) hK7, frz_block (i := 1) hK7, frz_block (i := 2) hK7, frz_block (i := 3) hK7, frz_block (i := 4) hK7, frz_block (i := 5) hK7, frz_block (i := 6) hK7, frz_block (i := 7) hK7, frz_block (i := 8) hK7⟩
          have HB9 := Lib.hid (set9_heap (.int .i64 0) (.int .i64 0) (.int .u64 0) (.int .u64 0) (.int .u64 0) (.int .u64 0) (.int .u64 0) (.slice none 0 0) (.slice none 0 0) hK7)
          have HD := Lib.hid (dec_arg (by have := HL.out; omega) HE.out HM.out HE8.out hri)
          clear hK7 pA hri
          go_wp2
          have hr9 : ∀ i, (set9 w7 w.heap.size (.int .i64 0) (.int .i64 0) (.int .u64 0) (.int .u64 0) (.int .u64 0) (.int .u64 0) (.int .u64 0) (.slice none 0 0) (.slice none 0 0)).cell? ⟨w.heap.size, i, none⟩ = (#[Value.int .i64 0, .int .i64 0, .int .u64 0, .int .u64 0, .int .u64 0, .int .u64 0, .int .u64 0, .slice none 0 0, .slice none 0 0] : Array Value)[i]? := fun i => cell_of_row _ _ i _ _ _ HB9.out
          have hb9 := set9_below (.int .i64 0) (.int .i64 0) (.int .u64 0) (.int .u64 0) (.int .u64 0) (.int .u64 0) (.int .u64 0) (.slice none 0 0) (.slice none 0 0) HBW.out (Nat.le_refl _)
          change bodyPost _ _ _ _ _ (set9 w7 w.heap.size (.int .i64 0) (.int .i64 0) (.int .u64 0) (.int .u64 0) (.int .u64 0) (.int .u64 0) (.int .u64 0) (.slice none 0 0) (.slice none 0 0))
          generalize (set9 w7 w.heap.size (.int .i64 0) (.int .i64 0) (.int .u64 0) (.int .u64 0) (.int .u64 0) (.int .u64 0) (.int .u64 0) (.slice none 0 0) (.slice none 0 0)) = wz at *
          refine bodyPost_ret (v := .tuple #[.agg #[Value.int .i64 0, .int .i64 0, .int .u64 0, .int .u64 0, .int .u64 0, .int .u64 0, .int .u64 0, .slice none 0 0, .slice none 0 0], .int .i64 1]) (by simp [results, Tryd.results22, go_sem, hr9]) rfl ?_
          exact ⟨zeroF, by rw [HD.out]; rfl, by rw [HD.out]; rfl, zeroF_at _, hb9⟩
      · have HD := Lib.hid (dec_end (by have := HL.out; omega) HE.out HM.out he)
        have h0I : (((endN l8 e8 : Nat) : Int) != 0) = true := by simp; omega
        have hK6 := box_kept HK3.out HG6.out.gr hgR
        have HBW : Hid (Below w.heap.size w w6) := below_grown HB3.out HG6.out.gr (by have := HZ2.out; omega) (by have := HZ2.out; have := HZ3.out; omega)
        have pA : ∀ i, w6.cell? ⟨w.heap.size, i, none⟩ = (#[Value.int .i64 0, .int .i64 0, .int .u64 0, .int .u64 0, .int .u64 0, .int .u64 0, .int .u64 0, .slice none 0 0, .slice none 0 0] : Array Value)[i]? := fun i => cell_of_row w6 _ i _ _ _ hK6
        obtain ⟨p0, p1, p2, p3, p4, p5, p6, p7, p8⟩ : w6.cell? ⟨w.heap.size, 0, none⟩ = some (.int .i64 0) ∧ w6.cell? ⟨w.heap.size, 1, none⟩ = some (.int .i64 0) ∧ w6.cell? ⟨w.heap.size, 2, none⟩ = some (.int .u64 0) ∧ w6.cell? ⟨w.heap.size, 3, none⟩ = some (.int .u64 0) ∧ w6.cell? ⟨w.heap.size, 4, none⟩ = some (.int .u64 0) ∧ w6.cell? ⟨w.heap.size, 5, none⟩ = some (.int .u64 0) ∧ w6.cell? ⟨w.heap.size, 6, none⟩ = some (.int .u64 0) ∧ w6.cell? ⟨w.heap.size, 7, none⟩ = some (.slice none 0 0) ∧ w6.cell? ⟨w.heap.size, 8, none⟩ = some (.slice none 0 0) := ⟨pA 0, pA 1, pA 2, pA 3, pA 4, pA 5, pA 6, pA 7, pA 8⟩
        obtain ⟨f0, f1, f2, f3, f4, f5, f6, f7, f8⟩ : w6.frozen? ⟨w.heap.size, 0, none⟩ = false ∧ w6.frozen? ⟨w.heap.size, 1, none⟩ = false ∧ w6.frozen? ⟨w.heap.size, 2, none⟩ = false ∧ w6.frozen? ⟨w.heap.size, 3, none⟩ = false ∧ w6.frozen? ⟨w.heap.size, 4, none⟩ = false ∧ w6.frozen? ⟨w.heap.size, 5, none⟩ = false ∧ w6.frozen? ⟨w.heap.size, 6, none⟩ = false ∧ w6.frozen? ⟨w.heap.size, 7, none⟩ = false ∧ w6.frozen? ⟨w.heap.size, 8, none⟩ = false := ⟨frz_block (i := 0) hK6, frz_block (i := 1) hK6, frz_block (i := 2) hK6, frz_block (i := 3) hK6, frz_block (i := 4) hK6, frz_block (i := 5) hK6, frz_block (i := 6) hK6, frz_block (i := 7) hK6, frz_block (i := 8) hK6⟩
        have HB9 := Lib.hid (set9_heap (.int .i64 0) (.int .i64 0) (.int .u64 0) (.int .u64 0) (.int .u64 0) (.int .u64 0) (.int .u64 0) (.slice none 0 0) (.slice none 0 0) hK6)
        generalize endN l8 e8 = er8 at *
        clear hK6 pA he HG6
        go_wp2
        have hr9 : ∀ i, (set9 w6 w.heap.size (.int .i64 0) (.int .i64 0) (.int .u64 0) (.int .u64 0) (.int .u64 0) (.int .u64 0) (.int .u64 0) (.slice none 0 0) (.slice none 0 0)).cell? ⟨w.heap.size, i, none⟩ = (#[Value.int .i64 0, .int .i64 0, .int .u64 0, .int .u64 0, .int .u64 0, .int .u64 0, .int .u64 0, .slice none 0 0, .slice none 0 0] : Array Value)[i]? := fun i => cell_of_row _ _ i _ _ _ HB9.out
        have hb9 := set9_below (.int .i64 0) (.int .i64 0) (.int .u64 0) (.int .u64 0) (.int .u64 0) (.int .u64 0) (.int .u64 0) (.slice none 0 0) (.slice none 0 0) HBW.out (Nat.le_refl _)
        change bodyPost _ _ _ _ _ (set9 w6 w.heap.size (.int .i64 0) (.int .i64 0) (.int .u64 0) (.int .u64 0) (.int .u64 0) (.int .u64 0) (.int .u64 0) (.slice none 0 0) (.slice none 0 0))
        generalize (set9 w6 w.heap.size (.int .i64 0) (.int .i64 0) (.int .u64 0) (.int .u64 0) (.int .u64 0) (.int .u64 0) (.int .u64 0) (.slice none 0 0) (.slice none 0 0)) = wz at *
        refine bodyPost_ret (v := .tuple #[.agg #[Value.int .i64 0, .int .i64 0, .int .u64 0, .int .u64 0, .int .u64 0, .int .u64 0, .int .u64 0, .slice none 0 0, .slice none 0 0], .int .i64 (er8 : Int)]) (by simp [results, Tryd.results22, go_sem, hr9]) rfl ?_
        exact ⟨zeroF, by rw [HD.out]; rfl, by rw [HD.out]; rfl, zeroF_at _, hb9⟩


set_option maxRecDepth 100000 in
set_option maxHeartbeats 4000000 in
theorem refDecL_any (w : World) (A : Option Addr) (n c : Nat) (l : List UInt8) (hs : Sl w w.heap.size A n c l) (hl : 65507 < l.length) :
    Calls Tryd.prog 22 #[.slice A n c] w (RDecPost w l) := by
  have hln := hs.len
  have HD := Lib.hid (dec_long hl)
  have hlI : (65507 : Int) < (n : Int) := by omega
  clear hs hl hln
  go_enter Tryd.func22, Tryd.ntmps22
  go_wp2
  refine bodyPost_ret (v := .tuple #[.agg #[Value.int .i64 0, .int .i64 0, .int .u64 0, .int .u64 0, .int .u64 0, .int .u64 0, .int .u64 0, .slice none 0 0, .slice none 0 0], .int .i64 6]) (by simp [results, Tryd.results22, go_sem]) rfl ?_
  refine ⟨zeroF, by rw [HD.out]; rfl, by rw [HD.out]; rfl, zeroF_at _, below_box w _⟩


set_option maxRecDepth 100000 in
set_option maxHeartbeats 4000000 in
theorem refDecB_any (w : World) (A : Option Addr) (n c : Nat) (l : List UInt8) (hs : Sl w w.heap.size A n c l) (hl : l.length ≤ 65507) (er : Nat) (he : (opn l).2 = er) (h0 : er ≠ 0) :
    Calls Tryd.prog 22 #[.slice A n c] w (RDecPost w l) := by
  have hln := hs.len
  have HD := Lib.hid (dec_bad (by omega : ¬ 65507 < l.length) (by omega))
  have HS := Lib.hid hs
  have HE := Lib.hid he
  have HL := Lib.hid hl
  have hlI : ¬ (65507 : Int) < (n : Int) := by omega
  have h0I : ((er : Int) != 0) = true := by simp; omega
  clear hs hl hln he h0
  go_enter Tryd.func22, Tryd.ntmps22
  go_wp2_with fail
  have hbx := below_box w (.cells #[.int .i64 0, .int .i64 0, .int .u64 0, .int .u64 0, .int .u64 0, .int .u64 0, .int .u64 0, .slice none 0 0, .slice none 0 0] 33)
  have hblk := heap_alloc_new w (.cells #[.int .i64 0, .int .i64 0, .int .u64 0, .int .u64 0, .int .u64 0, .int .u64 0, .int .u64 0, .slice none 0 0, .slice none 0 0] 33)
  have hz : w.heap.size < (w.alloc (.cells #[.int .i64 0, .int .i64 0, .int .u64 0, .int .u64 0, .int .u64 0, .int .u64 0, .int .u64 0, .slice none 0 0, .slice none 0 0] 33)).heap.size := by simp
  have hs1 := HS.out.onA (.cells #[.int .i64 0, .int .i64 0, .int .u64 0, .int .u64 0, .int .u64 0, .int .u64 0, .int .u64 0, .slice none 0 0, .slice none 0 0] 33)
  generalize w.alloc (.cells #[.int .i64 0, .int .i64 0, .int .u64 0, .int .u64 0, .int .u64 0, .int .u64 0, .int .u64 0, .slice none 0 0, .slice none 0 0] 33) = wb at *
  refine (refOpen_any wb A n c l hs1 (by have := HL.out; omega)).mono ?_
  rintro e w2 ⟨A2, n2, c2, rfl, hs2, hb2⟩
  rw [HE.out]
  have hK2 := (hb2.block w.heap.size hz).trans hblk
  have HBW : Hid (Below w.heap.size w w2) := hbx.trans (hb2.mono hbx.size)
  have pA : ∀ i, w2.cell? ⟨w.heap.size, i, none⟩ = (#[Value.int .i64 0, .int .i64 0, .int .u64 0, .int .u64 0, .int .u64 0, .int .u64 0, .int .u64 0, .slice none 0 0, .slice none 0 0] : Array Value)[i]? := fun i => cell_of_row w2 _ i _ _ _ hK2
  obtain ⟨p0, p1, p2, p3, p4, p5, p6, p7, p8⟩ : w2.cell? ⟨w.heap.size, 0, none⟩ = some (.int .i64 0) ∧ w2.cell? ⟨w.heap.size, 1, none⟩ = some (.int .i64 0) ∧ w2.cell? ⟨w.heap.size, 2, none⟩ = some (.int .u64 0) ∧ w2.cell? ⟨w.heap.size, 3, none⟩ = some (.int .u64 0) ∧ w2.cell? ⟨w.heap.size, 4, none⟩ = some (.int .u64 0) ∧ w2.cell? ⟨w.heap.size, 5, none⟩ = some (.int .u64 0) ∧ w2.cell? ⟨w.heap.size, 6, none⟩ = some (.int .u64 0) ∧ w2.cell? ⟨w.heap.size, 7, none⟩ = some (.slice none 0 0) ∧ w2.cell? ⟨w.heap.size, 8, none⟩ = some (.slice none 0 0) := ⟨pA 0, pA 1, pA 2, pA 3, pA 4, pA 5, pA 6, pA 7, pA 8⟩
  obtain ⟨f0, f1, f2, f3, f4, f5, f6, f7, f8⟩ : w2.frozen? ⟨w.heap.size, 0, none⟩ = false ∧ w2.frozen? ⟨w.heap.size, 1, none⟩ = false ∧ w2.frozen? ⟨w.heap.size, 2, none⟩ = false ∧ w2.frozen? ⟨w.heap.size, 3, none⟩ = false ∧ w2.frozen? ⟨w.heap.size, 4, none⟩ = false ∧ w2.frozen? ⟨w.heap.size, 5, none⟩ = false ∧ w2.frozen? ⟨w.heap.size, 6, none⟩ = false ∧ w2.frozen? ⟨w.heap.size, 7, none⟩ = false ∧ w2.frozen? ⟨w.heap.size, 8, none⟩ = false := ⟨frz_block (i := 0) hK2, frz_block (i := 1) hK2, frz_block (i := 2) hK2, frz_block (i := 3) hK2, frz_block (i := 4) hK2, frz_block (i := 5) hK2, frz_block (i := 6) hK2, frz_block (i := 7) hK2, frz_block (i := 8) hK2⟩
  have HB9 := Lib.hid (set9_heap (.int .i64 0) (.int .i64 0) (.int .u64 0) (.int .u64 0) (.int .u64 0) (.int .u64 0) (.int .u64 0) (.slice none 0 0) (.slice none 0 0) hK2)
  clear hbx hblk hz hs1 hb2 hs2 HS hK2 pA
  go_wp2
  have hr9 : ∀ i, (set9 w2 w.heap.size (.int .i64 0) (.int .i64 0) (.int .u64 0) (.int .u64 0) (.int .u64 0) (.int .u64 0) (.int .u64 0) (.slice none 0 0) (.slice none 0 0)).cell? ⟨w.heap.size, i, none⟩ = (#[Value.int .i64 0, .int .i64 0, .int .u64 0, .int .u64 0, .int .u64 0, .int .u64 0, .int .u64 0, .slice none 0 0, .slice none 0 0] : Array Value)[i]? := fun i => cell_of_row _ _ i _ _ _ HB9.out
  have hb9 := set9_below (.int .i64 0) (.int .i64 0) (.int .u64 0) (.int .u64 0) (.int .u64 0) (.int .u64 0) (.int .u64 0) (.slice none 0 0) (.slice none 0 0) HBW.out (Nat.le_refl _)
  change bodyPost _ _ _ _ _ (set9 w2 w.heap.size (.int .i64 0) (.int .i64 0) (.int .u64 0) (.int .u64 0) (.int .u64 0) (.int .u64 0) (.int .u64 0) (.slice none 0 0) (.slice none 0 0))
  generalize (set9 w2 w.heap.size (.int .i64 0) (.int .i64 0) (.int .u64 0) (.int .u64 0) (.int .u64 0) (.int .u64 0) (.int .u64 0) (.slice none 0 0) (.slice none 0 0)) = wz at *
  refine bodyPost_ret (v := .tuple #[.agg #[Value.int .i64 0, .int .i64 0, .int .u64 0, .int .u64 0, .int .u64 0, .int .u64 0, .int .u64 0, .slice none 0 0, .slice none 0 0], .int .i64 (er : Int)]) (by simp [results, Tryd.results22, go_sem, hr9]) rfl ?_
  exact ⟨zeroF, by rw [HD.out, HE.out]; rfl, by rw [HD.out]; rfl, zeroF_at _, hb9⟩


theorem refDecode_any (w : World) (A : Option Addr) (n c : Nat) (l : List UInt8) (hs : Sl w w.heap.size A n c l) :
    Calls Tryd.prog 22 #[.slice A n c] w (RDecPost w l) := by
  by_cases hl : 65507 < l.length
  · exact refDecL_any w A n c l hs hl
  by_cases h2 : (opn l).2 = 0
  · obtain ⟨⟨kd, l1, e1⟩, h1⟩ : ∃ x, stByte (opn l).1 0 = x := ⟨_, rfl⟩
    by_cases hkd : 1 ≤ kd ∧ kd ≤ 4
    · have : kd = 1 ∨ kd = 2 ∨ kd = 3 ∨ kd = 4 := by omega
      rcases this with rfl | rfl | rfl | rfl
      · exact refDec1_any w A n c l hs (by omega) h2 h1
      · exact refDec2_any w A n c l hs (by omega) h2 h1
      · exact refDec3_any w A n c l hs (by omega) h2 h1
      · exact refDec4_any w A n c l hs (by omega) h2 h1
    · exact refDec0_any w A n c l hs (by omega) h2 h1 hkd
  · exact refDecB_any w A n c l hs (by omega) _ rfl h2

end Go.Proofs.YtlkcnpmgafckoaaDoor
