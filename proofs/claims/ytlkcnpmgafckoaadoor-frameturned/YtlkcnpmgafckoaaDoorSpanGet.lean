/-
  CONTRACTS of layer 4's reading: Get, GetItem.
  No statement is proved here.
-/
import Derived.Test.YtlkcnpmgafckoaaDoorSpanPut
namespace Go.Proofs.YtlkcnpmgafckoaaDoor
open Go.RowKit

/-- What Get comes to: the class, the body, what is left, the error. -/
def cls8 (k e : Nat) : Nat := if 8 ≤ k then failN e 2 else e
def stSpan (l : List UInt8) (er : Nat) : Nat × List UInt8 × List UInt8 × Nat :=
  let x := stByte l er
  let y := stBytes x.2.1 (cls8 x.1 x.2.2) 4096
  if y.2.2 = 0 then (x.1, y.1, y.2.1, 0) else (0, [], y.2.1, y.2.2)
theorem stSpan_ok {l l1 l2 b : List UInt8} {er k e1 : Nat} (h1 : stByte l er = (k, l1, e1)) (h2 : stBytes l1 (cls8 k e1) 4096 = (b, l2, 0)) : stSpan l er = (k, b, l2, 0) := by simp [stSpan, h1, h2]
theorem stSpan_no {l l1 l2 b : List UInt8} {er k e1 e3 : Nat} (h1 : stByte l er = (k, l1, e1)) (h2 : stBytes l1 (cls8 k e1) 4096 = (b, l2, e3)) (h3 : e3 ≠ 0) : stSpan l er = (0, [], l2, e3) := by simp [stSpan, h1, h2, h3]
theorem stByte_lt {l l1 : List UInt8} {er k e1 : Nat} (h : stByte l er = (k, l1, e1)) : k < 256 := by
  unfold stByte at h
  split at h
  · cases l with
    | nil => simp at h; omega
    | cons x t => simp at h; have := x.toNat_lt; omega
  · simp at h; omega

/-- A span is handed back; the reader has gone on. -/
def ToldSpan (w : World) (g : Nat) (k : Nat) (b l' : List UInt8) (er' : Nat) (e : Ending) (w' : World) : Prop :=
  ∃ A n c A1 n1 c1, e = .returned (spv (k : Int) A1 n1 c1) ∧ w'.ownsRow w.heap.size 5 1 (.slice A1 n1 c1) n1 (cbs b) ∧ InAt w' g A n c er' l' ∧ w.grownBy w' (some g)

/-- A block that lies still while others turn. -/
theorem only_block {w w' : World} {row : Option Nat} {r : Nat} {o : Obj} (hg : w.grownBy w' row) (h : w.heap[r]? = some o) (hr : some r ≠ row) : w'.heap[r]? = some o := (hg.block r (Array.getElem?_eq_some_iff.1 h).1 hr).trans h
theorem frz_block {w : World} {r i : Nat} {cs : Array Value} {t : TypeId} (h : w.heap[r]? = some (.cells cs t (0, 0))) : w.frozen? ⟨r, i, none⟩ = false := by simp [World.frozen?, h]
theorem only_new {w w' : World} {row : Option Nat} {r : Nat} {p : Addr} {u : Value} (hg : w.grownBy w' row) (hr : w.heap.size ≤ r) (hp : p.block = r) : w.grownBy (w'.setCell p u) row :=
  ⟨hg.os, hg.tape, hg.output, by simpa [World.setCell] using hg.size, fun k hk hne => (Below.heap_setCell w' p u k (by omega)).trans (hg.block k hk hne)⟩
theorem only_box {w w' : World} {o : Obj} {row : Option Nat} (hg : (w.alloc o).grownBy w' row) : w.grownBy w' row :=
  ⟨hg.os, hg.tape, hg.output, Nat.le_trans (by simp) hg.size, fun k hk hne => (hg.block k (by simp; omega) hne).trans (Below.heap_alloc w o k hk)⟩

theorem cells_set2 {w : World} {r : Nat} {a0 a1 : Value} (u0 u1 : Value) (h0 : w.cell? ⟨r, 0, none⟩ = some a0) (h1 : w.cell? ⟨r, 1, none⟩ = some a1) :
    ((w.setCell ⟨r, 0, none⟩ u0).setCell ⟨r, 1, none⟩ u1).cell? ⟨r, 0, none⟩ = some u0 ∧ ((w.setCell ⟨r, 0, none⟩ u0).setCell ⟨r, 1, none⟩ u1).cell? ⟨r, 1, none⟩ = some u1 := by
  refine ⟨?_, ?_⟩
  · rw [World.cell?_setCell_other _ _ _ _ (by simp)]
    exact World.cell?_setCell_same _ _ _ h0
  · exact World.cell?_setCell_same _ _ _ (by rw [World.cell?_setCell_other _ _ _ _ (by simp)]; exact h1)
theorem own_other {w : World} {base : Nat} {e : TypeId} {v : Value} {n : Nat} {xs : List Value} {p : Addr} (u : Value) (h : w.ownsRow base e 1 v n xs) (hp : p.block < base) : (w.setCell p u).ownsRow base e 1 v n xs := by
  refine ⟨h.1, ?_⟩
  rcases h.2 with hn | ⟨g, cap, cur, hv, hbg, hh, rest⟩
  · exact .inl hn
  · exact .inr ⟨g, cap, cur, hv, hbg, (Below.heap_setCell w p u g (by omega)).trans hh, rest⟩
/-- A span laid into its result's cells, behind which the reader and the row stand as they stood. -/
theorem told_set {w w4 : World} {g base r : Nat} {A5 : Option Addr} {n5 c5 : Nat} {b : List UInt8} {A4 : Option Addr} {n4 c4 e3 : Nat} {l2 : List UInt8} (k : Nat) (u0 u1 : Value) (hgz : w.grownBy w4 (some g)) (hgw : g < w.heap.size) (hr : w.heap.size ≤ r) (hin : InAt w4 g A4 n4 c4 e3 l2) (hown : w4.ownsRow base 5 1 (.slice A5 n5 c5) n5 (cbs b)) (hrb : r < base) :
    ToldSpan w g k b l2 e3 (.returned (spv (k : Int) A5 n5 c5)) ((w4.setCell ⟨r, 0, none⟩ u0).setCell ⟨r, 1, none⟩ u1) := by
  refine ⟨A4, n4, c4, A5, n5, c5, rfl, own_lower (own_other u1 (own_other u0 hown hrb) hrb) (by omega), ?_, only_new (only_new hgz hr rfl) hr rfl⟩
  exact (hin.kept (only_set w4 r 0 u0) (fun k hk => by injection hk; omega)).kept (only_set _ r 1 u1) (fun k hk => by injection hk; omega)

set_option maxRecDepth 100000 in
set_option maxHeartbeats 1000000 in
theorem get_any {w : World} {g : Nat} {A : Option Addr} {n c er : Nat} {l : List UInt8} (h : InAt w g A n c er l) :
    Calls Tryd.prog 91 #[.pointer (some ⟨g, 0, none⟩)] w (ToldSpan w g (stSpan l er).1 (stSpan l er).2.1 (stSpan l er).2.2.1 (stSpan l er).2.2.2) := by
  obtain ⟨⟨k, l1, e1⟩, h1⟩ : ∃ x, stByte l er = x := ⟨_, rfl⟩
  obtain ⟨⟨b, l2, e3⟩, h3⟩ : ∃ x, stBytes l1 (cls8 k e1) 4096 = x := ⟨_, rfl⟩
  have hk := stByte_lt h1
  have HI := Lib.hid h
  have H1 := Lib.hid h1
  have H3 := Lib.hid h3
  have hgw := h.lt
  clear h h1 h3
  obtain ⟨st, HST⟩ : ∃ st, Hid (st = stSpan l er) := ⟨_, rfl⟩
  rw [← HST.out]
  go_enter Tryd.func91, Tryd.ntmps91
  go_wp2_with fail
  have hin := HI.out.below (below_box w (Obj.cells #[.int .i64 0, .slice none 0 0] 56)) hgw
  have hres := heap_alloc_new w (Obj.cells #[.int .i64 0, .slice none 0 0] 56)
  generalize hwb : w.alloc (Obj.cells #[.int .i64 0, .slice none 0 0] 56) = wb at *
  have HWB := Lib.hid hwb; clear hwb
  have c1 := inByte_any hin
  rw [H1.out] at c1
  refine c1.mono ?_
  rintro e w2 ⟨A2, n2, c2, rfl, hin2, hg2⟩
  have hres2 := only_block hg2 hres (by intro e; injection e with e; omega)
  clear c1 hin hres
  rcases Nat.lt_or_ge k 8 with h8 | h8
  all_goals first
   | (have h8l : k < 8 := h8
      have h8I : ¬ (8 : Int) ≤ (k : Int) := by omega
      have e2 : cls8 k e1 = e1 := by unfold cls8; rw [if_neg (by omega)]
      have hin3 : InAt w2 g A2 n2 c2 (cls8 k e1) l1 := by rw [e2]; exact hin2
      have hres3 := hres2
      have hga := hg2
      clear hin2 hg2 hres2
      go_wp2_with fail)
   | (have h8l : 8 ≤ k := h8
      have h8I : (8 : Int) ≤ (k : Int) := by omega
      go_wp2_with fail
      have c2 := fail_any hin2 2
      have e2 : failN e1 2 = cls8 k e1 := by simp [cls8, h8]
      rw [e2] at c2
      refine c2.mono ?_
      rintro e w3 ⟨A3, n3, c3, rfl, hin3, hg3⟩
      have hres3 := only_block hg3 hres2 (by intro e; injection e with e; omega)
      have hga := only_trans hg2 hg3
      clear c2 e2 hin2 hg2 hg3 hres2
      go_wp2_with fail)
  all_goals (
    have c3' := inBytes_any hin3 4096 (.inl (by rw [IntKind.wrap_u64]; omega))
    rw [H3.out] at c3'
    refine c3'.mono ?_
    rintro e w4 ⟨A4, n4, c4, A5, n5, c5, rfl, hown4, hin4, hg4⟩
    have hres4 := only_block hg4 hres3 (by intro e; injection e with e; omega)
    have hgb := only_trans hga hg4
    have hrb := (Array.getElem?_eq_some_iff.1 hres3).1
    clear c3' hin3 hg4 hres3 hga
    go_wp2_with fail
    refine (err_any hin4).mono ?_
    rintro e w5 ⟨rfl, rfl⟩
    have hq0 : w4.cell? ⟨w.heap.size, 0, none⟩ = some (.int .i64 0) := by rw [cell_of_row w4 w.heap.size 0 _ _ _ hres4]; rfl
    have hq1 : w4.cell? ⟨w.heap.size, 1, none⟩ = some (.slice none 0 0) := by rw [cell_of_row w4 w.heap.size 1 _ _ _ hres4]; rfl
    have hf0 := frz_block (i := 0) hres4
    have hf1 := frz_block (i := 1) hres4
    have hgz : w.grownBy w4 (some g) := by rw [← HWB.out] at hgb; exact only_box hgb
    clear hres4 hgb HWB
    by_cases he3 : e3 = 0
    · have he3I : ((e3 : Int) != 0) = false := by simp; omega
      have hst : st = (k, b, l2, 0) := by rw [HST.out]; exact stSpan_ok H1.out (by rw [H3.out, he3])
      subst he3
      go_wp2
      obtain ⟨f0, f1⟩ := cells_set2 (.int .i64 (k : Int)) (.slice A5 n5 c5) hq0 hq1
      refine bodyPost_ret (v := .agg #[.int .i64 (k : Int), .slice A5 n5 c5]) (by simp [results, Tryd.results91, go_sem, f0, f1]) rfl ?_
      rw [hst]
      exact told_set k _ _ hgz hgw (Nat.le_refl _) hin4 hown4 hrb
    · have he3I : ((e3 : Int) != 0) = true := by simp; omega
      have hst : st = (0, [], l2, e3) := by rw [HST.out]; exact stSpan_no H1.out H3.out he3
      go_wp2
      obtain ⟨f0, f1⟩ := cells_set2 (.int .i64 0) (.slice none 0 0) hq0 hq1
      refine bodyPost_ret (v := .agg #[.int .i64 0, .slice none 0 0]) (by simp [results, Tryd.results91, go_sem, f0, f1]) rfl ?_
      rw [hst]
      exact told_set 0 _ _ hgz hgw (Nat.le_refl _) hin4 (own_nil w4 _) (Nat.lt_succ_self _))

/-! ### GetItem -/
def stItem (l : List UInt8) (er : Nat) : Nat × Nat × List UInt8 × List UInt8 × Nat :=
  let x := stNum l er
  let y := stSpan x.2.1 x.2.2
  if y.2.2.2 = 0 then (x.1, y.1, y.2.1, y.2.2.1, 0) else (0, 0, [], y.2.2.1, y.2.2.2)
theorem stItem_ok {l l1 l2 b : List UInt8} {er N e1 k : Nat} (h1 : stNum l er = (N, l1, e1)) (h2 : stSpan l1 e1 = (k, b, l2, 0)) : stItem l er = (N, k, b, l2, 0) := by simp [stItem, h1, h2]
theorem stItem_no {l l1 l2 b : List UInt8} {er N e1 k e3 : Nat} (h1 : stNum l er = (N, l1, e1)) (h2 : stSpan l1 e1 = (k, b, l2, e3)) (h3 : e3 ≠ 0) : stItem l er = (0, 0, [], l2, e3) := by simp [stItem, h1, h2, h3]

def ToldItem (w : World) (g : Nat) (N k : Nat) (b l' : List UInt8) (er' : Nat) (e : Ending) (w' : World) : Prop :=
  ∃ A n c A1 n1 c1, e = .returned (itv N (k : Int) A1 n1 c1) ∧ w'.ownsRow w.heap.size 5 1 (.slice A1 n1 c1) n1 (cbs b) ∧ InAt w' g A n c er' l' ∧ w.grownBy w' (some g)

theorem cells_set3 {w : World} {r : Nat} {a0 a1 a2 : Value} (u0 u1 u2 : Value) (h0 : w.cell? ⟨r, 0, none⟩ = some a0) (h1 : w.cell? ⟨r, 1, none⟩ = some a1) (h2 : w.cell? ⟨r, 2, none⟩ = some a2) :
    (((w.setCell ⟨r, 0, none⟩ u0).setCell ⟨r, 1, none⟩ u1).setCell ⟨r, 2, none⟩ u2).cell? ⟨r, 0, none⟩ = some u0 ∧ (((w.setCell ⟨r, 0, none⟩ u0).setCell ⟨r, 1, none⟩ u1).setCell ⟨r, 2, none⟩ u2).cell? ⟨r, 1, none⟩ = some u1 ∧
      (((w.setCell ⟨r, 0, none⟩ u0).setCell ⟨r, 1, none⟩ u1).setCell ⟨r, 2, none⟩ u2).cell? ⟨r, 2, none⟩ = some u2 := by
  obtain ⟨f0, f1⟩ := cells_set2 u0 u1 h0 h1
  refine ⟨?_, ?_, ?_⟩
  · rw [World.cell?_setCell_other _ _ _ _ (by simp)]; exact f0
  · rw [World.cell?_setCell_other _ _ _ _ (by simp)]; exact f1
  · exact World.cell?_setCell_same _ _ _ (by rw [World.cell?_setCell_other _ _ _ _ (by simp), World.cell?_setCell_other _ _ _ _ (by simp)]; exact h2)
theorem told_set3 {w w4 : World} {g base r : Nat} {A5 : Option Addr} {n5 c5 : Nat} {b : List UInt8} {A4 : Option Addr} {n4 c4 e3 : Nat} {l2 : List UInt8} (N k : Nat) (u0 u1 u2 : Value) (hgz : w.grownBy w4 (some g)) (hgw : g < w.heap.size) (hr : w.heap.size ≤ r) (hin : InAt w4 g A4 n4 c4 e3 l2) (hown : w4.ownsRow base 5 1 (.slice A5 n5 c5) n5 (cbs b)) (hrb : r < base) :
    ToldItem w g N k b l2 e3 (.returned (itv N (k : Int) A5 n5 c5)) (((w4.setCell ⟨r, 0, none⟩ u0).setCell ⟨r, 1, none⟩ u1).setCell ⟨r, 2, none⟩ u2) := by
  refine ⟨A4, n4, c4, A5, n5, c5, rfl, own_lower (own_other u2 (own_other u1 (own_other u0 hown hrb) hrb) hrb) (by omega), ?_, only_new (only_new (only_new hgz hr rfl) hr rfl) hr rfl⟩
  exact ((hin.kept (only_set w4 r 0 u0) (fun k hk => by injection hk; omega)).kept (only_set _ r 1 u1) (fun k hk => by injection hk; omega)).kept (only_set _ r 2 u2) (fun k hk => by injection hk; omega)

set_option maxRecDepth 100000 in
set_option maxHeartbeats 1000000 in
theorem getItem_any {w : World} {g : Nat} {A : Option Addr} {n c er : Nat} {l : List UInt8} (h : InAt w g A n c er l) :
    Calls Tryd.prog 81 #[.pointer (some ⟨g, 0, none⟩)] w (ToldItem w g (stItem l er).1 (stItem l er).2.1 (stItem l er).2.2.1 (stItem l er).2.2.2.1 (stItem l er).2.2.2.2) := by
  obtain ⟨⟨N, l1, e1⟩, h1⟩ : ∃ x, stNum l er = x := ⟨_, rfl⟩
  obtain ⟨⟨k, b, l2, e3⟩, h3⟩ : ∃ x, stSpan l1 e1 = x := ⟨_, rfl⟩
  have HI := Lib.hid h
  have H1 := Lib.hid h1
  have H3 := Lib.hid h3
  have hgw := h.lt
  clear h h1 h3
  obtain ⟨st, HST⟩ : ∃ st, Hid (st = stItem l er) := ⟨_, rfl⟩
  rw [← HST.out]
  go_enter Tryd.func81, Tryd.ntmps81
  go_wp2_with fail
  have hin := HI.out.below (below_box w (Obj.cells #[.int .u64 0, .int .i64 0, .slice none 0 0] 58)) hgw
  have hres := heap_alloc_new w (Obj.cells #[.int .u64 0, .int .i64 0, .slice none 0 0] 58)
  generalize hwb : w.alloc (Obj.cells #[.int .u64 0, .int .i64 0, .slice none 0 0] 58) = wb at *
  have HWB := Lib.hid hwb; clear hwb
  have c1 := inNum_any hin
  rw [H1.out] at c1
  refine c1.mono ?_
  rintro e w2 ⟨A2, n2, c2, rfl, hin2, hg2⟩
  have hres2 := only_block hg2 hres (by intro e; injection e with e; omega)
  clear c1 hin hres
  go_wp2_with fail
  have c3' := get_any hin2
  simp only [H3.out] at c3'
  refine c3'.mono ?_
  rintro e w4 ⟨A4, n4, c4, A5, n5, c5, rfl, hown4, hin4, hg4⟩
  have hres4 := only_block hg4 hres2 (by intro e; injection e with e; omega)
  have hgb := only_trans hg2 hg4
  have hrb := (Array.getElem?_eq_some_iff.1 hres2).1
  have hgz : w.grownBy w4 (some g) := by rw [← HWB.out] at hgb; exact only_box hgb
  have hz4 := Nat.lt_of_lt_of_le hgw hgz.size
  clear c3' hin2 hg4 hres2 hg2 hgb HWB
  unfold spv
  go_wp2_with fail
  have hin5 := hin4.below (below_box w4 (Obj.cells #[.int .i64 (k : Int), .slice A5 n5 c5] 56)) hz4
  have hown5 := hown4.alloc (Obj.cells #[.int .i64 (k : Int), .slice A5 n5 c5] 56)
  have hres5 := (Below.heap_alloc w4 (Obj.cells #[.int .i64 (k : Int), .slice A5 n5 c5] 56) _ (Array.getElem?_eq_some_iff.1 hres4).1).trans hres4
  have hg5 : w.grownBy (w4.alloc (Obj.cells #[.int .i64 (k : Int), .slice A5 n5 c5] 56)) (some g) := only_trans hgz (only_below (below_box w4 _) _)
  have hs0 : (w4.alloc (Obj.cells #[.int .i64 (k : Int), .slice A5 n5 c5] 56)).cell? ⟨w4.heap.size, 0, none⟩ = some (.int .i64 (k : Int)) := by simp
  have hs1 : (w4.alloc (Obj.cells #[.int .i64 (k : Int), .slice A5 n5 c5] 56)).cell? ⟨w4.heap.size, 1, none⟩ = some (.slice A5 n5 c5) := by simp
  generalize w4.alloc (Obj.cells #[.int .i64 (k : Int), .slice A5 n5 c5] 56) = w5 at *
  refine (err_any hin5).mono ?_
  rintro e w6 ⟨rfl, rfl⟩
  have hq0 : w5.cell? ⟨w.heap.size, 0, none⟩ = some (.int .u64 0) := by rw [cell_of_row w5 w.heap.size 0 _ _ _ hres5]; rfl
  have hq1 : w5.cell? ⟨w.heap.size, 1, none⟩ = some (.int .i64 0) := by rw [cell_of_row w5 w.heap.size 1 _ _ _ hres5]; rfl
  have hq2 : w5.cell? ⟨w.heap.size, 2, none⟩ = some (.slice none 0 0) := by rw [cell_of_row w5 w.heap.size 2 _ _ _ hres5]; rfl
  have hf0 := frz_block (i := 0) hres5
  have hf1 := frz_block (i := 1) hres5
  have hf2 := frz_block (i := 2) hres5
  clear hres4 hres5 hin4 hown4 hgz
  by_cases he3 : e3 = 0
  · have he3I : ((e3 : Int) != 0) = false := by simp; omega
    have hst : st = (N, k, b, l2, 0) := by rw [HST.out]; exact stItem_ok H1.out (by rw [H3.out, he3])
    subst he3
    go_wp2
    obtain ⟨f0, f1, f2⟩ := cells_set3 (.int .u64 (N : Int)) (.int .i64 (k : Int)) (.slice A5 n5 c5) hq0 hq1 hq2
    refine bodyPost_ret (v := .agg #[.int .u64 (N : Int), .int .i64 (k : Int), .slice A5 n5 c5]) (by simp [results, Tryd.results81, go_sem, f0, f1, f2]) rfl ?_
    rw [hst]
    exact told_set3 N k _ _ _ hg5 hgw (Nat.le_refl _) hin5 hown5 hrb
  · have he3I : ((e3 : Int) != 0) = true := by simp; omega
    have hst : st = (0, 0, [], l2, e3) := by rw [HST.out]; exact stItem_no H1.out H3.out he3
    go_wp2
    obtain ⟨f0, f1, f2⟩ := cells_set3 (.int .u64 0) (.int .i64 0) (.slice none 0 0) hq0 hq1 hq2
    refine bodyPost_ret (v := .agg #[.int .u64 0, .int .i64 0, .slice none 0 0]) (by simp [results, Tryd.results81, go_sem, f0, f1, f2]) rfl ?_
    rw [hst]
    exact told_set3 0 0 _ _ _ hg5 hgw (Nat.le_refl _) hin5 (own_nil w5 _) (Nat.lt_succ_self _)
end Go.Proofs.YtlkcnpmgafckoaaDoor
