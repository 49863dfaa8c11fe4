/-
  CONTRACTS of the reference's reading of spans and items.
  No statement is proved here.
-/
import Derived.Test.YtlkcnpmgafckoaaDoorSpanGet
import Derived.Test.YtlkcnpmgafckoaaDoorRefIn
namespace Go.Proofs.YtlkcnpmgafckoaaDoor
open Go.RowKit

theorem RefAt.kept {w w' : World} {g : Nat} {A : Option Addr} {n c a er : Nat} {p : List UInt8} {row : Option Nat} (h : RefAt w g A n c a er p) (hg : w.grownBy w' row) (hr : ∀ k, row = some k → g < k) : RefAt w' g A n c a er p := by
  have hb : ∀ k, k ≤ g → w'.heap[k]? = w.heap[k]? := fun k hk => hg.block k (Nat.lt_of_le_of_lt hk h.lt) (fun e => by have := hr k e.symm; omega)
  exact ⟨(hb g (Nat.le_refl _)).trans h.blk, h.sl.keep fun b o hbg => World.cell?_of_block (a := ⟨b, o, none⟩) (hb b (by omega)), h.le, h.small⟩

def RefSpanTold (w : World) (g : Nat) (A : Option Addr) (n c : Nat) (p : List UInt8) (k : Nat) (b l' : List UInt8) (er' : Nat) (e : Ending) (w' : World) : Prop :=
  ∃ a' A1 n1 c1, e = .returned (spv (k : Int) A1 n1 c1) ∧ w'.ownsRow w.heap.size 5 1 (.slice A1 n1 c1) n1 (cbs b) ∧ RefAt w' g A n c a' er' p ∧ p.drop a' = l' ∧ w.grownBy w' (some g)
def RefItemTold (w : World) (g : Nat) (A : Option Addr) (n c : Nat) (p : List UInt8) (N k : Nat) (b l' : List UInt8) (er' : Nat) (e : Ending) (w' : World) : Prop :=
  ∃ a' A1 n1 c1, e = .returned (itv N (k : Int) A1 n1 c1) ∧ w'.ownsRow w.heap.size 5 1 (.slice A1 n1 c1) n1 (cbs b) ∧ RefAt w' g A n c a' er' p ∧ p.drop a' = l' ∧ w.grownBy w' (some g)

theorem ref_set {w w4 : World} {g base r : Nat} {A5 : Option Addr} {n5 c5 : Nat} {b : List UInt8} {A : Option Addr} {n c a e3 : Nat} {p l2 : List UInt8} (k : Nat) (u0 u1 : Value) (hgz : w.grownBy w4 (some g)) (hgw : g < w.heap.size) (hr : w.heap.size ≤ r) (hin : RefAt w4 g A n c a e3 p) (hd : p.drop a = l2) (hown : w4.ownsRow base 5 1 (.slice A5 n5 c5) n5 (cbs b)) (hrb : r < base) :
    RefSpanTold w g A n c p k b l2 e3 (.returned (spv (k : Int) A5 n5 c5)) ((w4.setCell ⟨r, 0, none⟩ u0).setCell ⟨r, 1, none⟩ u1) := by
  refine ⟨a, A5, n5, c5, rfl, own_lower (own_other u1 (own_other u0 hown hrb) hrb) (by omega), ?_, hd, only_new (only_new hgz hr rfl) hr rfl⟩
  exact (hin.kept (only_set w4 r 0 u0) (fun k hk => by injection hk; omega)).kept (only_set _ r 1 u1) (fun k hk => by injection hk; omega)
theorem ref_set3 {w w4 : World} {g base r : Nat} {A5 : Option Addr} {n5 c5 : Nat} {b : List UInt8} {A : Option Addr} {n c a e3 : Nat} {p l2 : List UInt8} (N k : Nat) (u0 u1 u2 : Value) (hgz : w.grownBy w4 (some g)) (hgw : g < w.heap.size) (hr : w.heap.size ≤ r) (hin : RefAt w4 g A n c a e3 p) (hd : p.drop a = l2) (hown : w4.ownsRow base 5 1 (.slice A5 n5 c5) n5 (cbs b)) (hrb : r < base) :
    RefItemTold w g A n c p N k b l2 e3 (.returned (itv N (k : Int) A5 n5 c5)) (((w4.setCell ⟨r, 0, none⟩ u0).setCell ⟨r, 1, none⟩ u1).setCell ⟨r, 2, none⟩ u2) := by
  refine ⟨a, A5, n5, c5, rfl, own_lower (own_other u2 (own_other u1 (own_other u0 hown hrb) hrb) hrb) (by omega), ?_, hd, only_new (only_new (only_new hgz hr rfl) hr rfl) hr rfl⟩
  exact ((hin.kept (only_set w4 r 0 u0) (fun k hk => by injection hk; omega)).kept (only_set _ r 1 u1) (fun k hk => by injection hk; omega)).kept (only_set _ r 2 u2) (fun k hk => by injection hk; omega)

theorem RefItemTold.box {w w' : World} {g : Nat} {A : Option Addr} {n c N k er' : Nat} {p b l' : List UInt8} {e : Ending} (h : RefItemTold w g A n c p N k b l' er' e w') (o : Obj) : RefItemTold w g A n c p N k b l' er' e (w'.alloc o) := by
  obtain ⟨a', A1, n1, c1, he, hown, hr, hd, hg⟩ := h
  exact ⟨a', A1, n1, c1, he, hown.alloc o, hr.below (below_box w' o) hr.lt, hd, only_trans hg (only_below (below_box w' o) _)⟩
theorem cells_set3A {w : World} {r : Nat} {a0 a1 a2 : Value} (u0 u1 u2 : Value) (o : Obj) (h0 : w.cell? ⟨r, 0, none⟩ = some a0) (h1 : w.cell? ⟨r, 1, none⟩ = some a1) (h2 : w.cell? ⟨r, 2, none⟩ = some a2) (hr : r < w.heap.size) :
    ((((w.setCell ⟨r, 0, none⟩ u0).setCell ⟨r, 1, none⟩ u1).setCell ⟨r, 2, none⟩ u2).alloc o).cell? ⟨r, 0, none⟩ = some u0 ∧ ((((w.setCell ⟨r, 0, none⟩ u0).setCell ⟨r, 1, none⟩ u1).setCell ⟨r, 2, none⟩ u2).alloc o).cell? ⟨r, 1, none⟩ = some u1 ∧
      ((((w.setCell ⟨r, 0, none⟩ u0).setCell ⟨r, 1, none⟩ u1).setCell ⟨r, 2, none⟩ u2).alloc o).cell? ⟨r, 2, none⟩ = some u2 := by
  obtain ⟨f0, f1, f2⟩ := cells_set3 u0 u1 u2 h0 h1 h2
  have hz : r < (((w.setCell ⟨r, 0, none⟩ u0).setCell ⟨r, 1, none⟩ u1).setCell ⟨r, 2, none⟩ u2).heap.size := by simpa [World.setCell] using hr
  exact ⟨(World.cell?_alloc_lt _ o ⟨r, 0, none⟩ hz).trans f0, (World.cell?_alloc_lt _ o ⟨r, 1, none⟩ hz).trans f1, (World.cell?_alloc_lt _ o ⟨r, 2, none⟩ hz).trans f2⟩

set_option maxRecDepth 100000 in
set_option maxHeartbeats 1000000 in
theorem refGet_any {w : World} {g : Nat} {A : Option Addr} {n c a er : Nat} {p : List UInt8} (h : RefAt w g A n c a er p) :
    Calls Tryd.prog 75 #[.pointer (some ⟨g, 0, none⟩)] w (RefSpanTold w g A n c p (stSpan (p.drop a) er).1 (stSpan (p.drop a) er).2.1 (stSpan (p.drop a) er).2.2.1 (stSpan (p.drop a) er).2.2.2) := by
  obtain ⟨⟨k, l1, e1⟩, h1⟩ : ∃ x, stByte (p.drop a) er = x := ⟨_, rfl⟩
  obtain ⟨⟨b, l2, e3⟩, h3⟩ : ∃ x, stBytes l1 (cls8 k e1) 4096 = x := ⟨_, rfl⟩
  have hk := stByte_lt h1
  have HI := Lib.hid h
  have H1 := Lib.hid h1
  have H3 := Lib.hid h3
  have hgw := h.lt
  clear h h1 h3
  obtain ⟨st, HST⟩ : ∃ st, Hid (st = stSpan (p.drop a) er) := ⟨_, rfl⟩
  rw [← HST.out]
  go_enter Tryd.func75, Tryd.ntmps75
  go_wp2_with fail
  have hin := HI.out.below (below_box w (Obj.cells #[.int .i64 0, .slice none 0 0] 71)) hgw
  have hres := heap_alloc_new w (Obj.cells #[.int .i64 0, .slice none 0 0] 71)
  generalize hwb : w.alloc (Obj.cells #[.int .i64 0, .slice none 0 0] 71) = wb at *
  have HWB := Lib.hid hwb; clear hwb
  have c1 := refByte_any hin
  rw [H1.out] at c1
  refine c1.mono ?_
  rintro e w2 ⟨a2, rfl, hin2, hd2, hg2⟩
  have hres2 := only_block hg2 hres (by intro e; injection e with e; omega)
  clear c1 hin hres
  rcases Nat.lt_or_ge k 8 with h8 | h8
  all_goals first
   | (have h8l : k < 8 := h8
      have h8I : ¬ (7 : Int) < (k : Int) := by omega
      have e2 : cls8 k e1 = e1 := by unfold cls8; rw [if_neg (by omega)]
      have hin3 : RefAt w2 g A n c a2 (cls8 k e1) p := by rw [e2]; exact hin2
      have hres3 := hres2
      have hga := hg2
      clear hin2 hg2 hres2
      go_wp2_with fail)
   | (have h8l : 8 ≤ k := h8
      have h8I : (7 : Int) < (k : Int) := by omega
      go_wp2_with fail
      have c2 := refFail_any hin2 2
      have e2 : failN e1 2 = cls8 k e1 := by simp [cls8, h8]
      rw [e2] at c2
      refine c2.mono ?_
      rintro e w3 ⟨rfl, hin3, hg3⟩
      have hres3 := only_block hg3 hres2 (by intro e; injection e with e; omega)
      have hga := only_trans hg2 hg3
      clear c2 e2 hin2 hg2 hg3 hres2
      go_wp2_with fail)
  all_goals (
    have c3' := refSome_any hin3 4096 (.inl (by rw [IntKind.wrap_u64]; omega))
    rw [hd2, H3.out] at c3'
    refine c3'.mono ?_
    rintro e w4 ⟨a4, A5, n5, c5, rfl, hown4, hin4, hd4, hg4⟩
    have hres4 := only_block hg4 hres3 (by intro e; injection e with e; omega)
    have hgb := only_trans hga hg4
    have hrb := (Array.getElem?_eq_some_iff.1 hres3).1
    clear c3' hin3 hg4 hres3 hga
    have hce := hin4.cell2
    have hq0 : w4.cell? ⟨w.heap.size, 0, none⟩ = some (.int .i64 0) := by rw [cell_of_row w4 w.heap.size 0 _ _ _ hres4]; rfl
    have hq1 : w4.cell? ⟨w.heap.size, 1, none⟩ = some (.slice none 0 0) := by rw [cell_of_row w4 w.heap.size 1 _ _ _ hres4]; rfl
    have hf0 := frz_block (i := 0) hres4
    have hf1 := frz_block (i := 1) hres4
    have hgz : w.grownBy w4 (some g) := by rw [← HWB.out] at hgb; exact only_box hgb
    clear hres4 hgb HWB
    by_cases he3 : e3 = 0
    · have he3I : ((e3 : Int) != 0) = false := by simp; omega
      have hst : st = (k, b, l2, 0) := by rw [HST.out]; exact stSpan_ok H1.out (by rw [H3.out, he3])
      subst he3
      go_wp2
      obtain ⟨f0, f1⟩ := cells_set2 (.int .i64 (k : Int)) (.slice A5 n5 c5) hq0 hq1
      refine bodyPost_ret (v := .agg #[.int .i64 (k : Int), .slice A5 n5 c5]) (by simp [results, Tryd.results75, go_sem, f0, f1]) rfl ?_
      rw [hst]
      exact ref_set k _ _ hgz hgw (Nat.le_refl _) hin4 hd4 hown4 hrb
    · have he3I : ((e3 : Int) != 0) = true := by simp; omega
      have hst : st = (0, [], l2, e3) := by rw [HST.out]; exact stSpan_no H1.out H3.out he3
      go_wp2
      obtain ⟨f0, f1⟩ := cells_set2 (.int .i64 0) (.slice none 0 0) hq0 hq1
      refine bodyPost_ret (v := .agg #[.int .i64 0, .slice none 0 0]) (by simp [results, Tryd.results75, go_sem, f0, f1]) rfl ?_
      rw [hst]
      exact ref_set 0 _ _ hgz hgw (Nat.le_refl _) hin4 hd4 (own_nil w4 _) (Nat.lt_succ_self _))

set_option maxRecDepth 100000 in
set_option maxHeartbeats 1000000 in
theorem refGetItem_any {w : World} {g : Nat} {A : Option Addr} {n c a er : Nat} {p : List UInt8} (h : RefAt w g A n c a er p) :
    Calls Tryd.prog 45 #[.pointer (some ⟨g, 0, none⟩)] w (RefItemTold w g A n c p (stItem (p.drop a) er).1 (stItem (p.drop a) er).2.1 (stItem (p.drop a) er).2.2.1 (stItem (p.drop a) er).2.2.2.1 (stItem (p.drop a) er).2.2.2.2) := by
  obtain ⟨⟨N, l1, e1⟩, h1⟩ : ∃ x, stNum (p.drop a) er = x := ⟨_, rfl⟩
  obtain ⟨⟨k, b, l2, e3⟩, h3⟩ : ∃ x, stSpan l1 e1 = x := ⟨_, rfl⟩
  have HI := Lib.hid h
  have H1 := Lib.hid h1
  have H3 := Lib.hid h3
  have hgw := h.lt
  clear h h1 h3
  obtain ⟨st, HST⟩ : ∃ st, Hid (st = stItem (p.drop a) er) := ⟨_, rfl⟩
  rw [← HST.out]
  go_enter Tryd.func45, Tryd.ntmps45
  go_wp2_with fail
  have hin := HI.out.below (below_box w (Obj.cells #[.int .u64 0, .int .i64 0, .slice none 0 0] 73)) hgw
  have hres := heap_alloc_new w (Obj.cells #[.int .u64 0, .int .i64 0, .slice none 0 0] 73)
  generalize hwb : w.alloc (Obj.cells #[.int .u64 0, .int .i64 0, .slice none 0 0] 73) = wb at *
  have HWB := Lib.hid hwb; clear hwb
  have c1 := refNumber_any hin
  rw [H1.out] at c1
  refine c1.mono ?_
  rintro e w2 ⟨a2, rfl, hin2, hd2, hg2⟩
  have hres2 := only_block hg2 hres (by intro e; injection e with e; omega)
  clear c1 hin hres
  go_wp2_with fail
  have c3' := refGet_any hin2
  simp only [hd2, H3.out] at c3'
  refine c3'.mono ?_
  rintro e w4 ⟨a4, A5, n5, c5, rfl, hown4, hin4, hd4, hg4⟩
  have hres4 := only_block hg4 hres2 (by intro e; injection e with e; omega)
  have hgb := only_trans hg2 hg4
  have hrb := (Array.getElem?_eq_some_iff.1 hres2).1
  have hgz : w.grownBy w4 (some g) := by rw [← HWB.out] at hgb; exact only_box hgb
  have hz4 := Nat.lt_of_lt_of_le hgw hgz.size
  clear c3' hin2 hg4 hres2 hg2 hgb HWB
  have hin5 := hin4.below (below_box w4 (Obj.cells #[.int .i64 (k : Int), .slice A5 n5 c5] 71)) hz4
  have hown5 := hown4.alloc (Obj.cells #[.int .i64 (k : Int), .slice A5 n5 c5] 71)
  have hres5 := (Below.heap_alloc w4 (Obj.cells #[.int .i64 (k : Int), .slice A5 n5 c5] 71) _ (Array.getElem?_eq_some_iff.1 hres4).1).trans hres4
  have hg5 : w.grownBy (w4.alloc (Obj.cells #[.int .i64 (k : Int), .slice A5 n5 c5] 71)) (some g) := only_trans hgz (only_below (below_box w4 _) _)
  have hce := hin5.cell2
  have hs0 : (w4.alloc (Obj.cells #[.int .i64 (k : Int), .slice A5 n5 c5] 71)).cell? ⟨w4.heap.size, 0, none⟩ = some (.int .i64 (k : Int)) := by simp
  have hs1 : (w4.alloc (Obj.cells #[.int .i64 (k : Int), .slice A5 n5 c5] 71)).cell? ⟨w4.heap.size, 1, none⟩ = some (.slice A5 n5 c5) := by simp
  have hq0 : w4.cell? ⟨w.heap.size, 0, none⟩ = some (.int .u64 0) := by rw [cell_of_row w4 w.heap.size 0 _ _ _ hres4]; rfl
  have hq1 : w4.cell? ⟨w.heap.size, 1, none⟩ = some (.int .i64 0) := by rw [cell_of_row w4 w.heap.size 1 _ _ _ hres4]; rfl
  have hq2 : w4.cell? ⟨w.heap.size, 2, none⟩ = some (.slice none 0 0) := by rw [cell_of_row w4 w.heap.size 2 _ _ _ hres4]; rfl
  have hf0 := frz_block (i := 0) hres4
  have hf1 := frz_block (i := 1) hres4
  have hf2 := frz_block (i := 2) hres4
  have hrz := (Array.getElem?_eq_some_iff.1 hres4).1
  have hce4 := hin4.cell2
  clear hres4 hres5 hin5 hown5 hg5 hs0 hs1
  unfold spv
  by_cases he3 : e3 = 0
  · have he3I : ((e3 : Int) != 0) = false := by simp; omega
    have hst : st = (N, k, b, l2, 0) := by rw [HST.out]; exact stItem_ok H1.out (by rw [H3.out, he3])
    subst he3
    go_wp2
    obtain ⟨f0, f1, f2⟩ := cells_set3A (.int .u64 (N : Int)) (.int .i64 (k : Int)) (.slice A5 n5 c5) (Obj.cells #[.int .i64 (k : Int), .slice A5 n5 c5] 71) hq0 hq1 hq2 hrz
    refine bodyPost_ret (v := .agg #[.int .u64 (N : Int), .int .i64 (k : Int), .slice A5 n5 c5]) (by simp [results, Tryd.results45, go_sem, f0, f1, f2]) rfl ?_
    rw [hst]
    exact (ref_set3 N k _ _ _ hgz hgw (Nat.le_refl _) hin4 hd4 hown4 hrb).box _
  · have he3I : ((e3 : Int) != 0) = true := by simp; omega
    have hst : st = (0, 0, [], l2, e3) := by rw [HST.out]; exact stItem_no H1.out H3.out he3
    go_wp2
    obtain ⟨f0, f1, f2⟩ := cells_set3A (.int .u64 0) (.int .i64 0) (.slice none 0 0) (Obj.cells #[.int .i64 (k : Int), .slice A5 n5 c5] 71) hq0 hq1 hq2 hrz
    refine bodyPost_ret (v := .agg #[.int .u64 0, .int .i64 0, .slice none 0 0]) (by simp [results, Tryd.results45, go_sem, f0, f1, f2]) rfl ?_
    rw [hst]
    exact (ref_set3 0 0 _ _ _ hgz hgw (Nat.le_refl _) hin4 hd4 (own_nil w4 _) (Nat.lt_succ_self _)).box _
end Go.Proofs.YtlkcnpmgafckoaaDoor
