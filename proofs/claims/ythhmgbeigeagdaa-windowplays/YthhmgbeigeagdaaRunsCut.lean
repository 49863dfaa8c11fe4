/-
  CONTRACTS of Below, From.
  No statement is proved here.
-/
import Derived.Test.YthhmgbeigeagdaaRunsLess
namespace Go.Proofs.Ythhmgbeigeagdaa
open Go.RowKit

def belowL (L : List Rn) (v : Nat) : List Rn := lessL L (spanL [] v (two64 - 1))
def fromL (L : List Rn) (v : Nat) : List Rn := if v = 0 then L else lessL L (spanL [] 0 (v - 1))
theorem span1_len (f t : Nat) (hf : f < two64) (ht : t < two64) : (spanL [] f t).length ≤ 1 := span_len Okl.nil hf ht

set_option maxRecDepth 100000 in
set_option maxHeartbeats 400000 in
theorem below_any (w : World) (A : Option Addr) (n c v : Nat) (L : List Rn) (h : Rs w w.heap.size A n c L) (hL : Okl L) (hn : n ≤ 900) (hv : v < two64) :
    Calls Try.prog 39 #[.agg #[.slice A n c], .int .u64 (v : Int)] w (SaysS w 0 (belowL L v)) := by
  have H := Lib.hid h
  have HL := Lib.hid hL
  obtain ⟨R, HR⟩ : ∃ R, Hid (R = belowL L v) := ⟨_, rfl⟩
  rw [← HR.out]
  clear h hL
  go_enter Try.func39, Try.ntmps39
  go_wp2_with fail
  have hb2 : Below w.heap.size w ((w.alloc (Obj.cells #[.slice A n c] 28)).alloc (Obj.cells #[.slice none 0 0] 28)) := (below_box w _).alloc (by simp) _
  have hR : ((w.alloc (Obj.cells #[.slice A n c] 28)).alloc (Obj.cells #[.slice none 0 0] 28)).heap[w.heap.size + 1]? = some (.cells #[.slice none 0 0] 28 (0, 0)) := by simpa using heap_alloc_new (w.alloc (Obj.cells #[.slice A n c] 28)) (Obj.cells #[.slice none 0 0] 28)
  have hc0 : ((w.alloc (Obj.cells #[.slice A n c] 28)).alloc (Obj.cells #[.slice none 0 0] 28)).cell? ⟨w.heap.size, 0, none⟩ = some (.slice A n c) := (World.cell?_alloc_lt _ _ ⟨w.heap.size, 0, none⟩ (by simp)).trans (cell_last w _ _ _ 0 rfl)
  have hz2 : w.heap.size + 1 < ((w.alloc (Obj.cells #[.slice A n c] 28)).alloc (Obj.cells #[.slice none 0 0] 28)).heap.size := by simp
  generalize (w.alloc (Obj.cells #[.slice A n c] 28)).alloc (Obj.cells #[.slice none 0 0] 28) = w2 at *
  have HA2 := Lib.hid (H.out.on hb2 (Nat.le_refl _))
  have HB2 := Lib.hid hb2
  have HRR := Lib.hid hR
  clear hb2 hR
  go_region_held3 (fun w' => w'.cell? ⟨w.heap.size, 0, none⟩ = some (.slice A n c)) (first | exact hc0 | exact hk1 | exact hk2 | exact hk3) (first
    | (go_at_call 33
       refine (span_any _ 0 none 0 0 v 18446744073709551615 [] (St.nil_ _ _) (Nat.zero_le _) hv (by unfold two64; omega) (by omega)).mono ?_
       rintro e w3 ⟨A3, n3, c3, rfl, hs3, hp3, hb3⟩
       have hk1 : w3.cell? ⟨w.heap.size, 0, none⟩ = some (.slice A n c) := (hb3.cell (p := ⟨w.heap.size, 0, none⟩) (by show w.heap.size < w2.heap.size; omega)).trans hc0
       have HB3 : Hid (Below w2.heap.size w2 w3) := (below_drewN (Below.refl _ _) 1).trans hb3
       have HA3 := Lib.hid (HA2.out.on HB3.out (Nat.le_refl _))
       have HS3 := Lib.hid hs3)
    | (go_at_call 43
       refine (rless_any _ A A3 n c n3 c3 L _ HA3.out HS3.out.rs HL.out (span_ok Okl.nil hv (by unfold two64; omega)) hn (by have := span1_len v 18446744073709551615 hv (by unfold two64; omega); rw [HS3.out.rs.len] at this; omega)).mono ?_
       rintro e w4 ⟨A4, n4, c4, rfl, hs4, hp4, hb4⟩
       have hk2 : w4.cell? ⟨w.heap.size, 0, none⟩ = some (.slice A n c) := (hb4.cell (p := ⟨w.heap.size, 0, none⟩) (by show w.heap.size < w3.heap.size; have := HB3.out.size; omega)).trans hk1
       have HB4 : Hid (Below w2.heap.size w2 w4) := HB3.out.trans (hb4.mono HB3.out.size)
       have hR4 := (HB4.out.block _ hz2).trans HRR.out
       have hq0 : w4.cell? ⟨w.heap.size + 1, 0, none⟩ = some (.slice none 0 0) := by rw [cell_of_row w4 _ 0 _ _ _ hR4]; rfl
       have hf0 := frz_row (i := 0) hR4
       have hc6 : (w4.setCell ⟨w.heap.size + 1, 0, none⟩ (.slice A4 n4 c4)).cell? ⟨w.heap.size + 1, 0, none⟩ = some (.slice A4 n4 c4) := World.cell?_setCell_same _ _ _ hq0
       have hk3 : (w4.setCell ⟨w.heap.size + 1, 0, none⟩ (.slice A4 n4 c4)).cell? ⟨w.heap.size, 0, none⟩ = some (.slice A n c) := (World.cell?_setCell_other w4 ⟨w.heap.size + 1, 0, none⟩ ⟨w.heap.size, 0, none⟩ _ (by simp)).trans hk2
       clear hR4))
  clear hk1 hk2 hk3
  go_wp2
  refine bodyPost_ret (v := .agg #[.slice A4 n4 c4]) (by simp [results, Try.results39, go_sem, hc6]) rfl ?_
  rw [HR.out]
  exact res_set (M := w2.heap.size) (HB2.out.trans (HB4.out.mono (by omega))) (by omega) hz2 hs4 (fun b o e => (hp4 b o e).imp id (fun h => by have := HB3.out.size; omega)) (Nat.zero_le _) _
set_option maxRecDepth 100000 in
set_option maxHeartbeats 400000 in
theorem from_any_pos (w : World) (A : Option Addr) (n c v u : Nat) (L : List Rn) (h : Rs w w.heap.size A n c L) (hL : Okl L) (hn : n ≤ 900) (hv : v < two64) (huv : v = u + 1) :
    Calls Try.prog 40 #[.agg #[.slice A n c], .int .u64 (v : Int)] w (SaysS w 0 (fromL L v)) := by
  have H := Lib.hid h
  have HL := Lib.hid hL
  obtain ⟨R, HR⟩ : ∃ R, Hid (R = fromL L v) := ⟨_, rfl⟩
  rw [← HR.out]
  have HUV := Lib.hid huv
  have hv0 : ((v : Int) == 0) = false := by simp; omega
  have hv1 : (1 : Int) ≤ (v : Int) := by omega
  have hvu : IntKind.u64.wrap ((v : Int) - 1) = (u : Int) := by rw [IntKind.wrap_u64]; unfold two64 at hv; omega
  have hul : u < two64 := by omega
  clear h hL huv hv
  go_enter Try.func40, Try.ntmps40
  go_wp2_with fail
  have hb2 : Below w.heap.size w ((w.alloc (Obj.cells #[.slice A n c] 28)).alloc (Obj.cells #[.slice none 0 0] 28)) := (below_box w _).alloc (by simp) _
  have hR : ((w.alloc (Obj.cells #[.slice A n c] 28)).alloc (Obj.cells #[.slice none 0 0] 28)).heap[w.heap.size + 1]? = some (.cells #[.slice none 0 0] 28 (0, 0)) := by simpa using heap_alloc_new (w.alloc (Obj.cells #[.slice A n c] 28)) (Obj.cells #[.slice none 0 0] 28)
  have hc0 : ((w.alloc (Obj.cells #[.slice A n c] 28)).alloc (Obj.cells #[.slice none 0 0] 28)).cell? ⟨w.heap.size, 0, none⟩ = some (.slice A n c) := (World.cell?_alloc_lt _ _ ⟨w.heap.size, 0, none⟩ (by simp)).trans (cell_last w _ _ _ 0 rfl)
  have hz2 : w.heap.size + 1 < ((w.alloc (Obj.cells #[.slice A n c] 28)).alloc (Obj.cells #[.slice none 0 0] 28)).heap.size := by simp
  generalize (w.alloc (Obj.cells #[.slice A n c] 28)).alloc (Obj.cells #[.slice none 0 0] 28) = w2 at *
  have HA2 := Lib.hid (H.out.on hb2 (Nat.le_refl _))
  have HB2 := Lib.hid hb2
  have HRR := Lib.hid hR
  clear hb2 hR
  go_region_held3 (fun w' => w'.cell? ⟨w.heap.size, 0, none⟩ = some (.slice A n c)) (first | exact hc0 | exact hk1 | exact hk2 | exact hk3) (first
    | (go_at_call 33
       refine (span_any _ 0 none 0 0 0 u [] (St.nil_ _ _) (Nat.zero_le _) (by unfold two64; omega) hul (by omega)).mono ?_
       rintro e w3 ⟨A3, n3, c3, rfl, hs3, hp3, hb3⟩
       have hk1 : w3.cell? ⟨w.heap.size, 0, none⟩ = some (.slice A n c) := (hb3.cell (p := ⟨w.heap.size, 0, none⟩) (by show w.heap.size < w2.heap.size; omega)).trans hc0
       have HB3 : Hid (Below w2.heap.size w2 w3) := (below_drewN (Below.refl _ _) 1).trans hb3
       have HA3 := Lib.hid (HA2.out.on HB3.out (Nat.le_refl _))
       have HS3 := Lib.hid hs3)
    | (go_at_call 43
       refine (rless_any _ A A3 n c n3 c3 L _ HA3.out HS3.out.rs HL.out (span_ok Okl.nil (by unfold two64; omega) hul) hn (by have := span1_len 0 u (by unfold two64; omega) hul; rw [HS3.out.rs.len] at this; omega)).mono ?_
       rintro e w4 ⟨A4, n4, c4, rfl, hs4, hp4, hb4⟩
       have hk2 : w4.cell? ⟨w.heap.size, 0, none⟩ = some (.slice A n c) := (hb4.cell (p := ⟨w.heap.size, 0, none⟩) (by show w.heap.size < w3.heap.size; have := HB3.out.size; omega)).trans hk1
       have HB4 : Hid (Below w2.heap.size w2 w4) := HB3.out.trans (hb4.mono HB3.out.size)
       have hR4 := (HB4.out.block _ hz2).trans HRR.out
       have hq0 : w4.cell? ⟨w.heap.size + 1, 0, none⟩ = some (.slice none 0 0) := by rw [cell_of_row w4 _ 0 _ _ _ hR4]; rfl
       have hf0 := frz_row (i := 0) hR4
       have hc6 : (w4.setCell ⟨w.heap.size + 1, 0, none⟩ (.slice A4 n4 c4)).cell? ⟨w.heap.size + 1, 0, none⟩ = some (.slice A4 n4 c4) := World.cell?_setCell_same _ _ _ hq0
       have hk3 : (w4.setCell ⟨w.heap.size + 1, 0, none⟩ (.slice A4 n4 c4)).cell? ⟨w.heap.size, 0, none⟩ = some (.slice A n c) := (World.cell?_setCell_other w4 ⟨w.heap.size + 1, 0, none⟩ ⟨w.heap.size, 0, none⟩ _ (by simp)).trans hk2
       clear hR4))
  clear hk1 hk2 hk3
  go_wp2
  refine bodyPost_ret (v := .agg #[.slice A4 n4 c4]) (by simp [results, Try.results40, go_sem, hc6]) rfl ?_
  rw [HR.out, show fromL L v = lessL L (spanL [] 0 u) from by unfold fromL; rw [if_neg (by have := HUV.out; omega), HUV.out]; rfl]
  exact res_set (M := w2.heap.size) (HB2.out.trans (HB4.out.mono (by omega))) (by omega) hz2 hs4 (fun b o e => (hp4 b o e).imp id (fun h => by have := HB3.out.size; omega)) (Nat.zero_le _) _
set_option maxRecDepth 100000 in
set_option maxHeartbeats 400000 in
theorem from_any_zero (w : World) (A : Option Addr) (n c : Nat) :
    Calls Try.prog 40 #[.agg #[.slice A n c], .int .u64 0] w (Says w (.agg #[.slice A n c])) := by
  go_enter Try.func40, Try.ntmps40
  go_wp2
  have hc : ((w.alloc (Obj.cells #[.slice A n c] 28)).alloc (Obj.cells #[.slice A n c] 28)).cell? ⟨w.heap.size + 1, 0, none⟩ = some (.slice A n c) := cell_last (w.alloc (Obj.cells #[.slice A n c] 28)) _ _ _ 0 (by simp)
  have hb : Below w.heap.size w ((w.alloc (Obj.cells #[.slice A n c] 28)).alloc (Obj.cells #[.slice A n c] 28)) := (below_box w _).alloc (by simp) _
  refine bodyPost_ret (v := .agg #[.slice A n c]) (by simp [results, Try.results40, go_sem, hc]) rfl ?_
  exact ⟨rfl, hb⟩
theorem from_any (w : World) (A : Option Addr) (n c v : Nat) (L : List Rn) (h : St w w.heap.size A n c L) (hL : Okl L) (hn : n ≤ 900) (hv : v < two64) :
    Calls Try.prog 40 #[.agg #[.slice A n c], .int .u64 (v : Int)] w (SaysS w w.heap.size (fromL L v)) := by
  rcases v with _ | u
  · refine (from_any_zero w A n c).mono ?_
    rintro e w' ⟨rfl, hb⟩
    exact ⟨A, n, c, rfl, h.on hb (Nat.le_refl _), fun b o e => .inl (h.lies b o e), hb⟩
  · refine (from_any_pos w A n c (u + 1) u L h.rs hL hn hv rfl).mono ?_
    rintro e w' ⟨A', n', c', rfl, hs, hp, hb⟩
    exact ⟨A', n', c', rfl, hs, fun b o e => (hp b o e).imp (fun h => by omega) id, hb⟩
end Go.Proofs.Ythhmgbeigeagdaa
