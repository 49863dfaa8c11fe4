/-
  CONTRACTS of layer 4's writing: Put of spans and items, the reference's; the law's awake.
  No statement is proved here.
-/
import Derived.Test.YtlkcnpmgafckoaaDoorSpanOne
import Derived.StillTailTactics
import Derived.Deep.RegionHeld3
import Derived.Lib.SlBytesConst
namespace Go.Proofs.YtlkcnpmgafckoaaDoor
open Go.RowKit

/-- A class as a byte; a span's bytes, an item's. -/
def clsB (C : Int) : UInt8 := UInt8.ofNat (C % 256).toNat
def spanB (C : Int) (b : List UInt8) : List UInt8 := clsB C :: byts b
def itemB (N : Nat) (C : Int) (b : List UInt8) : List UInt8 := num N ++ spanB C b
theorem cls_cb (C : Int) : Value.int .u8 (C % 256) = cb (clsB C) := by
  unfold cb clsB
  congr 1
  simp
  omega
theorem cls_wrap (C : Int) : Value.int .u8 (IntKind.u8.wrap C) = cb (clsB C) := by
  rw [← cls_cb, IntKind.wrap_u8]
theorem byts_len (b : List UInt8) (h : b.length ≤ 1000000) : (byts b).length ≤ b.length + 10 := by
  unfold byts
  rw [List.length_append]
  have := num_len10 b.length (by unfold two64; omega)
  omega
theorem spanB_len (C : Int) (b : List UInt8) (h : b.length ≤ 1000000) : (spanB C b).length ≤ b.length + 11 := by
  unfold spanB
  rw [List.length_cons]
  have := byts_len b h
  omega

set_option maxRecDepth 100000 in
set_option maxHeartbeats 400000 in
theorem spanPut_any (w : World) (C : Int) (A A' : Option Addr) (m c m' c' : Nat) (l b : List UInt8) (hs : Sl w w.heap.size A m c l) (hs' : Sl w w.heap.size A' m' c' b) (hb : l.length + b.length ≤ 800000) :
    Calls Tryd.prog 90 #[spv C A' m' c', .slice A m c] w (Fresh w (l ++ spanB C b)) := by
  unfold spv
  have hle := hs.le
  have hmax := hs.max
  have hln := hs.len
  unfold maxLen at hmax
  have hm : m ≤ 800000 := by omega
  obtain ⟨i0, hi0, hz0, hz1, hz2⟩ := info_parts u8_info
  have HS := Lib.hid hs
  have HS' := Lib.hid hs'
  have HL := Lib.hid hln
  clear hs hs' hln
  go_enter Tryd.func90, Tryd.ntmps90
  go_wp2_with fail
  have hcC : (w.alloc (Obj.cells #[.int .i64 C, .slice A' m' c'] 56)).cell? ⟨w.heap.size, 0, none⟩ = some (.int .i64 C) := by simp
  have hcB : (w.alloc (Obj.cells #[.int .i64 C, .slice A' m' c'] 56)).cell? ⟨w.heap.size, 1, none⟩ = some (.slice A' m' c') := by simp
  have hzb : w.heap.size < (w.alloc (Obj.cells #[.int .i64 C, .slice A' m' c'] 56)).heap.size := by simp
  have hsA := HS.out.onA (Obj.cells #[.int .i64 C, .slice A' m' c'] 56)
  have hsA' := HS'.out.onA (Obj.cells #[.int .i64 C, .slice A' m' c'] 56)
  have hbA := below_box w (Obj.cells #[.int .i64 C, .slice A' m' c'] 56)
  generalize w.alloc (Obj.cells #[.int .i64 C, .slice A' m' c'] 56) = wb at *
  generalize hgw : w.heap.size = g at *
  have HG := Lib.hid hgw; clear hgw
  have hcA : ∀ o, (wb.alloc o).drew.cell? ⟨g, 0, none⟩ = some (.int .i64 C) := fun o => (World.cell?_alloc_lt wb o ⟨g, 0, none⟩ hzb).trans hcC
  have hd : Dst wb (g + 1) 5 A m m l := .inl ⟨rfl, by have h := hsA.take (k := m) (m := m) (Nat.le_refl _) (Nat.le_refl _) hle; rwa [List.take_of_length_le (by rw [HL.out]; omega)] at h⟩
  have HC := Lib.hid (cls_wrap C)
  go_region_held3 (fun w' => w'.cell? ⟨g, 0, none⟩ = some (.int .i64 C)) (first | assumption | exact hcC | exact hcA _) (first
    | (refine step_append_dst _ rfl (.tmp 10) (.tmp 14) 37 37 rfl (g + 1) 5 i0 Tryd.underlying37 hi0 hz0 hz1 hz2 A m m l rfl ((hd.alloc _).drewN 1) _ 1 [clsB C] rfl (((one_sl wb _ HC.out).drewN 1).src Tryd.underlying37) (by omega) (by simp; omega) ?_
       intro A2 c2 w2 h1 h2 h3 h4 h5
       have hc2 : w2.cell? ⟨g, 0, none⟩ = some (.int .i64 C) := (h4.cell (p := ⟨g, 0, none⟩) (Nat.lt_succ_self _)).trans (hcA _)))
  have hb2 : Below g w w2 := (hbA.alloc (Nat.le_of_lt hzb) _).trans ((below_drewN (Below.refl _ _) 1).trans (h4.mono (by omega)))
  have hc3 : w2.cell? ⟨g, 1, none⟩ = some (.slice A' m' c') := (h4.cell (p := ⟨g, 1, none⟩) (Nat.lt_succ_self _)).trans ((World.cell?_alloc_lt wb _ ⟨g, 1, none⟩ hzb).trans hcB)
  have hs2 := Sl.of_own (h2 (by omega))
  have hs2' : Sl w2 g A' m' c' b := HS'.out.below hb2 (Nat.le_refl _)
  clear hcC hcB hcA hd hc2 h1 h2 h3 h4 h5 hsA hsA'
  go_wp2_with fail
  refine (packBytes_any w2 A2 A' (m + 1) c2 m' c' (l ++ [clsB C]) b hs2 (hs2'.more (HG.out ▸ hb2.size)) (by simp; omega)).mono ?_
  rintro e w3 ⟨A3, n3, c3, rfl, hown, hbel⟩
  go_wp2
  go_ret
  have hgw := HG.out
  subst hgw
  refine ⟨A3, n3, c3, rfl, ?_, hb2.trans (hbel.mono hb2.size)⟩
  have h6 := own_lower hown hb2.size
  rw [List.append_assoc] at h6
  exact h6

/-- An item as a value. -/
def itv (N : Nat) (C : Int) (A : Option Addr) (n c : Nat) : Value := .agg #[.int .u64 (N : Int), .int .i64 C, .slice A n c]

set_option maxRecDepth 100000 in
set_option maxHeartbeats 400000 in
theorem itemPut_any (w : World) (N : Nat) (C : Int) (A A' : Option Addr) (m c m' c' : Nat) (l b : List UInt8) (hN : N < two64) (hs : Sl w w.heap.size A m c l) (hs' : Sl w w.heap.size A' m' c' b) (hb : l.length + b.length ≤ 700000) :
    Calls Tryd.prog 80 #[itv N C A' m' c', .slice A m c] w (Fresh w (l ++ itemB N C b)) := by
  unfold itv
  have HS := Lib.hid hs
  have HS' := Lib.hid hs'
  have HN := Lib.hid hN
  clear hs hs' hN
  go_enter Tryd.func80, Tryd.ntmps80
  go_wp2_with fail
  have hc0 : (w.alloc (Obj.cells #[.int .u64 (N : Int), .int .i64 C, .slice A' m' c'] 58)).cell? ⟨w.heap.size, 0, none⟩ = some (.int .u64 (N : Int)) := by simp
  have hc1 : (w.alloc (Obj.cells #[.int .u64 (N : Int), .int .i64 C, .slice A' m' c'] 58)).cell? ⟨w.heap.size, 1, none⟩ = some (.int .i64 C) := by simp
  have hc2 : (w.alloc (Obj.cells #[.int .u64 (N : Int), .int .i64 C, .slice A' m' c'] 58)).cell? ⟨w.heap.size, 2, none⟩ = some (.slice A' m' c') := by simp
  have hzb : w.heap.size < (w.alloc (Obj.cells #[.int .u64 (N : Int), .int .i64 C, .slice A' m' c'] 58)).heap.size := by simp
  have hsA := HS.out.onA (Obj.cells #[.int .u64 (N : Int), .int .i64 C, .slice A' m' c'] 58)
  have hsA' := HS'.out.onA (Obj.cells #[.int .u64 (N : Int), .int .i64 C, .slice A' m' c'] 58)
  have hbA := below_box w (Obj.cells #[.int .u64 (N : Int), .int .i64 C, .slice A' m' c'] 58)
  generalize w.alloc (Obj.cells #[.int .u64 (N : Int), .int .i64 C, .slice A' m' c'] 58) = wb at *
  generalize hgw : w.heap.size = g at *
  have HG := Lib.hid hgw; clear hgw
  go_region_held3 (fun w' => w'.cell? ⟨g, 0, none⟩ = some (.int .u64 (N : Int)) ∧ w'.cell? ⟨g, 1, none⟩ = some (.int .i64 C) ∧ w'.cell? ⟨g, 2, none⟩ = some (.slice A' m' c')) (first | exact ⟨hc0, hc1, hc2⟩ | exact hk1 | exact hk2) (first
    | (go_at_call 62
       refine (packNum_any _ A m c l N (by exact hsA.onD 1) HN.out (by omega)).mono ?_
       rintro e w2 ⟨A2, n2, c2, rfl, hown2, hbel2⟩
       have hk1 : w2.cell? ⟨g, 0, none⟩ = some (.int .u64 (N : Int)) ∧ w2.cell? ⟨g, 1, none⟩ = some (.int .i64 C) ∧ w2.cell? ⟨g, 2, none⟩ = some (.slice A' m' c') := ⟨(hbel2.cell (p := ⟨g, 0, none⟩) hzb).trans hc0, (hbel2.cell (p := ⟨g, 1, none⟩) hzb).trans hc1, (hbel2.cell (p := ⟨g, 2, none⟩) hzb).trans hc2⟩
       have h2 := Sl.of_own hown2
       have h2' := (hsA'.onD 1).on hbel2 (Nat.le_refl _)
       have hz2 := Nat.lt_of_lt_of_le hzb hbel2.size)
    | (go_at_call 90
       refine (spanPut_any _ C A2 A' n2 c2 m' c' (l ++ num N) b h2 h2' (by have := num_len10 N HN.out; rw [List.length_append]; omega)).mono ?_
       rintro e w3 ⟨A3, n3, c3, rfl, hown3, hbel3⟩
       have hk2 : w3.cell? ⟨g, 0, none⟩ = some (.int .u64 (N : Int)) ∧ w3.cell? ⟨g, 1, none⟩ = some (.int .i64 C) ∧ w3.cell? ⟨g, 2, none⟩ = some (.slice A' m' c') := ⟨(hbel3.cell (p := ⟨g, 0, none⟩) hz2).trans hk1.1, (hbel3.cell (p := ⟨g, 1, none⟩) hz2).trans hk1.2.1, (hbel3.cell (p := ⟨g, 2, none⟩) hz2).trans hk1.2.2⟩))
  go_wp2
  go_ret
  have hgw := HG.out
  subst hgw
  have hb2 : Below w.heap.size w w2 := hbA.trans ((below_drewN (Below.refl _ _) 1).trans (hbel2.mono hbA.size))
  refine ⟨A3, n3, c3, rfl, ?_, hb2.trans (hbel3.mono hb2.size)⟩
  have h6 := own_lower hown3 hb2.size
  rw [List.append_assoc] at h6
  exact h6

set_option maxRecDepth 100000 in
set_option maxHeartbeats 400000 in
theorem refPut_any (w : World) (C : Int) (A' : Option Addr) (m' c' : Nat) (b : List UInt8) (hs' : Sl w w.heap.size A' m' c' b) (hb : b.length ≤ 700000) :
    Calls Tryd.prog 83 #[spv C A' m' c'] w (Fresh w (spanB C b)) := by
  unfold spv
  have HS' := Lib.hid hs'
  have hbl := byts_len b (by omega)
  clear hs'
  go_enter Tryd.func83, Tryd.ntmps83
  go_wp2_with fail
  have hc0 : (w.alloc (Obj.cells #[.int .i64 C, .slice A' m' c'] 71)).cell? ⟨w.heap.size, 0, none⟩ = some (.int .i64 C) := by simp
  have hc1 : (w.alloc (Obj.cells #[.int .i64 C, .slice A' m' c'] 71)).cell? ⟨w.heap.size, 1, none⟩ = some (.slice A' m' c') := by simp
  have hzb : w.heap.size < (w.alloc (Obj.cells #[.int .i64 C, .slice A' m' c'] 71)).heap.size := by simp
  have hsA' := HS'.out.onA (Obj.cells #[.int .i64 C, .slice A' m' c'] 71)
  have hbA := below_box w (Obj.cells #[.int .i64 C, .slice A' m' c'] 71)
  generalize w.alloc (Obj.cells #[.int .i64 C, .slice A' m' c'] 71) = wb at *
  generalize hgw : w.heap.size = g at *
  have HG := Lib.hid hgw; clear hgw
  have HC := Lib.hid (cls_wrap C)
  have hcA : ∀ o, (wb.alloc o).drew.cell? ⟨g, 0, none⟩ = some (.int .i64 C) ∧ (wb.alloc o).drew.cell? ⟨g, 1, none⟩ = some (.slice A' m' c') := fun o => ⟨(World.cell?_alloc_lt wb o ⟨g, 0, none⟩ hzb).trans hc0, (World.cell?_alloc_lt wb o ⟨g, 1, none⟩ hzb).trans hc1⟩
  go_region_held3 (fun w' => w'.cell? ⟨g, 0, none⟩ = some (.int .i64 C) ∧ w'.cell? ⟨g, 1, none⟩ = some (.slice A' m' c')) (first | exact ⟨hc0, hc1⟩ | exact hcA _ | exact hk1 | exact hk1A _ | exact hk1AA _ _ | exact hk2) (first
    | (go_at_call 92
       refine (refBytes_any _ A' m' c' b (by first | exact hsA'.onD 1 | exact (hsA'.onA _).onD 1) (by omega)).mono ?_
       rintro e w2 ⟨A2, n2, c2, rfl, hown2, hbel2⟩
       have hz2 : g < w2.heap.size := Nat.lt_of_lt_of_le hzb (Nat.le_trans (by first | exact Nat.le_refl _ | (simp; done)) hbel2.size)
       first
       | (have hb2 : Below g w w2 := hbA.trans ((below_drewN (Below.refl _ _) 1).trans (hbel2.mono (Nat.le_of_lt hzb)))
          have ord2 := True.intro)
       | (have hb2 : Below g w w2 := (hbA.alloc (Nat.le_of_lt hzb) _).trans ((below_drewN (Below.refl _ _) 1).trans (hbel2.mono (by simp; omega)))
          have ord1 := True.intro)
       have hk1 : w2.cell? ⟨g, 0, none⟩ = some (.int .i64 C) ∧ w2.cell? ⟨g, 1, none⟩ = some (.slice A' m' c') := by
         first
         | exact ⟨(hbel2.cell (p := ⟨g, 0, none⟩) hzb).trans hc0, (hbel2.cell (p := ⟨g, 1, none⟩) hzb).trans hc1⟩
         | exact ⟨(hbel2.cell (p := ⟨g, 0, none⟩) (by simp; omega)).trans (hcA _).1, (hbel2.cell (p := ⟨g, 1, none⟩) (by simp; omega)).trans (hcA _).2⟩
       have hk1A : ∀ o, (w2.alloc o).cell? ⟨g, 0, none⟩ = some (.int .i64 C) ∧ (w2.alloc o).cell? ⟨g, 1, none⟩ = some (.slice A' m' c') := fun o => ⟨(World.cell?_alloc_lt w2 o ⟨g, 0, none⟩ hz2).trans hk1.1, (World.cell?_alloc_lt w2 o ⟨g, 1, none⟩ hz2).trans hk1.2⟩
       have hk1AA : ∀ o p, ((w2.alloc o).alloc p).cell? ⟨g, 0, none⟩ = some (.int .i64 C) ∧ ((w2.alloc o).alloc p).cell? ⟨g, 1, none⟩ = some (.slice A' m' c') := fun o p => ⟨(World.cell?_alloc_lt (w2.alloc o) p ⟨g, 0, none⟩ (by simp; omega)).trans (hk1A o).1, (World.cell?_alloc_lt (w2.alloc o) p ⟨g, 1, none⟩ (by simp; omega)).trans (hk1A o).2⟩
       have h2 := Sl.of_own hown2)
    | (have _ := ord1
       go_at_call 21
       refine (join_two _ w2.heap.size (some ⟨wb.heap.size, 0, none⟩) A2 1 1 n2 c2 [clsB C] (byts b) (by simp) (by simp) (by simp) (by exact (((one_sl wb _ HC.out).drewN 1).on hbel2 (by simp)).onA _) (by exact h2.onA _) (by simp; omega)).mono ?_
       rintro e w3 ⟨A3, n3, c3, rfl, hown3, hbel3⟩
       have hb3 : Below g w w3 := (hb2.alloc (Nat.le_of_lt hz2) _).trans (hbel3.mono (by simp; omega))
       have h3 := own_lower hown3 (base' := g) (by simp; omega)
       have hk2 : w3.cell? ⟨g, 0, none⟩ = some (.int .i64 C) ∧ w3.cell? ⟨g, 1, none⟩ = some (.slice A' m' c') := ⟨(hbel3.cell (p := ⟨g, 0, none⟩) (by simp; omega)).trans (hk1A _).1, (hbel3.cell (p := ⟨g, 1, none⟩) (by simp; omega)).trans (hk1A _).2⟩)
    | (have _ := ord2
       go_at_call 21
       refine (join_two _ (w2.heap.size + 1) (some ⟨w2.heap.size, 0, none⟩) A2 1 1 n2 c2 [clsB C] (byts b) (by simp) (by simp) (by simp) (by exact ((one_sl w2 _ HC.out).more (by simp)).onA _) (by exact (h2.onA _).onA _) (by simp; omega)).mono ?_
       rintro e w3 ⟨A3, n3, c3, rfl, hown3, hbel3⟩
       have hb3 : Below g w w3 := ((hb2.alloc (Nat.le_of_lt hz2) _).alloc (by simp; omega) _).trans (hbel3.mono (by simp; omega))
       have h3 := own_lower hown3 (base' := g) (by simp; omega)
       have hk2 : w3.cell? ⟨g, 0, none⟩ = some (.int .i64 C) ∧ w3.cell? ⟨g, 1, none⟩ = some (.slice A' m' c') := ⟨(hbel3.cell (p := ⟨g, 0, none⟩) (by simp; omega)).trans (hk1AA _ _).1, (hbel3.cell (p := ⟨g, 1, none⟩) (by simp; omega)).trans (hk1AA _ _).2⟩))
  all_goals (
    go_wp2
    go_ret
    have hgw := HG.out
    subst hgw
    exact ⟨A3, n3, c3, rfl, h3, hb3⟩)

set_option maxRecDepth 100000 in
set_option maxHeartbeats 400000 in
theorem refPutItem_any (w : World) (N : Nat) (C : Int) (A' : Option Addr) (m' c' : Nat) (b : List UInt8) (hN : N < two64) (hs' : Sl w w.heap.size A' m' c' b) (hb : b.length ≤ 700000) :
    Calls Tryd.prog 64 #[itv N C A' m' c'] w (Fresh w (itemB N C b)) := by
  unfold itv
  have HS' := Lib.hid hs'
  have HN := Lib.hid hN
  have hbl := spanB_len C b (by omega)
  have hnl := num_len10 N hN
  clear hs' hN
  go_enter Tryd.func64, Tryd.ntmps64
  go_wp2_with fail
  have hc : (w.alloc (Obj.cells #[.int .u64 (N : Int), .int .i64 C, .slice A' m' c'] 73)).cell? ⟨w.heap.size, 0, none⟩ = some (.int .u64 (N : Int)) ∧ (w.alloc (Obj.cells #[.int .u64 (N : Int), .int .i64 C, .slice A' m' c'] 73)).cell? ⟨w.heap.size, 1, none⟩ = some (.int .i64 C) ∧ (w.alloc (Obj.cells #[.int .u64 (N : Int), .int .i64 C, .slice A' m' c'] 73)).cell? ⟨w.heap.size, 2, none⟩ = some (.slice A' m' c') := by simp
  have hzb : w.heap.size < (w.alloc (Obj.cells #[.int .u64 (N : Int), .int .i64 C, .slice A' m' c'] 73)).heap.size := by simp
  have hsA' := HS'.out.onA (Obj.cells #[.int .u64 (N : Int), .int .i64 C, .slice A' m' c'] 73)
  have hbA := below_box w (Obj.cells #[.int .u64 (N : Int), .int .i64 C, .slice A' m' c'] 73)
  generalize w.alloc (Obj.cells #[.int .u64 (N : Int), .int .i64 C, .slice A' m' c'] 73) = wb at *
  generalize hgw : w.heap.size = g at *
  have HG := Lib.hid hgw; clear hgw
  go_region_held3 (fun w' => w'.cell? ⟨g, 0, none⟩ = some (.int .u64 (N : Int)) ∧ w'.cell? ⟨g, 1, none⟩ = some (.int .i64 C) ∧ w'.cell? ⟨g, 2, none⟩ = some (.slice A' m' c')) (first | exact hc | exact hk1 | exact hk2 | exact hk2A _ | exact hk3) (first
    | (go_at_call 63
       refine (refNum_any N _ HN.out).mono ?_
       rintro e w2 ⟨A2, n2, c2, rfl, hown2, hbel2⟩
       have hz2 : g < w2.heap.size := Nat.lt_of_lt_of_le hzb hbel2.size
       have hb2 : Below g w w2 := hbA.trans ((below_drewN (Below.refl _ _) 1).trans (hbel2.mono (Nat.le_of_lt hzb)))
       have hk1 : w2.cell? ⟨g, 0, none⟩ = some (.int .u64 (N : Int)) ∧ w2.cell? ⟨g, 1, none⟩ = some (.int .i64 C) ∧ w2.cell? ⟨g, 2, none⟩ = some (.slice A' m' c') := ⟨(hbel2.cell (p := ⟨g, 0, none⟩) hzb).trans hc.1, (hbel2.cell (p := ⟨g, 1, none⟩) hzb).trans hc.2.1, (hbel2.cell (p := ⟨g, 2, none⟩) hzb).trans hc.2.2⟩
       have h2 := Sl.of_own hown2
       have h2' := (hsA'.onD 1).on hbel2 (Nat.le_refl _))
    | (go_at_call 83
       refine (refPut_any _ C A' m' c' b h2' (by omega)).mono ?_
       rintro e w3 ⟨A3, n3, c3, rfl, hown3, hbel3⟩
       have hz3 : g < w3.heap.size := Nat.lt_of_lt_of_le hz2 hbel3.size
       have hb3 : Below g w w3 := hb2.trans (hbel3.mono (Nat.le_of_lt hz2))
       have hk2 : w3.cell? ⟨g, 0, none⟩ = some (.int .u64 (N : Int)) ∧ w3.cell? ⟨g, 1, none⟩ = some (.int .i64 C) ∧ w3.cell? ⟨g, 2, none⟩ = some (.slice A' m' c') := ⟨(hbel3.cell (p := ⟨g, 0, none⟩) hz2).trans hk1.1, (hbel3.cell (p := ⟨g, 1, none⟩) hz2).trans hk1.2.1, (hbel3.cell (p := ⟨g, 2, none⟩) hz2).trans hk1.2.2⟩
       have hk2A : ∀ o, (w3.alloc o).cell? ⟨g, 0, none⟩ = some (.int .u64 (N : Int)) ∧ (w3.alloc o).cell? ⟨g, 1, none⟩ = some (.int .i64 C) ∧ (w3.alloc o).cell? ⟨g, 2, none⟩ = some (.slice A' m' c') := fun o => ⟨(World.cell?_alloc_lt w3 o ⟨g, 0, none⟩ hz3).trans hk2.1, (World.cell?_alloc_lt w3 o ⟨g, 1, none⟩ hz3).trans hk2.2.1, (World.cell?_alloc_lt w3 o ⟨g, 2, none⟩ hz3).trans hk2.2.2⟩
       have h3 := Sl.of_own hown3
       have h3' := h2.on hbel3 (Nat.le_refl _))
    | (go_at_call 21
       refine (join_two _ w3.heap.size A2 A3 n2 c2 n3 c3 (num N) (spanB C b) (by simp) (by simp) (by simp) (by exact h3'.onA _) (by exact h3.onA _) (by omega)).mono ?_
       rintro e w4 ⟨A4, n4, c4, rfl, hown4, hbel4⟩
       have hb4 : Below g w w4 := (hb3.alloc (Nat.le_of_lt hz3) _).trans (hbel4.mono (by simp; omega))
       have h4 := own_lower hown4 (base' := g) (by simp; omega)
       have hk3 : w4.cell? ⟨g, 0, none⟩ = some (.int .u64 (N : Int)) ∧ w4.cell? ⟨g, 1, none⟩ = some (.int .i64 C) ∧ w4.cell? ⟨g, 2, none⟩ = some (.slice A' m' c') := ⟨(hbel4.cell (p := ⟨g, 0, none⟩) (by simp; omega)).trans (hk2A _).1, (hbel4.cell (p := ⟨g, 1, none⟩) (by simp; omega)).trans (hk2A _).2.1, (hbel4.cell (p := ⟨g, 2, none⟩) (by simp; omega)).trans (hk2A _).2.2⟩))
  go_wp2
  go_ret
  have hgw := HG.out
  subst hgw
  exact ⟨A4, n4, c4, rfl, h4, hb4⟩

/-! ### awake -/
theorem num2 : num 2 = [2] := by rw [num_lo (by omega)]; rfl
end Go.Proofs.YtlkcnpmgafckoaaDoor
