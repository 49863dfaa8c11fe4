/-
  THE WALK of the law FrameDecodes: where the table is as the program's text lays it, it returns true, whatever the bytes, and turns nothing that was there.
-/
import Derived.Test.YtlkcnpmgafckoaaDoorFrameAwake
import Derived.Test.YtlkcnpmgafckoaaDoorFrameSame
import Derived.Test.YtlkcnpmgafckoaaDoorFrameOwn
import Derived.Test.YtlkcnpmgafckoaaDoorRefSame
import Derived.Test.YtlkcnpmgafckoaaDoorRefGet2
import Derived.Test.YtlkcnpmgafckoaaDoorDecBack
import Derived.Deep.DeepCutAuto
namespace Go.Proofs.YtlkcnpmgafckoaaDoor
open Go.RowKit

theorem cells9v {w : World} {g : Nat} {k : Fv} (h : w.heap[g]? = some k.box) : w.cell? ⟨g, 0, none⟩ = some (.int .u8 (k.kd : Int)) ∧ w.cell? ⟨g, 1, none⟩ = some (.int .i64 k.ag) ∧ w.cell? ⟨g, 2, none⟩ = some (.int .u64 (k.ep : Int)) ∧ w.cell? ⟨g, 3, none⟩ = some (.int .u64 (k.ic : Int)) ∧ w.cell? ⟨g, 4, none⟩ = some (.int .u64 (k.ba : Int)) ∧ w.cell? ⟨g, 5, none⟩ = some (.int .u64 (k.cu : Int)) ∧ w.cell? ⟨g, 6, none⟩ = some (.int .u64 (k.li : Int)) ∧ w.cell? ⟨g, 7, none⟩ = some (.slice k.Ar k.nr k.cr) ∧ w.cell? ⟨g, 8, none⟩ = some (.slice k.Ai k.ni k.ci) := by
  have q : ∀ i, w.cell? ⟨g, i, none⟩ = (#[Value.int .u8 (k.kd : Int), .int .i64 k.ag, .int .u64 (k.ep : Int), .int .u64 (k.ic : Int), .int .u64 (k.ba : Int), .int .u64 (k.cu : Int), .int .u64 (k.li : Int), .slice k.Ar k.nr k.cr, .slice k.Ai k.ni k.ci] : Array Value)[i]? := fun i => cell_of_row w _ i _ _ _ h
  exact ⟨q 0, q 1, q 2, q 3, q 4, q 5, q 6, q 7, q 8⟩
theorem cells9r {w : World} {g : Nat} {k : Fv} (h : w.heap[g]? = some k.rbox) : w.cell? ⟨g, 0, none⟩ = some (.int .i64 (k.kd : Int)) ∧ w.cell? ⟨g, 1, none⟩ = some (.int .i64 k.ag) ∧ w.cell? ⟨g, 2, none⟩ = some (.int .u64 (k.ep : Int)) ∧ w.cell? ⟨g, 3, none⟩ = some (.int .u64 (k.ic : Int)) ∧ w.cell? ⟨g, 4, none⟩ = some (.int .u64 (k.ba : Int)) ∧ w.cell? ⟨g, 5, none⟩ = some (.int .u64 (k.cu : Int)) ∧ w.cell? ⟨g, 6, none⟩ = some (.int .u64 (k.li : Int)) ∧ w.cell? ⟨g, 7, none⟩ = some (.slice k.Ar k.nr k.cr) ∧ w.cell? ⟨g, 8, none⟩ = some (.slice k.Ai k.ni k.ci) := by
  have q : ∀ i, w.cell? ⟨g, i, none⟩ = (#[Value.int .i64 (k.kd : Int), .int .i64 k.ag, .int .u64 (k.ep : Int), .int .u64 (k.ic : Int), .int .u64 (k.ba : Int), .int .u64 (k.cu : Int), .int .u64 (k.li : Int), .slice k.Ar k.nr k.cr, .slice k.Ai k.ni k.ci] : Array Value)[i]? := fun i => cell_of_row w _ i _ _ _ h
  exact ⟨q 0, q 1, q 2, q 3, q 4, q 5, q 6, q 7, q 8⟩
theorem FrAt.sizes {w : World} {f : Fv} (h : FrAt w f) : f.nr = f.m.L.length ∧ f.ni = f.m.its.length := by
  refine ⟨h.rs.len.symm, ?_⟩
  have := h.it.len
  show f.ni = (f.ks.map Ik.it).length
  rw [List.length_map]
  omega

set_option maxRecDepth 100000 in
set_option maxHeartbeats 2000000 in
theorem frameDecodes_law (w : World) (ht : TabAt w) (A : Option Addr) (n c : Nat) (l : List UInt8) (hs : Sl w w.heap.size A n c l) :
    Calls Tryd.prog 5 #[.slice A n c] w (Yes w) := by
  have HT := Lib.hid ht
  have HS := Lib.hid hs
  clear ht hs
  go_enter Tryd.func5, Tryd.ntmps5
  go_wp2_with fail
  refine (awake5_any w HT.out).mono ?_
  rintro e w1 ⟨rfl, hb1⟩
  have HB1 := Lib.hid hb1
  have HS1 := Lib.hid (HS.out.on hb1 (Nat.le_refl _))
  clear hb1 HS
  go_wp2_with fail
  refine (cut_any w1 A n c l 600 HS1.out (by omega)).mono ?_
  rintro e w2 ⟨A2, n2, c2, rfl, ho2, hb2⟩
  have HS2 := Lib.hid (Sl.of_own ho2)
  have HB2 := Lib.hid (HB1.out.trans (hb2.mono HB1.out.size))
  have HLP : Hid ((l.take 600).length ≤ 600) := by rw [List.length_take]; exact Nat.min_le_left _ _
  clear hb2 ho2 HS1 HB1
  generalize l.take 600 = p at *
  go_wp2_with fail
  refine (join_one _ w2.heap.size A2 n2 c2 p ?_ ?_ ?_ ?_).mono ?_
  · simp
  · simp
  · exact (HS2.out.alloc (Nat.le_refl _) _).more (by simp)
  · have := HLP.out; omega
  rintro e w3 h'
  have h2 := h'.of ((Below.refl _ w2).alloc (Nat.le_refl _) _)
  obtain ⟨A3, n3, c3, rfl, ho3, hb3⟩ := h2
  have HS3 := Lib.hid (Sl.of_own ho3)
  have HQ3 := Lib.hid (HS2.out.on hb3 (Nat.le_refl _))
  have HB3 := Lib.hid (HB2.out.trans (hb3.mono HB2.out.size))
  clear h' hb3 ho3 HS2 HB2
  obtain ⟨er, HER⟩ : ∃ er, Hid ((decM p).2 = er) := ⟨_, rfl⟩
  have hx1 : ((er : Int) != (er : Int)) = false := by simp
  go_wp2_with fail
  refine (decode_any w3 (HT.out.below HB3.out) A3 n3 c3 p HS3.out).mono ?_
  rintro e w4 ⟨k, rfl, hk, hfr, hb4⟩
  rw [HER.out]
  have HK := Lib.hid hk
  have HF := Lib.hid hfr
  have HB4 := Lib.hid (HB3.out.trans (hb4.mono HB3.out.size))
  have HS4 := Lib.hid (HS3.out.on hb4 (Nat.le_refl _))
  have HQ4 := Lib.hid (HQ3.out.on hb4 (Nat.le_refl _))
  have HVK : Hid (k.v = .agg #[.int .u8 (k.kd : Int), .int .i64 k.ag, .int .u64 (k.ep : Int), .int .u64 (k.ic : Int), .int .u64 (k.ba : Int), .int .u64 (k.cu : Int), .int .u64 (k.li : Int), .slice k.Ar k.nr k.cr, .slice k.Ai k.ni k.ci]) := rfl
  rw [HVK.out]
  clear hk hfr hb4 HS3 HB3 HQ3
  go_wp2_with fail
  change Calls _ _ _ (w4.alloc k.box) _
  have HX5 := Lib.hid (heap_alloc_new w4 k.box)
  have HF5 := Lib.hid (HF.out.onA k.box)
  have HB5 := Lib.hid (HB4.out.trans ((below_box w4 k.box).mono HB4.out.size))
  have HS5 := Lib.hid (HS4.out.on (below_box w4 k.box) (Nat.le_refl _))
  have HQ5 := Lib.hid (HQ4.out.on (below_box w4 k.box) (Nat.le_refl _))
  clear HF HB4 HS4 HQ4
  generalize (w4.alloc k.box) = w5 at *
  refine (refDecode_any w5 A2 n2 c2 p HQ5.out).mono ?_
  rintro e w6 ⟨k', rfl, hk', hfr', hb6⟩
  rw [HER.out]
  have hz5 : w4.heap.size < w5.heap.size := (Array.getElem?_eq_some_iff.1 HX5.out).1
  have HX6 := Lib.hid ((hb6.block w4.heap.size hz5).trans HX5.out)
  have HMM : Hid (k.m = k'.m) := HK.out.trans hk'.symm
  have HF6 := Lib.hid (HF5.out.on hb6)
  have HG6 := Lib.hid hfr'
  have HB6 := Lib.hid (HB5.out.trans (hb6.mono HB5.out.size))
  have HS6 := Lib.hid (HS5.out.on hb6 (Nat.le_refl _))
  have HQ6 := Lib.hid (HQ5.out.on hb6 (Nat.le_refl _))
  have HSM : Hid (k.nr ≤ 40 ∧ k.ni ≤ 70) := by
    have h1 := HF6.out.sizes
    have h2 := dec_small p
    rw [h1.1, h1.2, HK.out]
    exact h2
  have HRK : Hid (k'.r = .agg #[.int .i64 (k'.kd : Int), .int .i64 k'.ag, .int .u64 (k'.ep : Int), .int .u64 (k'.ic : Int), .int .u64 (k'.ba : Int), .int .u64 (k'.cu : Int), .int .u64 (k'.li : Int), .slice k'.Ar k'.nr k'.cr, .slice k'.Ai k'.ni k'.ci]) := rfl
  rw [HRK.out]
  have hz6 : w4.heap.size < w6.heap.size := (Array.getElem?_eq_some_iff.1 HX6.out).1
  clear hk' hfr' hb6 HF5 HB5 HS5 HX5 hz5 HQ5
  have hE : Ever (fun w' => ((w'.cell? ⟨w4.heap.size, 0, none⟩ = some (.int .u8 (k.kd : Int)) ∧ w'.cell? ⟨w4.heap.size, 1, none⟩ = some (.int .i64 k.ag) ∧ w'.cell? ⟨w4.heap.size, 2, none⟩ = some (.int .u64 (k.ep : Int)) ∧ w'.cell? ⟨w4.heap.size, 3, none⟩ = some (.int .u64 (k.ic : Int)) ∧ w'.cell? ⟨w4.heap.size, 4, none⟩ = some (.int .u64 (k.ba : Int)) ∧ w'.cell? ⟨w4.heap.size, 5, none⟩ = some (.int .u64 (k.cu : Int)) ∧ w'.cell? ⟨w4.heap.size, 6, none⟩ = some (.int .u64 (k.li : Int)) ∧ w'.cell? ⟨w4.heap.size, 7, none⟩ = some (.slice k.Ar k.nr k.cr) ∧ w'.cell? ⟨w4.heap.size, 8, none⟩ = some (.slice k.Ai k.ni k.ci)) ∧ (w'.cell? ⟨w6.heap.size, 0, none⟩ = some (.int .i64 (k'.kd : Int)) ∧ w'.cell? ⟨w6.heap.size, 1, none⟩ = some (.int .i64 k'.ag) ∧ w'.cell? ⟨w6.heap.size, 2, none⟩ = some (.int .u64 (k'.ep : Int)) ∧ w'.cell? ⟨w6.heap.size, 3, none⟩ = some (.int .u64 (k'.ic : Int)) ∧ w'.cell? ⟨w6.heap.size, 4, none⟩ = some (.int .u64 (k'.ba : Int)) ∧ w'.cell? ⟨w6.heap.size, 5, none⟩ = some (.int .u64 (k'.cu : Int)) ∧ w'.cell? ⟨w6.heap.size, 6, none⟩ = some (.int .u64 (k'.li : Int)) ∧ w'.cell? ⟨w6.heap.size, 7, none⟩ = some (.slice k'.Ar k'.nr k'.cr) ∧ w'.cell? ⟨w6.heap.size, 8, none⟩ = some (.slice k'.Ai k'.ni k'.ci))) ∧ FrAt w' k ∧ FrAt w' k' ∧ Below w.heap.size w w' ∧ Sl w' w'.heap.size A3 n3 c3 p ∧ Sl w' w'.heap.size A2 n2 c2 p) (w6.alloc k'.rbox) := fun w' hb => by
    have hbx := below_box w6 k'.rbox
    have hb2 : Below w6.heap.size w6 w' := hbx.trans (hb.mono hbx.size)
    have hz7 : w6.heap.size < (w6.alloc k'.rbox).heap.size := by simp
    exact ⟨⟨cells9v ((hb2.block w4.heap.size hz6).trans HX6.out), cells9r ((hb.block w6.heap.size hz7).trans (heap_alloc_new w6 k'.rbox))⟩, HF6.out.on hb2, HG6.out.on hb2, HB6.out.trans (hb2.mono HB6.out.size), HS6.out.on hb2 (Nat.le_refl _), HQ6.out.on hb2 (Nat.le_refl _)⟩
  obtain ⟨X, hX⟩ : ∃ X, X = w4.heap.size := ⟨_, rfl⟩
  obtain ⟨Y, hY⟩ : ∃ Y, Y = w6.heap.size := ⟨_, rfl⟩
  obtain ⟨Ps, HP⟩ : ∃ Ps : World → Prop, Hid (Ps = fun w' => ((w'.cell? ⟨w4.heap.size, 0, none⟩ = some (.int .u8 (k.kd : Int)) ∧ w'.cell? ⟨w4.heap.size, 1, none⟩ = some (.int .i64 k.ag) ∧ w'.cell? ⟨w4.heap.size, 2, none⟩ = some (.int .u64 (k.ep : Int)) ∧ w'.cell? ⟨w4.heap.size, 3, none⟩ = some (.int .u64 (k.ic : Int)) ∧ w'.cell? ⟨w4.heap.size, 4, none⟩ = some (.int .u64 (k.ba : Int)) ∧ w'.cell? ⟨w4.heap.size, 5, none⟩ = some (.int .u64 (k.cu : Int)) ∧ w'.cell? ⟨w4.heap.size, 6, none⟩ = some (.int .u64 (k.li : Int)) ∧ w'.cell? ⟨w4.heap.size, 7, none⟩ = some (.slice k.Ar k.nr k.cr) ∧ w'.cell? ⟨w4.heap.size, 8, none⟩ = some (.slice k.Ai k.ni k.ci)) ∧ (w'.cell? ⟨w6.heap.size, 0, none⟩ = some (.int .i64 (k'.kd : Int)) ∧ w'.cell? ⟨w6.heap.size, 1, none⟩ = some (.int .i64 k'.ag) ∧ w'.cell? ⟨w6.heap.size, 2, none⟩ = some (.int .u64 (k'.ep : Int)) ∧ w'.cell? ⟨w6.heap.size, 3, none⟩ = some (.int .u64 (k'.ic : Int)) ∧ w'.cell? ⟨w6.heap.size, 4, none⟩ = some (.int .u64 (k'.ba : Int)) ∧ w'.cell? ⟨w6.heap.size, 5, none⟩ = some (.int .u64 (k'.cu : Int)) ∧ w'.cell? ⟨w6.heap.size, 6, none⟩ = some (.int .u64 (k'.li : Int)) ∧ w'.cell? ⟨w6.heap.size, 7, none⟩ = some (.slice k'.Ar k'.nr k'.cr) ∧ w'.cell? ⟨w6.heap.size, 8, none⟩ = some (.slice k'.Ai k'.ni k'.ci))) ∧ FrAt w' k ∧ FrAt w' k' ∧ Below w.heap.size w w' ∧ Sl w' w'.heap.size A3 n3 c3 p ∧ Sl w' w'.heap.size A2 n2 c2 p) := ⟨_, rfl⟩
  have HN : Hid (∀ w', Ps w' → ((w'.cell? ⟨X, 0, none⟩ = some (.int .u8 (k.kd : Int)) ∧ w'.cell? ⟨X, 1, none⟩ = some (.int .i64 k.ag) ∧ w'.cell? ⟨X, 2, none⟩ = some (.int .u64 (k.ep : Int)) ∧ w'.cell? ⟨X, 3, none⟩ = some (.int .u64 (k.ic : Int)) ∧ w'.cell? ⟨X, 4, none⟩ = some (.int .u64 (k.ba : Int)) ∧ w'.cell? ⟨X, 5, none⟩ = some (.int .u64 (k.cu : Int)) ∧ w'.cell? ⟨X, 6, none⟩ = some (.int .u64 (k.li : Int)) ∧ w'.cell? ⟨X, 7, none⟩ = some (.slice k.Ar k.nr k.cr) ∧ w'.cell? ⟨X, 8, none⟩ = some (.slice k.Ai k.ni k.ci)) ∧ (w'.cell? ⟨Y, 0, none⟩ = some (.int .i64 (k'.kd : Int)) ∧ w'.cell? ⟨Y, 1, none⟩ = some (.int .i64 k'.ag) ∧ w'.cell? ⟨Y, 2, none⟩ = some (.int .u64 (k'.ep : Int)) ∧ w'.cell? ⟨Y, 3, none⟩ = some (.int .u64 (k'.ic : Int)) ∧ w'.cell? ⟨Y, 4, none⟩ = some (.int .u64 (k'.ba : Int)) ∧ w'.cell? ⟨Y, 5, none⟩ = some (.int .u64 (k'.cu : Int)) ∧ w'.cell? ⟨Y, 6, none⟩ = some (.int .u64 (k'.li : Int)) ∧ w'.cell? ⟨Y, 7, none⟩ = some (.slice k'.Ar k'.nr k'.cr) ∧ w'.cell? ⟨Y, 8, none⟩ = some (.slice k'.Ai k'.ni k'.ci))) ∧ FrAt w' k ∧ FrAt w' k' ∧ Below w.heap.size w w' ∧ Sl w' w'.heap.size A3 n3 c3 p ∧ Sl w' w'.heap.size A2 n2 c2 p) := by rw [HP.out, hX, hY]; exact fun _ h => h
  replace hE : Ever Ps (w6.alloc k'.rbox) := by rw [HP.out]; exact hE
  clear HP hz6
  have HXX := Lib.hid hX
  have HYY := Lib.hid hY
  clear hX hY
  go_upto_region 7 with fail
  rw [← HXX.out, ← HYY.out]
  change Code.wp _ _ _ _ (w6.alloc k'.rbox)
  have hE2 := hE.drewN 1
  clear hE HXX HYY HF6 HG6 HB6 HS6 HQ6 HX6
  generalize (w6.alloc k'.rbox) = w7 at *
  refine wp_region_noPanic ?_
  refine wp_region_held_drew (S := (fun w' => ((w'.cell? ⟨X, 0, none⟩ = some (.int .u8 (k.kd : Int)) ∧ w'.cell? ⟨X, 1, none⟩ = some (.int .i64 k.ag) ∧ w'.cell? ⟨X, 2, none⟩ = some (.int .u64 (k.ep : Int)) ∧ w'.cell? ⟨X, 3, none⟩ = some (.int .u64 (k.ic : Int)) ∧ w'.cell? ⟨X, 4, none⟩ = some (.int .u64 (k.ba : Int)) ∧ w'.cell? ⟨X, 5, none⟩ = some (.int .u64 (k.cu : Int)) ∧ w'.cell? ⟨X, 6, none⟩ = some (.int .u64 (k.li : Int)) ∧ w'.cell? ⟨X, 7, none⟩ = some (.slice k.Ar k.nr k.cr) ∧ w'.cell? ⟨X, 8, none⟩ = some (.slice k.Ai k.ni k.ci)) ∧ (w'.cell? ⟨Y, 0, none⟩ = some (.int .i64 (k'.kd : Int)) ∧ w'.cell? ⟨Y, 1, none⟩ = some (.int .i64 k'.ag) ∧ w'.cell? ⟨Y, 2, none⟩ = some (.int .u64 (k'.ep : Int)) ∧ w'.cell? ⟨Y, 3, none⟩ = some (.int .u64 (k'.ic : Int)) ∧ w'.cell? ⟨Y, 4, none⟩ = some (.int .u64 (k'.ba : Int)) ∧ w'.cell? ⟨Y, 5, none⟩ = some (.int .u64 (k'.cu : Int)) ∧ w'.cell? ⟨Y, 6, none⟩ = some (.int .u64 (k'.li : Int)) ∧ w'.cell? ⟨Y, 7, none⟩ = some (.slice k'.Ar k'.nr k'.cr) ∧ w'.cell? ⟨Y, 8, none⟩ = some (.slice k'.Ai k'.ni k'.ci))) ∧ Ever Ps w')) (by kernel_rfl) ⟨(HN.out _ hE2.now).1, hE2⟩ (fun hHeld => ?_)
  refine wpAnyH_take (i := 0) (oi := { dst := some 27, op := Op.move (Operand.tmp 5), type := 38, pos := "law.go:74", after := #[], guard := none }) (v := ?_) rfl (by kernel_rfl) (by kernel_rfl) (by kernel_rfl) (fun _ _ _ h => h) (Or.inl ⟨by rfl, ?_⟩) (by assumption) ?_
  rotate_left
  · intro w hSw; (try dsimp only at hSw); first | (go_simp; done) | (go_simp; with_reducible rfl)
  try simp only [Act.put, List.setIfInBounds_toArray, List.set_cons_zero, List.set_cons_succ]
  refine wpAnyH_take (i := 1) (oi := { dst := some 28, op := Op.move (Operand.tmp 7), type := 3, pos := "law.go:74", after := #[], guard := none }) (v := ?_) rfl (by kernel_rfl) (by kernel_rfl) (by kernel_rfl) (fun _ _ _ h => h) (Or.inl ⟨by rfl, ?_⟩) (by assumption) ?_
  rotate_left
  · intro w hSw; (try dsimp only at hSw); first | (go_simp; done) | (go_simp; with_reducible rfl)
  try simp only [Act.put, List.setIfInBounds_toArray, List.set_cons_zero, List.set_cons_succ]
  refine wpAnyH_take (i := 2) (oi := { dst := some 29, op := Op.binOp BinOp.neq 3 (Operand.tmp 27) (Operand.tmp 28) 3, type := 4, pos := "law.go:74", after := #[{ on := 0, ground := Ground.data }, { on := 1, ground := Ground.data }], guard := none }) (v := ?_) rfl (by kernel_rfl) (by kernel_rfl) (by kernel_rfl) (fun _ _ _ h => h) (Or.inl ⟨by rfl, ?_⟩) (by assumption) ?_
  rotate_left
  · intro w hSw; (try dsimp only at hSw); first | (go_simp; done) | (go_simp; with_reducible rfl)
  try simp only [Act.put, List.setIfInBounds_toArray, List.set_cons_zero, List.set_cons_succ]
  refine wpAnyH_take (i := 3) (oi := { dst := some 30, op := Op.move (Operand.tmp 29), type := 4, pos := "law.go:74", after := #[{ on := 2, ground := Ground.data }], guard := none }) (v := ?_) rfl (by kernel_rfl) (by kernel_rfl) (by kernel_rfl) (fun _ _ _ h => h) (Or.inl ⟨by rfl, ?_⟩) (by assumption) ?_
  rotate_left
  · intro w hSw; (try dsimp only at hSw); first | (go_simp; done) | (go_simp; with_reducible rfl)
  try simp only [Act.put, List.setIfInBounds_toArray, List.set_cons_zero, List.set_cons_succ]
  refine wpAnyH_take (i := 4) (oi := { dst := some 31, op := Op.load 26 (Operand.tmp 4), type := 26, pos := "law.go:74", after := #[{ on := 3, ground := Ground.guard }], guard := some (3, false) }) (v := ?_) rfl (by kernel_rfl) (by kernel_rfl) (by kernel_rfl) (fun _ _ _ h => h) (Or.inl ⟨by rfl, ?_⟩) (by assumption) ?_
  rotate_left
  · intro w hSw; (try dsimp only at hSw); first | (go_simp; done) | (go_simp; with_reducible rfl)
  try simp only [Act.put, List.setIfInBounds_toArray, List.set_cons_zero, List.set_cons_succ]
  refine wpAnyH_take (i := 6) (oi := { dst := some 33, op := Op.load 33 (Operand.tmp 6), type := 33, pos := "law.go:74", after := #[{ on := 3, ground := Ground.guard }], guard := some (3, false) }) (v := ?_) rfl (by kernel_rfl) (by kernel_rfl) (by kernel_rfl) (fun _ _ _ h => h) (Or.inl ⟨by rfl, ?_⟩) (by assumption) ?_
  rotate_left
  · intro w hSw; (try dsimp only at hSw); first | (go_simp; done) | (go_simp; with_reducible rfl)
  try simp only [Act.put, List.setIfInBounds_toArray, List.set_cons_zero, List.set_cons_succ]
  refine wpAnyH_ready (rs := [5]) (by kernel_rfl) (by simp) ?_
  refine AllReadyH.cons (o := { dst := some 32, op := Op.call { callee := Callee.value (Operand.func 14), args := #[Operand.tmp 31], argTypes := #[26] }, type := 33, pos := "law.go:74", after := #[{ on := 4, ground := Ground.data }, { on := 3, ground := Ground.chain }, { on := 3, ground := Ground.guard }], guard := some (3, false) }) rfl (fun K hK => ?_) AllReadyH.nil
  go_simp
  go_at_call 14
  have hco := own_any _ k (HN.out _ hE2.now).2.1 HSM.out.1 HSM.out.2
  rw [HVK.out] at hco
  refine hco.mono ?_
  rintro e wo ⟨k2, rfl, hfo, hmo, hno, hio, hbo⟩
  replace hE2 := hE2.next hbo
  clear hbo hco hno hio
  go_wp2_with fail
  clear hHeld
  refine hK.out _ _ ⟨(HN.out _ hE2.now).1, hE2⟩ (fun hHeld => ?_)
  clear hK K
  try simp only [Act.put, List.setIfInBounds_toArray, List.set_cons_zero, List.set_cons_succ]
  refine wpAnyH_ready (rs := [7]) (by kernel_rfl) (by simp) ?_
  refine AllReadyH.cons (o := { dst := some 34, op := Op.call { callee := Callee.value (Operand.func 23), args := #[Operand.tmp 32, Operand.tmp 33], argTypes := #[33, 33] }, type := 4, pos := "law.go:74", after := #[{ on := 5, ground := Ground.data }, { on := 6, ground := Ground.data }, { on := 5, ground := Ground.chain }, { on := 3, ground := Ground.guard }], guard := some (3, false) }) rfl (fun K hK => ?_) AllReadyH.nil
  go_simp
  go_at_call 23
  have hcr := refSameF_any _ k2 k' hfo (HN.out _ hE2.now).2.2.1
  rw [hmo, HMM.out, decP_yes rfl] at hcr
  rw [HRK.out] at hcr
  refine hcr.mono ?_
  rintro e wr ⟨rfl, hbr⟩
  replace hE2 := hE2.next hbr
  clear hbr hfo hmo hcr
  go_wp2_with fail
  clear hHeld
  refine hK.out _ _ ⟨(HN.out _ hE2.now).1, hE2⟩ (fun hHeld => ?_)
  clear hK K
  try simp only [Act.put, List.setIfInBounds_toArray, List.set_cons_zero, List.set_cons_succ]
  refine wpAnyH_take (i := 8) (oi := { dst := some 35, op := Op.unOp UnOp.not 4 (Operand.tmp 34), type := 4, pos := "law.go:74", after := #[{ on := 7, ground := Ground.data }, { on := 3, ground := Ground.guard }], guard := some (3, false) }) (v := ?_) rfl (by kernel_rfl) (by kernel_rfl) (by kernel_rfl) (fun _ _ _ h => h) (Or.inl ⟨by rfl, ?_⟩) (by assumption) ?_
  rotate_left
  · intro w hSw; (try dsimp only at hSw); first | (go_simp; done) | (go_simp; with_reducible rfl)
  try simp only [Act.put, List.setIfInBounds_toArray, List.set_cons_zero, List.set_cons_succ]
  refine wpAnyH_take (i := 9) (oi := { dst := some 36, op := Op.pick (Operand.tmp 30) (Operand.const (Value.bool true)) (Operand.tmp 35), type := 4, pos := "law.go:74", after := #[{ on := 3, ground := Ground.data }, { on := 8, ground := Ground.data }], guard := none }) (v := ?_) rfl (by kernel_rfl) (by kernel_rfl) (by kernel_rfl) (fun _ _ _ h => h) (Or.inl ⟨by rfl, ?_⟩) (by assumption) ?_
  rotate_left
  · intro w hSw; (try dsimp only at hSw); first | (go_simp; done) | (go_simp; with_reducible rfl)
  try simp only [Act.put, List.setIfInBounds_toArray, List.set_cons_zero, List.set_cons_succ]
  refine wpAnyH_take (i := 10) (oi := { dst := some 37, op := Op.move (Operand.tmp 36), type := 4, pos := "law.go:74", after := #[{ on := 9, ground := Ground.data }, { on := 7, ground := Ground.chain }], guard := none }) (v := ?_) rfl (by kernel_rfl) (by kernel_rfl) (by kernel_rfl) (fun _ _ _ h => h) (Or.inl ⟨by rfl, ?_⟩) (by assumption) ?_
  rotate_left
  · intro w hSw; (try dsimp only at hSw); first | (go_simp; done) | (go_simp; with_reducible rfl)
  try simp only [Act.put, List.setIfInBounds_toArray, List.set_cons_zero, List.set_cons_succ]
  refine wpAnyH_take (i := 11) (oi := { dst := some 38, op := Op.move (Operand.tmp 3), type := 37, pos := "law.go:74", after := #[{ on := 10, ground := Ground.guard }], guard := some (10, false) }) (v := ?_) rfl (by kernel_rfl) (by kernel_rfl) (by kernel_rfl) (fun _ _ _ h => h) (Or.inl ⟨by rfl, ?_⟩) (by assumption) ?_
  rotate_left
  · intro w hSw; (try dsimp only at hSw); first | (go_simp; done) | (go_simp; with_reducible rfl)
  try simp only [Act.put, List.setIfInBounds_toArray, List.set_cons_zero, List.set_cons_succ]
  refine wpAnyH_take (i := 12) (oi := { dst := some 39, op := Op.move (Operand.tmp 0), type := 37, pos := "law.go:74", after := #[{ on := 10, ground := Ground.guard }], guard := some (10, false) }) (v := ?_) rfl (by kernel_rfl) (by kernel_rfl) (by kernel_rfl) (fun _ _ _ h => h) (Or.inl ⟨by rfl, ?_⟩) (by assumption) ?_
  rotate_left
  · intro w hSw; (try dsimp only at hSw); first | (go_simp; done) | (go_simp; with_reducible rfl)
  try simp only [Act.put, List.setIfInBounds_toArray, List.set_cons_zero, List.set_cons_succ]
  refine wpAnyH_ready (rs := [13]) (by kernel_rfl) (by simp) ?_
  refine AllReadyH.cons (o := { dst := some 40, op := Op.call { callee := Callee.value (Operand.func 18), args := #[Operand.tmp 38, Operand.tmp 39], argTypes := #[37, 37] }, type := 4, pos := "law.go:74", after := #[{ on := 11, ground := Ground.data }, { on := 12, ground := Ground.data }, { on := 10, ground := Ground.chain }, { on := 10, ground := Ground.guard }], guard := some (10, false) }) rfl (fun K hK => ?_) AllReadyH.nil
  go_simp
  go_at_call 18
  refine (same_any _ _ A3 A2 n3 c3 n2 c2 _ _ (HN.out _ hE2.now).2.2.2.2.1 (HN.out _ hE2.now).2.2.2.2.2).mono ?_
  rintro e wa ⟨rfl, qd, hwa⟩
  rw [show sameB p p = true from (sameB_iff _ _).2 rfl]
  replace hE2 := hE2.next (w2 := wa) (by rw [hwa]; exact below_drewN (Below.refl _ _) qd)
  clear hwa
  go_wp2_with fail
  clear hHeld
  refine hK.out _ _ ⟨(HN.out _ hE2.now).1, hE2⟩ (fun hHeld => ?_)
  clear hK K
  try simp only [Act.put, List.setIfInBounds_toArray, List.set_cons_zero, List.set_cons_succ]
  refine wpAnyH_take (i := 14) (oi := { dst := some 41, op := Op.unOp UnOp.not 4 (Operand.tmp 40), type := 4, pos := "law.go:74", after := #[{ on := 13, ground := Ground.data }, { on := 10, ground := Ground.guard }], guard := some (10, false) }) (v := ?_) rfl (by kernel_rfl) (by kernel_rfl) (by kernel_rfl) (fun _ _ _ h => h) (Or.inl ⟨by rfl, ?_⟩) (by assumption) ?_
  rotate_left
  · intro w hSw; (try dsimp only at hSw); first | (go_simp; done) | (go_simp; with_reducible rfl)
  try simp only [Act.put, List.setIfInBounds_toArray, List.set_cons_zero, List.set_cons_succ]
  refine wpAnyH_take (i := 15) (oi := { dst := some 42, op := Op.pick (Operand.tmp 37) (Operand.const (Value.bool true)) (Operand.tmp 41), type := 4, pos := "law.go:74", after := #[{ on := 10, ground := Ground.data }, { on := 14, ground := Ground.data }], guard := none }) (v := ?_) rfl (by kernel_rfl) (by kernel_rfl) (by kernel_rfl) (fun _ _ _ h => h) (Or.inl ⟨by rfl, ?_⟩) (by assumption) ?_
  rotate_left
  · intro w hSw; (try dsimp only at hSw); first | (go_simp; done) | (go_simp; with_reducible rfl)
  try simp only [Act.put, List.setIfInBounds_toArray, List.set_cons_zero, List.set_cons_succ]
  refine wpAnyH_done (by kernel_rfl) ?_ _
  refine NoPanic.normal ?_
  by_cases h0 : er = 0
  · have hx2 : ((er : Int) != 0) = false := by simp; omega
    have HD0 : Hid ((decM p).2 = 0) := by rw [HER.out]; exact h0
    obtain ⟨⟨q0, q1, q2, q3, q4, q5, q6, q7, q8⟩, _⟩ := (HN.out _ hE2.now).1
    have HRM : Hid (RightP k.m) := by rw [HK.out]; exact (dec_right HD0.out).1
    have HEB : Hid (encB k.m = p) := by rw [HK.out]; exact dec_back HD0.out
    clear h0
    go_wp2_with fail
    have hce := encode_any _ (HT.out.below (HN.out _ hE2.now).2.2.2.1) k (HN.out _ hE2.now).2.1
    rw [HVK.out] at hce
    refine hce.mono ?_
    rintro e w8 (⟨hn, _⟩ | ⟨_, hl, _⟩ | ⟨_, _, A8, n8, c8, rfl, ho8, hb8⟩)
    · exact absurd HRM.out hn
    · rw [HEB.out] at hl; have := HLP.out; omega
    rw [HEB.out] at ho8
    have hE3 := hE2.next hb8
    have HS8 := Lib.hid (Sl.of_own ho8)
    clear hce hb8 ho8 hE2 q0 q1 q2 q3 q4 q5 q6 q7 q8
    go_wp2_with fail
    refine (same_any _ _ A8 A2 n8 c8 n2 c2 _ _ HS8.out (HN.out _ hE3.now).2.2.2.2.2).mono ?_
    rintro e wa ⟨rfl, qd, hwa⟩
    rw [show sameB p p = true from (sameB_iff _ _).2 rfl]
    have hE4 := hE3.next (w2 := wa) (by rw [hwa]; exact below_drewN (Below.refl _ _) qd)
    obtain ⟨⟨q0, q1, q2, q3, q4, q5, q6, q7, q8⟩, _⟩ := (HN.out _ hE4.now).1
    clear hwa hE3 HS8
    go_wp2_with fail
    have hcr := rightF_any _ k (HN.out _ hE4.now).2.1
    rw [decP_yes HRM.out, HVK.out] at hcr
    refine hcr.mono ?_
    rintro e w9 ⟨rfl, hb9⟩
    have HBX := Lib.hid (HN.out _ (hE4.next hb9).now).2.2.2.1
    clear hcr hb9 hE4
    go_wp2
    go_ret
    exact ⟨rfl, HBX.out⟩
  · have hx2 : ((er : Int) != 0) = true := by simp; omega
    have HD0 : Hid ((decM p).2 ≠ 0) := by rw [HER.out]; exact h0
    obtain ⟨⟨q0, q1, q2, q3, q4, q5, q6, q7, q8⟩, _⟩ := (HN.out _ hE2.now).1
    have HZ : Hid (k.m = zeroF.m) := by rw [HK.out]; exact dec_zero HD0.out
    clear h0
    go_wp2_with fail
    have hcs := sameF_any _ k zeroF (HN.out _ hE2.now).2.1 (zeroF_at _)
    rw [decP_yes HZ.out, HVK.out] at hcs
    unfold zeroF Fv.v at hcs
    refine hcs.mono ?_
    rintro e w9 ⟨rfl, hb9⟩
    have HBX := Lib.hid (HN.out _ (hE2.next hb9).now).2.2.2.1
    clear hcs hb9 hE2
    go_wp2
    go_ret
    exact ⟨rfl, HBX.out⟩
end Go.Proofs.YtlkcnpmgafckoaaDoor
