/-
  THE WALK of the law FrameEncodes: where the table is as the program's text lays it, it returns true, whatever the frame, and turns nothing that was there.
-/
import Derived.Test.YtlkcnpmgafckoaaDoorFrameAwake
import Derived.Test.YtlkcnpmgafckoaaDoorFrameSame
import Derived.Test.YtlkcnpmgafckoaaDoorRefBytes
import Derived.Test.YtlkcnpmgafckoaaDoorDecBack
namespace Go.Proofs.YtlkcnpmgafckoaaDoor
open Go.RowKit

/-- What is encoded, in one piece. -/
def EncT (w : World) (er : Nat) (B : List UInt8) (e : Ending) (w' : World) : Prop :=
  ∃ A n c, e = .returned (.tuple #[.slice A n c, .int .i64 (er : Int)]) ∧ Sl w' w'.heap.size A n c B ∧ Below w.heap.size w w'
theorem sl_none (w : World) : Sl w w.heap.size none 0 0 [] := Sl.of_own (base := 0) (e := 0) ⟨rfl, .inl ⟨rfl, rfl⟩⟩
theorem enc_cases (m : Fm) : ∃ er B, (∀ w e w', EncPost w m e w' → EncT w er B e w') ∧ (∀ w e w', REncPost w m e w' → EncT w er B e w') ∧ (er = 0 → RightP m ∧ (encB m).length ≤ 65507 ∧ B = encB m) := by
  by_cases hr : RightP m
  · by_cases hl : 65507 < (encB m).length
    · refine ⟨6, [], fun w e w' h => ?_, fun w e w' h => ?_, fun h => absurd h (by omega)⟩
      · rcases h with h | h | h
        · exact absurd hr h.1
        · exact ⟨none, 0, 0, h.2.2.1, sl_none _, h.2.2.2⟩
        · exact absurd h.2.1 (by omega)
      · rcases h with h | h | h
        · exact absurd hr h.1
        · exact ⟨none, 0, 0, h.2.2.1, sl_none _, h.2.2.2⟩
        · exact absurd h.2.1 (by omega)
    · refine ⟨0, encB m, fun w e w' h => ?_, fun w e w' h => ?_, fun _ => ⟨hr, by omega, rfl⟩⟩
      · rcases h with h | h | h
        · exact absurd hr h.1
        · exact absurd h.2.1 hl
        · obtain ⟨_, _, A, n, c, he, ho, hb⟩ := h
          exact ⟨A, n, c, he, Sl.of_own ho, hb⟩
      · rcases h with h | h | h
        · exact absurd hr h.1
        · exact absurd h.2.1 hl
        · obtain ⟨_, _, A, n, c, he, ho, hb⟩ := h
          exact ⟨A, n, c, he, ho, hb⟩
  · refine ⟨1, [], fun w e w' h => ?_, fun w e w' h => ?_, fun h => absurd h (by omega)⟩
    · rcases h with h | h | h
      · exact ⟨none, 0, 0, h.2.1, sl_none _, h.2.2⟩
      · exact absurd h.1 hr
      · exact absurd h.1 hr
    · rcases h with h | h | h
      · exact ⟨none, 0, 0, h.2.1, sl_none _, h.2.2⟩
      · exact absurd h.1 hr
      · exact absurd h.1 hr
theorem few_sm (f : Fv) : f.few.nr ≤ 40 ∧ f.few.ni ≤ 70 := by
  unfold Fv.few
  exact ⟨Nat.min_le_right _ _, Nat.min_le_right _ _⟩

set_option maxRecDepth 100000 in
set_option maxHeartbeats 2000000 in
theorem frameEncodes_law (w : World) (ht : TabAt w) (f : Fv) (h : FrAt w f) :
    Calls Tryd.prog 4 #[f.v] w (Yes w) := by
  have HT := Lib.hid ht
  have HF := Lib.hid h
  have HV : Hid (f.v = .agg #[.int .u8 (f.kd : Int), .int .i64 f.ag, .int .u64 (f.ep : Int), .int .u64 (f.ic : Int), .int .u64 (f.ba : Int), .int .u64 (f.cu : Int), .int .u64 (f.li : Int), .slice f.Ar f.nr f.cr, .slice f.Ai f.ni f.ci]) := rfl
  rw [HV.out]
  clear ht h
  go_enter Tryd.func4, Tryd.ntmps4
  go_wp2_with fail
  refine (awake5_any _ (HT.out.alloc _)).mono ?_
  rintro e w1 ⟨rfl, hbel⟩
  have hb1 : Below w.heap.size w w1 := (below_box w f.box).trans (hbel.mono (by simp))
  have hblk := (hbel.block w.heap.size (by simp)).trans (heap_alloc_new w f.box)
  have hz1 : w.heap.size < w1.heap.size := Nat.lt_of_lt_of_le (by simp) hbel.size
  have q : ∀ i, w1.cell? ⟨w.heap.size, i, none⟩ = (#[Value.int .u8 (f.kd : Int), .int .i64 f.ag, .int .u64 (f.ep : Int), .int .u64 (f.ic : Int), .int .u64 (f.ba : Int), .int .u64 (f.cu : Int), .int .u64 (f.li : Int), .slice f.Ar f.nr f.cr, .slice f.Ai f.ni f.ci] : Array Value)[i]? := fun i => cell_of_row w1 _ i _ _ _ hblk
  have HB1 := Lib.hid hb1
  clear hbel hb1
  go_wp2_with fail
  have hc := few_any w1 f (HF.out.on HB1.out)
  rw [HV.out] at hc
  refine hc.mono ?_
  rintro e w2 ⟨rfl, hb2⟩
  have HSM := Lib.hid (few_sm f)
  have HF2 := Lib.hid HF.out.few
  obtain ⟨k, hk⟩ : ∃ k, k = f.few := ⟨_, rfl⟩
  rw [← hk] at HSM HF2 ⊢
  have HVK : Hid (k.v = .agg #[.int .u8 (k.kd : Int), .int .i64 k.ag, .int .u64 (k.ep : Int), .int .u64 (k.ic : Int), .int .u64 (k.ba : Int), .int .u64 (k.cu : Int), .int .u64 (k.li : Int), .slice k.Ar k.nr k.cr, .slice k.Ai k.ni k.ci]) := rfl
  rw [HVK.out]
  have hblk2 := (hb2.block w.heap.size hz1).trans hblk
  have r : ∀ i, w2.cell? ⟨w.heap.size, i, none⟩ = (#[Value.int .u8 (f.kd : Int), .int .i64 f.ag, .int .u64 (f.ep : Int), .int .u64 (f.ic : Int), .int .u64 (f.ba : Int), .int .u64 (f.cu : Int), .int .u64 (f.li : Int), .slice f.Ar f.nr f.cr, .slice f.Ai f.ni f.ci] : Array Value)[i]? := fun i => cell_of_row w2 _ i _ _ _ hblk2
  obtain ⟨r0, r1, r2, r3, r4, r5, r6, r7, r8⟩ : w2.cell? ⟨w.heap.size, 0, none⟩ = some (.int .u8 (f.kd : Int)) ∧ w2.cell? ⟨w.heap.size, 1, none⟩ = some (.int .i64 f.ag) ∧ w2.cell? ⟨w.heap.size, 2, none⟩ = some (.int .u64 (f.ep : Int)) ∧ w2.cell? ⟨w.heap.size, 3, none⟩ = some (.int .u64 (f.ic : Int)) ∧ w2.cell? ⟨w.heap.size, 4, none⟩ = some (.int .u64 (f.ba : Int)) ∧ w2.cell? ⟨w.heap.size, 5, none⟩ = some (.int .u64 (f.cu : Int)) ∧ w2.cell? ⟨w.heap.size, 6, none⟩ = some (.int .u64 (f.li : Int)) ∧ w2.cell? ⟨w.heap.size, 7, none⟩ = some (.slice f.Ar f.nr f.cr) ∧ w2.cell? ⟨w.heap.size, 8, none⟩ = some (.slice f.Ai f.ni f.ci) := ⟨r 0, r 1, r 2, r 3, r 4, r 5, r 6, r 7, r 8⟩
  obtain ⟨z0, z1, z2, z3, z4, z5, z6, z7, z8⟩ : w2.frozen? ⟨w.heap.size, 0, none⟩ = false ∧ w2.frozen? ⟨w.heap.size, 1, none⟩ = false ∧ w2.frozen? ⟨w.heap.size, 2, none⟩ = false ∧ w2.frozen? ⟨w.heap.size, 3, none⟩ = false ∧ w2.frozen? ⟨w.heap.size, 4, none⟩ = false ∧ w2.frozen? ⟨w.heap.size, 5, none⟩ = false ∧ w2.frozen? ⟨w.heap.size, 6, none⟩ = false ∧ w2.frozen? ⟨w.heap.size, 7, none⟩ = false ∧ w2.frozen? ⟨w.heap.size, 8, none⟩ = false := ⟨frz_block (i := 0) hblk2, frz_block (i := 1) hblk2, frz_block (i := 2) hblk2, frz_block (i := 3) hblk2, frz_block (i := 4) hblk2, frz_block (i := 5) hblk2, frz_block (i := 6) hblk2, frz_block (i := 7) hblk2, frz_block (i := 8) hblk2⟩
  have HB2 := Lib.hid (HB1.out.trans (hb2.mono HB1.out.size))
  have HB9 := Lib.hid (set9_heap (.int .u8 (k.kd : Int)) (.int .i64 k.ag) (.int .u64 (k.ep : Int)) (.int .u64 (k.ic : Int)) (.int .u64 (k.ba : Int)) (.int .u64 (k.cu : Int)) (.int .u64 (k.li : Int)) (.slice k.Ar k.nr k.cr) (.slice k.Ai k.ni k.ci) hblk2)
  have HBW := Lib.hid (set9_below (r := w.heap.size) (.int .u8 (k.kd : Int)) (.int .i64 k.ag) (.int .u64 (k.ep : Int)) (.int .u64 (k.ic : Int)) (.int .u64 (k.ba : Int)) (.int .u64 (k.cu : Int)) (.int .u64 (k.li : Int)) (.slice k.Ar k.nr k.cr) (.slice k.Ai k.ni k.ci) HB2.out (Nat.le_refl _))
  have hE : Ever (fun w' => (w'.cell? ⟨w.heap.size, 0, none⟩ = some (.int .u8 (k.kd : Int)) ∧ w'.cell? ⟨w.heap.size, 1, none⟩ = some (.int .i64 k.ag) ∧ w'.cell? ⟨w.heap.size, 2, none⟩ = some (.int .u64 (k.ep : Int)) ∧ w'.cell? ⟨w.heap.size, 3, none⟩ = some (.int .u64 (k.ic : Int)) ∧ w'.cell? ⟨w.heap.size, 4, none⟩ = some (.int .u64 (k.ba : Int)) ∧ w'.cell? ⟨w.heap.size, 5, none⟩ = some (.int .u64 (k.cu : Int)) ∧ w'.cell? ⟨w.heap.size, 6, none⟩ = some (.int .u64 (k.li : Int)) ∧ w'.cell? ⟨w.heap.size, 7, none⟩ = some (.slice k.Ar k.nr k.cr) ∧ w'.cell? ⟨w.heap.size, 8, none⟩ = some (.slice k.Ai k.ni k.ci)) ∧ FrAt w' k ∧ Below w.heap.size w w') (set9 w2 w.heap.size (.int .u8 (k.kd : Int)) (.int .i64 k.ag) (.int .u64 (k.ep : Int)) (.int .u64 (k.ic : Int)) (.int .u64 (k.ba : Int)) (.int .u64 (k.cu : Int)) (.int .u64 (k.li : Int)) (.slice k.Ar k.nr k.cr) (.slice k.Ai k.ni k.ci)) := by
    intro w' hw
    have hz3 : w.heap.size < (set9 w2 w.heap.size (.int .u8 (k.kd : Int)) (.int .i64 k.ag) (.int .u64 (k.ep : Int)) (.int .u64 (k.ic : Int)) (.int .u64 (k.ba : Int)) (.int .u64 (k.cu : Int)) (.int .u64 (k.li : Int)) (.slice k.Ar k.nr k.cr) (.slice k.Ai k.ni k.ci)).heap.size := (Array.getElem?_eq_some_iff.1 HB9.out).1
    have hbk := (hw.block w.heap.size hz3).trans HB9.out
    have hbb : Below w.heap.size w w' := HBW.out.trans (hw.mono HBW.out.size)
    have qq : ∀ i, w'.cell? ⟨w.heap.size, i, none⟩ = (#[Value.int .u8 (k.kd : Int), .int .i64 k.ag, .int .u64 (k.ep : Int), .int .u64 (k.ic : Int), .int .u64 (k.ba : Int), .int .u64 (k.cu : Int), .int .u64 (k.li : Int), .slice k.Ar k.nr k.cr, .slice k.Ai k.ni k.ci] : Array Value)[i]? := fun i => cell_of_row w' _ i _ _ _ hbk
    exact ⟨⟨qq 0, qq 1, qq 2, qq 3, qq 4, qq 5, qq 6, qq 7, qq 8⟩, HF2.out.on hbb, hbb⟩
  have q0 := hE.now.1
  clear hc hb2 q r hblk hblk2 hz1 hk
  go_wp2_with fail
  change Calls _ _ _ (set9 w2 w.heap.size (.int .u8 (k.kd : Int)) (.int .i64 k.ag) (.int .u64 (k.ep : Int)) (.int .u64 (k.ic : Int)) (.int .u64 (k.ba : Int)) (.int .u64 (k.cu : Int)) (.int .u64 (k.li : Int)) (.slice k.Ar k.nr k.cr) (.slice k.Ai k.ni k.ci)) _
  clear r0 r1 r2 r3 r4 r5 r6 r7 r8 z0 z1 z2 z3 z4 z5 z6 z7 z8 HB9 HBW HB2 HB1 HF2 q0
  generalize set9 w2 w.heap.size (.int .u8 (k.kd : Int)) (.int .i64 k.ag) (.int .u64 (k.ep : Int)) (.int .u64 (k.ic : Int)) (.int .u64 (k.ba : Int)) (.int .u64 (k.cu : Int)) (.int .u64 (k.li : Int)) (.slice k.Ar k.nr k.cr) (.slice k.Ai k.ni k.ci) = w3 at *
  obtain ⟨er, B, h1, h2, h3⟩ := enc_cases k.m
  have H1 := Lib.hid h1
  have H2 := Lib.hid h2
  have H3 := Lib.hid h3
  have hx1 : ((er : Int) != (er : Int)) = false := by simp
  clear h1 h2 h3
  have hc := encode_any w3 (HT.out.below hE.now.2.2) k hE.now.2.1
  rw [HVK.out] at hc
  refine hc.mono ?_
  intro e w4 he
  obtain ⟨A4, n4, c4, rfl, hs4, hb4⟩ := H1.out _ _ _ he
  replace hE := hE.next hb4
  have hP := ever_sl hs4
  clear hc he hs4 hb4 H1
  obtain ⟨q0, q1, q2, q3, q4, q5, q6, q7, q8⟩ := hE.now.1
  go_wp2_with fail
  have hc := own_any w4 k hE.now.2.1 HSM.out.1 HSM.out.2
  rw [HVK.out] at hc
  refine hc.mono ?_
  rintro e w5 ⟨k2, rfl, hfo, hmo, hno, hio, hbo⟩
  replace hE := hE.next hbo
  replace hP := hP.next hbo
  have hr1 : k2.nr ≤ 40 := by rw [hno]; exact HSM.out.1
  have hr2 : k2.ni ≤ 70 := by rw [hio]; exact HSM.out.2
  have HRE := Lib.hid (refEncode_any w5 k2 hfo hr1 hr2)
  rw [hmo] at HRE
  clear hc hbo hfo hmo hno hio hr1 hr2
  clear q0 q1 q2 q3 q4 q5 q6 q7 q8
  go_wp2_with fail
  refine HRE.out.mono ?_
  intro e w6 he
  obtain ⟨A6, n6, c6, rfl, hs6, hb6⟩ := H2.out _ _ _ he
  replace hE := hE.next hb6
  replace hP := hP.next hb6
  have hQ := ever_sl hs6
  clear he hs6 hb6 H2 HRE
  go_wp2_with fail
  refine (same_any _ _ A4 A6 n4 c4 n6 c6 _ _ hP.now hQ.now).mono ?_
  rintro e w7 ⟨rfl, qd, hwa⟩
  rw [show sameB B B = true from (sameB_iff _ _).2 rfl]
  have hb7 : Below w6.heap.size w6 w7 := by rw [hwa]; exact below_drewN (Below.refl _ _) qd
  replace hE := hE.next hb7
  replace hP := hP.next hb7
  clear hwa hb7 hQ
  by_cases h0 : er = 0
  · have hx2 : ((er : Int) != 0) = false := by simp; omega
    obtain ⟨hri, hlen, hB⟩ := H3.out h0
    have HD : Hid (decM B = (k.m, 0)) := by rw [hB]; exact dec_enc hri hE.now.2.1.ok hlen
    clear hri hlen hB H3 h0
    go_wp2_with fail
    refine (decode_any w7 (HT.out.below hE.now.2.2) A4 n4 c4 B hP.now).mono ?_
    rintro e w8 ⟨k3, rfl, hk3, hfr3, hb8⟩
    rw [HD.out] at hk3 ⊢
    replace hE := hE.next hb8
    have HK3 : Hid (k.m = k3.m) := hk3.symm
    have HV3 : Hid (k3.v = .agg #[.int .u8 (k3.kd : Int), .int .i64 k3.ag, .int .u64 (k3.ep : Int), .int .u64 (k3.ic : Int), .int .u64 (k3.ba : Int), .int .u64 (k3.cu : Int), .int .u64 (k3.li : Int), .slice k3.Ar k3.nr k3.cr, .slice k3.Ai k3.ni k3.ci]) := rfl
    rw [HV3.out]
    have hE3 : Ever (fun w' => FrAt w' k3) (w8.alloc k3.box) := (ever_fr hfr3).alloc _
    have hEa := hE.alloc k3.box
    obtain ⟨q0, q1, q2, q3, q4, q5, q6, q7, q8⟩ := hEa.now.1
    clear hb8 hk3 hfr3 hE hP
    go_wp2_with fail
    have hc := sameF_any _ k k3 hEa.now.2.1 hE3.now
    rw [decP_yes HK3.out, HVK.out, HV3.out] at hc
    refine hc.mono ?_
    rintro e w9 ⟨rfl, hb9⟩
    have HBX := Lib.hid (hEa.next hb9).now.2.2
    clear hc hb9 hEa hE3
    go_wp2
    go_ret
    exact ⟨rfl, HBX.out⟩
  · have hx2 : ((er : Int) != 0) = true := by simp; omega
    have HBX := Lib.hid hE.now.2.2
    clear hE hP h0
    go_wp2
    go_ret
    exact ⟨rfl, HBX.out⟩
end Go.Proofs.YtlkcnpmgafckoaaDoor
