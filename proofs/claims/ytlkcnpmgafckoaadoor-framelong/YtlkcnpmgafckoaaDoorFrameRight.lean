/-
  CONTRACTS of layer 5: an answer's parts, a Batch's; a kind's parts; Right.
  No statement is proved here.
-/
import Derived.Test.YtlkcnpmgafckoaaDoorFrameRuns
import Derived.Test.YtlkcnpmgafckoaaDoorFrameItems
import Derived.Laws.EntriesVeiled
namespace Go.Proofs.YtlkcnpmgafckoaaDoor
open Go.RowKit

set_option maxHeartbeats 400000 in
theorem rightAnswer_any (w : World) (f : Fv) (h : FrAt w f) :
    Calls Tryd.prog 53 #[f.v] w (Says w (.bool (decP (AnswerP f.m)))) := by
  have h0 := h.items0
  have hN : AnswerP f.m ↔ f.ba = 0 ∧ f.ni = 0 ∧ f.cu ≤ f.li ∧ RunsP f.m := by unfold AnswerP; rw [← h0]; rfl
  obtain ⟨b, HB⟩ : ∃ b, Hid (b = decP (AnswerP f.m)) := ⟨_, rfl⟩
  rw [← HB.out]
  have HF := Lib.hid h
  have HN := Lib.hid hN
  unfold Fv.v
  clear hN h0 h
  by_cases h1 : f.ba = 0
  · have h1I : ((f.ba : Int) == 0) = true := by simp [h1]
    have Hh1 := Lib.hid h1; clear h1
    by_cases h2 : f.ni = 0
    · have h2I : ((f.ni : Int) == 0) = true := by simp [h2]
      have Hh2 := Lib.hid h2; clear h2
      by_cases h3 : f.cu ≤ f.li
      · have h3I : (f.cu : Int) ≤ (f.li : Int) := by omega
        have Hh3 := Lib.hid h3; clear h3
        go_enter Tryd.func53, Tryd.ntmps53
        go_wp2_with fail
        refine (rightRuns_any (w.alloc f.box) f (HF.out.onA _)).mono ?_
        rintro e w' ⟨rfl, hb⟩
        go_wp2
        go_ret
        refine ⟨ret_b ?_, (below_box w f.box).trans (hb.mono (by simp))⟩
        rw [HB.out, decP_congr HN.out]
        exact decP_congr ⟨fun x => ⟨Hh1.out, Hh2.out, Hh3.out, x⟩, fun x => x.2.2.2⟩
      · have h3I : ¬ (f.cu : Int) ≤ (f.li : Int) := by omega
        have Hh3 := Lib.hid h3; clear h3
        go_enter Tryd.func53, Tryd.ntmps53
        go_wp2
        go_ret
        refine ⟨ret_b ?_, below_box w _⟩
        rw [HB.out, decP_congr HN.out, decP_no (fun x => Hh3.out (by first | exact x.1 | exact x.2.1 | exact x.2.2.1))]
    · have h2I : ((f.ni : Int) == 0) = false := by simp [h2]
      have Hh2 := Lib.hid h2; clear h2
      go_enter Tryd.func53, Tryd.ntmps53
      go_wp2
      go_ret
      refine ⟨ret_b ?_, below_box w _⟩
      rw [HB.out, decP_congr HN.out, decP_no (fun x => Hh2.out (by first | exact x.1 | exact x.2.1 | exact x.2.2.1))]
  · have h1I : ((f.ba : Int) == 0) = false := by simp [h1]
    have Hh1 := Lib.hid h1; clear h1
    go_enter Tryd.func53, Tryd.ntmps53
    go_wp2
    go_ret
    refine ⟨ret_b ?_, below_box w _⟩
    rw [HB.out, decP_congr HN.out, decP_no (fun x => Hh1.out (by first | exact x.1 | exact x.2.1 | exact x.2.2.1))]

set_option maxHeartbeats 400000 in
theorem rightBatch_any (w : World) (f : Fv) (h : FrAt w f) :
    Calls Tryd.prog 56 #[f.v] w (Says w (.bool (decP (BatchP f.m)))) := by
  have h0 := h.items0
  have hN : BatchP f.m ↔ 1 ≤ f.ba ∧ NoAnsP f.m ∧ ItemsP f.m := Iff.rfl
  obtain ⟨b, HB⟩ : ∃ b, Hid (b = decP (BatchP f.m)) := ⟨_, rfl⟩
  rw [← HB.out]
  have HF := Lib.hid h
  have HN := Lib.hid hN
  unfold Fv.v
  clear hN h0 h
  by_cases h1 : 1 ≤ f.ba
  · have h1I : (1 : Int) ≤ (f.ba : Int) := by omega
    have Hh1 := Lib.hid h1; clear h1
    go_enter Tryd.func56, Tryd.ntmps56
    go_wp2_with fail
    refine (tells_any (w.alloc f.box) f (HF.out.onA _)).mono ?_
    rintro e w' ⟨rfl, hb⟩
    have hbb := (below_box w f.box).trans (hb.mono (by simp))
    by_cases hA : NoAnsP f.m
    · rw [decP_yes hA]
      have HA := Lib.hid hA; clear hA
      have hblk := (hb.block w.heap.size (by simp)).trans (heap_alloc_new w f.box)
      have hcs : ∀ i, w'.cell? ⟨w.heap.size, i, none⟩ = (w.alloc f.box).cell? ⟨w.heap.size, i, none⟩ := fun i => hb.cell (p := ⟨w.heap.size, i, none⟩) (by simp)
      go_wp2_with fail
      refine (rightItems_any w' f (HF.out.on hbb)).mono ?_
      rintro e w2 ⟨rfl, hb2⟩
      go_wp2
      go_ret
      refine ⟨ret_b ?_, hbb.trans (hb2.mono hbb.size)⟩
      rw [HB.out, decP_congr HN.out]
      exact decP_congr ⟨fun x => ⟨Hh1.out, HA.out, x⟩, fun x => x.2.2⟩
    · rw [decP_no hA]
      have HA := Lib.hid hA; clear hA
      go_wp2
      go_ret
      refine ⟨ret_b ?_, hbb⟩
      rw [HB.out, decP_congr HN.out, decP_no (fun x => HA.out x.2.1)]
  · have h1I : ¬ (1 : Int) ≤ (f.ba : Int) := by omega
    have Hh1 := Lib.hid h1; clear h1
    go_enter Tryd.func56, Tryd.ntmps56
    go_wp2
    go_ret
    refine ⟨ret_b ?_, below_box w _⟩
    rw [HB.out, decP_congr HN.out, decP_no (fun x => Hh1.out (by first | exact x.1 | exact x.2.1 | exact x.2.2.1))]

theorem parts1 (w : World) : Calls Tryd.prog 27 #[.int .u8 1] w (Says w (.tuple #[.agg #[.string ⟨#[104, 101, 108, 108, 111]⟩, .func (Fn.func 50) #[] #[], .func (Fn.func 51) #[] #[], .func (Fn.func 52) #[] #[]], .bool true])) := by
  go_enter Tryd.func27, Tryd.ntmps27
  go_wp2
  refine bodyPost_ret (v := .tuple #[.agg #[.string ⟨#[104, 101, 108, 108, 111]⟩, .func (Fn.func 50) #[] #[], .func (Fn.func 51) #[] #[], .func (Fn.func 52) #[] #[]], .bool true]) (by simp [results, Tryd.results27, go_sem]) rfl ⟨rfl, ?_⟩
  exact below_box w _
theorem parts2 (w : World) : Calls Tryd.prog 27 #[.int .u8 2] w (Says w (.tuple #[.agg #[.string ⟨#[119, 101, 108, 99, 111, 109, 101]⟩, .func (Fn.func 53) #[] #[], .func (Fn.func 54) #[] #[], .func (Fn.func 55) #[] #[]], .bool true])) := by
  go_enter Tryd.func27, Tryd.ntmps27
  go_wp2
  refine bodyPost_ret (v := .tuple #[.agg #[.string ⟨#[119, 101, 108, 99, 111, 109, 101]⟩, .func (Fn.func 53) #[] #[], .func (Fn.func 54) #[] #[], .func (Fn.func 55) #[] #[]], .bool true]) (by simp [results, Tryd.results27, go_sem]) rfl ⟨rfl, ?_⟩
  exact below_box w _
theorem parts3 (w : World) : Calls Tryd.prog 27 #[.int .u8 3] w (Says w (.tuple #[.agg #[.string ⟨#[98, 97, 116, 99, 104]⟩, .func (Fn.func 56) #[] #[], .func (Fn.func 57) #[] #[], .func (Fn.func 58) #[] #[]], .bool true])) := by
  go_enter Tryd.func27, Tryd.ntmps27
  go_wp2
  refine bodyPost_ret (v := .tuple #[.agg #[.string ⟨#[98, 97, 116, 99, 104]⟩, .func (Fn.func 56) #[] #[], .func (Fn.func 57) #[] #[], .func (Fn.func 58) #[] #[]], .bool true]) (by simp [results, Tryd.results27, go_sem]) rfl ⟨rfl, ?_⟩
  exact below_box w _
theorem parts4 (w : World) : Calls Tryd.prog 27 #[.int .u8 4] w (Says w (.tuple #[.agg #[.string ⟨#[97, 99, 107]⟩, .func (Fn.func 53) #[] #[], .func (Fn.func 54) #[] #[], .func (Fn.func 55) #[] #[]], .bool true])) := by
  go_enter Tryd.func27, Tryd.ntmps27
  go_wp2
  refine bodyPost_ret (v := .tuple #[.agg #[.string ⟨#[97, 99, 107]⟩, .func (Fn.func 53) #[] #[], .func (Fn.func 54) #[] #[], .func (Fn.func 55) #[] #[]], .bool true]) (by simp [results, Tryd.results27, go_sem]) rfl ⟨rfl, ?_⟩
  exact below_box w _
theorem parts_no (w : World) (k : Nat) (h0 : ¬ (k = 1 ∨ k = 2 ∨ k = 3 ∨ k = 4)) : Calls Tryd.prog 27 #[.int .u8 (k : Int)] w (Says w (.tuple #[.agg #[.string ⟨#[]⟩, .nilFunc, .nilFunc, .nilFunc], .bool false])) := by
  have h1 : ((k : Int) == 1) = false := by simp; omega
  have h2 : ((k : Int) == 2) = false := by simp; omega
  have h3 : ((k : Int) == 3) = false := by simp; omega
  have h4 : ((k : Int) == 4) = false := by simp; omega
  clear h0
  go_enter Tryd.func27, Tryd.ntmps27
  go_wp2
  refine bodyPost_ret (v := .tuple #[.agg #[.string ⟨#[]⟩, .nilFunc, .nilFunc, .nilFunc], .bool false]) (by simp [results, Tryd.results27, go_sem]) rfl ⟨rfl, ?_⟩
  exact below_box w _

def Fcs1 (f : Fv) : Array Value := #[.int .u8 1, .int .i64 f.ag, .int .u64 (f.ep : Int), .int .u64 (f.ic : Int), .int .u64 (f.ba : Int), .int .u64 (f.cu : Int), .int .u64 (f.li : Int), .slice f.Ar f.nr f.cr, .slice f.Ai f.ni f.ci]
def Fcs2 (f : Fv) : Array Value := #[.int .u8 2, .int .i64 f.ag, .int .u64 (f.ep : Int), .int .u64 (f.ic : Int), .int .u64 (f.ba : Int), .int .u64 (f.cu : Int), .int .u64 (f.li : Int), .slice f.Ar f.nr f.cr, .slice f.Ai f.ni f.ci]
def Fcs3 (f : Fv) : Array Value := #[.int .u8 3, .int .i64 f.ag, .int .u64 (f.ep : Int), .int .u64 (f.ic : Int), .int .u64 (f.ba : Int), .int .u64 (f.cu : Int), .int .u64 (f.li : Int), .slice f.Ar f.nr f.cr, .slice f.Ai f.ni f.ci]
def Fcs4 (f : Fv) : Array Value := #[.int .u8 4, .int .i64 f.ag, .int .u64 (f.ep : Int), .int .u64 (f.ic : Int), .int .u64 (f.ba : Int), .int .u64 (f.cu : Int), .int .u64 (f.li : Int), .slice f.Ar f.nr f.cr, .slice f.Ai f.ni f.ci]
set_option maxHeartbeats 800000 in
theorem right1_any (w : World) (f : Fv) (h : FrAt w f) (hk : f.kd = 1) :
    Calls Tryd.prog 12 #[f.v] w (Says w (.bool (decP (RightP f.m)))) := by
  have hN : RightP f.m ↔ 0 ≤ f.ag ∧ f.ag < 16 ∧ 1 ≤ f.ep ∧ HelloP f.m := by
    have e : f.m.kd = 1 := hk
    unfold RightP PartsP
    rw [e]
    constructor
    · rintro ⟨h1, h2, h3, h4⟩
      refine ⟨h1, h2, h3, ?_⟩
      rcases h4 with h4 | h4 | h4
      all_goals first | exact h4.2 | (exfalso; omega)
    · rintro ⟨h1, h2, h3, h4⟩
      exact ⟨h1, h2, h3, by first | exact .inl ⟨rfl, h4⟩ | exact .inr (.inl ⟨by omega, h4⟩) | exact .inr (.inr ⟨rfl, h4⟩)⟩
  obtain ⟨b, HB⟩ : ∃ b, Hid (b = decP (RightP f.m)) := ⟨_, rfl⟩
  rw [← HB.out]
  have HN := Lib.hid hN
  have HV : Hid (f.v = .agg (Fcs1 f)) := by show _ = _; unfold Fv.v Fcs1; rw [hk]; rfl
  rw [HV.out]
  have HF := Lib.hid h
  clear hN h hk
  unfold Fcs1
  by_cases h1 : (0 : Int) ≤ f.ag
  · have h1I : (0 : Int) ≤ f.ag := h1
    have Hh1 := Lib.hid h1; clear h1
    by_cases h2 : f.ag < 16
    · have h2I : f.ag < 16 := h2
      have Hh2 := Lib.hid h2; clear h2
      by_cases h3 : 1 ≤ f.ep
      · have h3I : (1 : Int) ≤ (f.ep : Int) := by omega
        have Hh3 := Lib.hid h3; clear h3
        go_enter Tryd.func12, Tryd.ntmps12
        go_wp2_with fail
        have hbx := below_box w (.cells #[.int .u8 1, .int .i64 f.ag, .int .u64 (f.ep : Int), .int .u64 (f.ic : Int), .int .u64 (f.ba : Int), .int .u64 (f.cu : Int), .int .u64 (f.li : Int), .slice f.Ar f.nr f.cr, .slice f.Ai f.ni f.ci] 26)
        have hblk := heap_alloc_new w (.cells #[.int .u8 1, .int .i64 f.ag, .int .u64 (f.ep : Int), .int .u64 (f.ic : Int), .int .u64 (f.ba : Int), .int .u64 (f.cu : Int), .int .u64 (f.li : Int), .slice f.Ar f.nr f.cr, .slice f.Ai f.ni f.ci] 26)
        have hzb : w.heap.size < (w.alloc (.cells #[.int .u8 1, .int .i64 f.ag, .int .u64 (f.ep : Int), .int .u64 (f.ic : Int), .int .u64 (f.ba : Int), .int .u64 (f.cu : Int), .int .u64 (f.li : Int), .slice f.Ar f.nr f.cr, .slice f.Ai f.ni f.ci] 26)).heap.size := by simp
        generalize w.alloc (.cells #[.int .u8 1, .int .i64 f.ag, .int .u64 (f.ep : Int), .int .u64 (f.ic : Int), .int .u64 (f.ba : Int), .int .u64 (f.cu : Int), .int .u64 (f.li : Int), .slice f.Ar f.nr f.cr, .slice f.Ai f.ni f.ci] 26) = wb at *
        refine (parts1 wb).mono ?_
        rintro e w2 ⟨rfl, hb2⟩
        have hbw : Below w.heap.size w w2 := hbx.trans (hb2.mono (Nat.le_of_lt hzb))
        have hz2 : w.heap.size < w2.heap.size := Nat.lt_of_lt_of_le hzb hb2.size
        have hblk2 := (hb2.block w.heap.size hzb).trans hblk
        have q : ∀ i, w2.cell? ⟨w.heap.size, i, none⟩ = (#[Value.int .u8 1, .int .i64 f.ag, .int .u64 (f.ep : Int), .int .u64 (f.ic : Int), .int .u64 (f.ba : Int), .int .u64 (f.cu : Int), .int .u64 (f.li : Int), .slice f.Ar f.nr f.cr, .slice f.Ai f.ni f.ci] : Array Value)[i]? := fun i => cell_of_row w2 _ i _ _ _ hblk2
        have HBW := Lib.hid hbw
        clear hbx hblk hzb hb2 hblk2 hbw
        obtain ⟨g, hg⟩ : ∃ g, g = w.heap.size := ⟨_, rfl⟩
        rw [← hg] at hz2 q ⊢
        have HG := Lib.hid hg
        clear hg
        go_wp2_with fail
        have hb3 : Below w2.heap.size w2 (w2.alloc (.cells #[.string ⟨#[104, 101, 108, 108, 111]⟩, .func (Fn.func 50) #[] #[], .func (Fn.func 51) #[] #[], .func (Fn.func 52) #[] #[]] 66)) := below_box w2 _
        generalize w2.alloc (.cells #[.string ⟨#[104, 101, 108, 108, 111]⟩, .func (Fn.func 50) #[] #[], .func (Fn.func 51) #[] #[], .func (Fn.func 52) #[] #[]] 66) = w3 at *
        have hb4 : Below w.heap.size w w3 := HBW.out.trans (hb3.mono (by rw [← HG.out]; omega))
        have hc := rightHello_any w3 f (HF.out.on hb4)
        rw [HV.out] at hc
        unfold Fcs1 at hc
        refine hc.mono ?_
        rintro e w4 ⟨rfl, hb5⟩
        clear hc
        go_wp2
        go_ret
        refine ⟨ret_b ?_, hb4.trans (hb5.mono hb4.size)⟩
        rw [HB.out, decP_congr HN.out]
        exact decP_congr ⟨fun x => ⟨Hh1.out, Hh2.out, Hh3.out, x⟩, fun x => x.2.2.2⟩
      · have h3I : ¬ (1 : Int) ≤ (f.ep : Int) := by omega
        have Hh3 := Lib.hid h3; clear h3
        skip
        go_enter Tryd.func12, Tryd.ntmps12
        go_wp2_with fail
        have hbx := below_box w (.cells #[.int .u8 1, .int .i64 f.ag, .int .u64 (f.ep : Int), .int .u64 (f.ic : Int), .int .u64 (f.ba : Int), .int .u64 (f.cu : Int), .int .u64 (f.li : Int), .slice f.Ar f.nr f.cr, .slice f.Ai f.ni f.ci] 26)
        have hblk := heap_alloc_new w (.cells #[.int .u8 1, .int .i64 f.ag, .int .u64 (f.ep : Int), .int .u64 (f.ic : Int), .int .u64 (f.ba : Int), .int .u64 (f.cu : Int), .int .u64 (f.li : Int), .slice f.Ar f.nr f.cr, .slice f.Ai f.ni f.ci] 26)
        have hzb : w.heap.size < (w.alloc (.cells #[.int .u8 1, .int .i64 f.ag, .int .u64 (f.ep : Int), .int .u64 (f.ic : Int), .int .u64 (f.ba : Int), .int .u64 (f.cu : Int), .int .u64 (f.li : Int), .slice f.Ar f.nr f.cr, .slice f.Ai f.ni f.ci] 26)).heap.size := by simp
        generalize w.alloc (.cells #[.int .u8 1, .int .i64 f.ag, .int .u64 (f.ep : Int), .int .u64 (f.ic : Int), .int .u64 (f.ba : Int), .int .u64 (f.cu : Int), .int .u64 (f.li : Int), .slice f.Ar f.nr f.cr, .slice f.Ai f.ni f.ci] 26) = wb at *
        refine (parts1 wb).mono ?_
        rintro e w2 ⟨rfl, hb2⟩
        have hbw : Below w.heap.size w w2 := hbx.trans (hb2.mono (Nat.le_of_lt hzb))
        have hz2 : w.heap.size < w2.heap.size := Nat.lt_of_lt_of_le hzb hb2.size
        have hblk2 := (hb2.block w.heap.size hzb).trans hblk
        have q : ∀ i, w2.cell? ⟨w.heap.size, i, none⟩ = (#[Value.int .u8 1, .int .i64 f.ag, .int .u64 (f.ep : Int), .int .u64 (f.ic : Int), .int .u64 (f.ba : Int), .int .u64 (f.cu : Int), .int .u64 (f.li : Int), .slice f.Ar f.nr f.cr, .slice f.Ai f.ni f.ci] : Array Value)[i]? := fun i => cell_of_row w2 _ i _ _ _ hblk2
        have HBW := Lib.hid hbw
        clear hbx hblk hzb hb2 hblk2 hbw
        obtain ⟨g, hg⟩ : ∃ g, g = w.heap.size := ⟨_, rfl⟩
        rw [← hg] at hz2 q ⊢
        have HG := Lib.hid hg
        clear hg
        go_wp2
        go_ret
        refine ⟨ret_b ?_, HBW.out.trans ((below_box w2 _).mono (by rw [← HG.out]; omega))⟩
        rw [HB.out, decP_congr HN.out, decP_no (fun x => by have hh := Hh3.out; have a1 := x.1; have a2 := x.2.1; have a3 := x.2.2.1; omega)]
    · have h2I : ¬ f.ag < 16 := h2
      have Hh2 := Lib.hid h2; clear h2
      skip
      go_enter Tryd.func12, Tryd.ntmps12
      go_wp2_with fail
      have hbx := below_box w (.cells #[.int .u8 1, .int .i64 f.ag, .int .u64 (f.ep : Int), .int .u64 (f.ic : Int), .int .u64 (f.ba : Int), .int .u64 (f.cu : Int), .int .u64 (f.li : Int), .slice f.Ar f.nr f.cr, .slice f.Ai f.ni f.ci] 26)
      have hblk := heap_alloc_new w (.cells #[.int .u8 1, .int .i64 f.ag, .int .u64 (f.ep : Int), .int .u64 (f.ic : Int), .int .u64 (f.ba : Int), .int .u64 (f.cu : Int), .int .u64 (f.li : Int), .slice f.Ar f.nr f.cr, .slice f.Ai f.ni f.ci] 26)
      have hzb : w.heap.size < (w.alloc (.cells #[.int .u8 1, .int .i64 f.ag, .int .u64 (f.ep : Int), .int .u64 (f.ic : Int), .int .u64 (f.ba : Int), .int .u64 (f.cu : Int), .int .u64 (f.li : Int), .slice f.Ar f.nr f.cr, .slice f.Ai f.ni f.ci] 26)).heap.size := by simp
      generalize w.alloc (.cells #[.int .u8 1, .int .i64 f.ag, .int .u64 (f.ep : Int), .int .u64 (f.ic : Int), .int .u64 (f.ba : Int), .int .u64 (f.cu : Int), .int .u64 (f.li : Int), .slice f.Ar f.nr f.cr, .slice f.Ai f.ni f.ci] 26) = wb at *
      refine (parts1 wb).mono ?_
      rintro e w2 ⟨rfl, hb2⟩
      have hbw : Below w.heap.size w w2 := hbx.trans (hb2.mono (Nat.le_of_lt hzb))
      have hz2 : w.heap.size < w2.heap.size := Nat.lt_of_lt_of_le hzb hb2.size
      have hblk2 := (hb2.block w.heap.size hzb).trans hblk
      have q : ∀ i, w2.cell? ⟨w.heap.size, i, none⟩ = (#[Value.int .u8 1, .int .i64 f.ag, .int .u64 (f.ep : Int), .int .u64 (f.ic : Int), .int .u64 (f.ba : Int), .int .u64 (f.cu : Int), .int .u64 (f.li : Int), .slice f.Ar f.nr f.cr, .slice f.Ai f.ni f.ci] : Array Value)[i]? := fun i => cell_of_row w2 _ i _ _ _ hblk2
      have HBW := Lib.hid hbw
      clear hbx hblk hzb hb2 hblk2 hbw
      obtain ⟨g, hg⟩ : ∃ g, g = w.heap.size := ⟨_, rfl⟩
      rw [← hg] at hz2 q ⊢
      have HG := Lib.hid hg
      clear hg
      go_wp2
      go_ret
      refine ⟨ret_b ?_, HBW.out.trans ((below_box w2 _).mono (by rw [← HG.out]; omega))⟩
      rw [HB.out, decP_congr HN.out, decP_no (fun x => by have hh := Hh2.out; have a1 := x.1; have a2 := x.2.1; have a3 := x.2.2.1; omega)]
  · have h1I : ¬ (0 : Int) ≤ f.ag := h1
    have Hh1 := Lib.hid h1; clear h1
    skip
    go_enter Tryd.func12, Tryd.ntmps12
    go_wp2_with fail
    have hbx := below_box w (.cells #[.int .u8 1, .int .i64 f.ag, .int .u64 (f.ep : Int), .int .u64 (f.ic : Int), .int .u64 (f.ba : Int), .int .u64 (f.cu : Int), .int .u64 (f.li : Int), .slice f.Ar f.nr f.cr, .slice f.Ai f.ni f.ci] 26)
    have hblk := heap_alloc_new w (.cells #[.int .u8 1, .int .i64 f.ag, .int .u64 (f.ep : Int), .int .u64 (f.ic : Int), .int .u64 (f.ba : Int), .int .u64 (f.cu : Int), .int .u64 (f.li : Int), .slice f.Ar f.nr f.cr, .slice f.Ai f.ni f.ci] 26)
    have hzb : w.heap.size < (w.alloc (.cells #[.int .u8 1, .int .i64 f.ag, .int .u64 (f.ep : Int), .int .u64 (f.ic : Int), .int .u64 (f.ba : Int), .int .u64 (f.cu : Int), .int .u64 (f.li : Int), .slice f.Ar f.nr f.cr, .slice f.Ai f.ni f.ci] 26)).heap.size := by simp
    generalize w.alloc (.cells #[.int .u8 1, .int .i64 f.ag, .int .u64 (f.ep : Int), .int .u64 (f.ic : Int), .int .u64 (f.ba : Int), .int .u64 (f.cu : Int), .int .u64 (f.li : Int), .slice f.Ar f.nr f.cr, .slice f.Ai f.ni f.ci] 26) = wb at *
    refine (parts1 wb).mono ?_
    rintro e w2 ⟨rfl, hb2⟩
    have hbw : Below w.heap.size w w2 := hbx.trans (hb2.mono (Nat.le_of_lt hzb))
    have hz2 : w.heap.size < w2.heap.size := Nat.lt_of_lt_of_le hzb hb2.size
    have hblk2 := (hb2.block w.heap.size hzb).trans hblk
    have q : ∀ i, w2.cell? ⟨w.heap.size, i, none⟩ = (#[Value.int .u8 1, .int .i64 f.ag, .int .u64 (f.ep : Int), .int .u64 (f.ic : Int), .int .u64 (f.ba : Int), .int .u64 (f.cu : Int), .int .u64 (f.li : Int), .slice f.Ar f.nr f.cr, .slice f.Ai f.ni f.ci] : Array Value)[i]? := fun i => cell_of_row w2 _ i _ _ _ hblk2
    have HBW := Lib.hid hbw
    clear hbx hblk hzb hb2 hblk2 hbw
    obtain ⟨g, hg⟩ : ∃ g, g = w.heap.size := ⟨_, rfl⟩
    rw [← hg] at hz2 q ⊢
    have HG := Lib.hid hg
    clear hg
    go_wp2
    go_ret
    refine ⟨ret_b ?_, HBW.out.trans ((below_box w2 _).mono (by rw [← HG.out]; omega))⟩
    rw [HB.out, decP_congr HN.out, decP_no (fun x => by have hh := Hh1.out; have a1 := x.1; have a2 := x.2.1; have a3 := x.2.2.1; omega)]

set_option maxHeartbeats 800000 in
theorem right2_any (w : World) (f : Fv) (h : FrAt w f) (hk : f.kd = 2) :
    Calls Tryd.prog 12 #[f.v] w (Says w (.bool (decP (RightP f.m)))) := by
  have hN : RightP f.m ↔ 0 ≤ f.ag ∧ f.ag < 16 ∧ 1 ≤ f.ep ∧ AnswerP f.m := by
    have e : f.m.kd = 2 := hk
    unfold RightP PartsP
    rw [e]
    constructor
    · rintro ⟨h1, h2, h3, h4⟩
      refine ⟨h1, h2, h3, ?_⟩
      rcases h4 with h4 | h4 | h4
      all_goals first | exact h4.2 | (exfalso; omega)
    · rintro ⟨h1, h2, h3, h4⟩
      exact ⟨h1, h2, h3, by first | exact .inl ⟨rfl, h4⟩ | exact .inr (.inl ⟨by omega, h4⟩) | exact .inr (.inr ⟨rfl, h4⟩)⟩
  obtain ⟨b, HB⟩ : ∃ b, Hid (b = decP (RightP f.m)) := ⟨_, rfl⟩
  rw [← HB.out]
  have HN := Lib.hid hN
  have HV : Hid (f.v = .agg (Fcs2 f)) := by show _ = _; unfold Fv.v Fcs2; rw [hk]; rfl
  rw [HV.out]
  have HF := Lib.hid h
  clear hN h hk
  unfold Fcs2
  by_cases h1 : (0 : Int) ≤ f.ag
  · have h1I : (0 : Int) ≤ f.ag := h1
    have Hh1 := Lib.hid h1; clear h1
    by_cases h2 : f.ag < 16
    · have h2I : f.ag < 16 := h2
      have Hh2 := Lib.hid h2; clear h2
      by_cases h3 : 1 ≤ f.ep
      · have h3I : (1 : Int) ≤ (f.ep : Int) := by omega
        have Hh3 := Lib.hid h3; clear h3
        go_enter Tryd.func12, Tryd.ntmps12
        go_wp2_with fail
        have hbx := below_box w (.cells #[.int .u8 2, .int .i64 f.ag, .int .u64 (f.ep : Int), .int .u64 (f.ic : Int), .int .u64 (f.ba : Int), .int .u64 (f.cu : Int), .int .u64 (f.li : Int), .slice f.Ar f.nr f.cr, .slice f.Ai f.ni f.ci] 26)
        have hblk := heap_alloc_new w (.cells #[.int .u8 2, .int .i64 f.ag, .int .u64 (f.ep : Int), .int .u64 (f.ic : Int), .int .u64 (f.ba : Int), .int .u64 (f.cu : Int), .int .u64 (f.li : Int), .slice f.Ar f.nr f.cr, .slice f.Ai f.ni f.ci] 26)
        have hzb : w.heap.size < (w.alloc (.cells #[.int .u8 2, .int .i64 f.ag, .int .u64 (f.ep : Int), .int .u64 (f.ic : Int), .int .u64 (f.ba : Int), .int .u64 (f.cu : Int), .int .u64 (f.li : Int), .slice f.Ar f.nr f.cr, .slice f.Ai f.ni f.ci] 26)).heap.size := by simp
        generalize w.alloc (.cells #[.int .u8 2, .int .i64 f.ag, .int .u64 (f.ep : Int), .int .u64 (f.ic : Int), .int .u64 (f.ba : Int), .int .u64 (f.cu : Int), .int .u64 (f.li : Int), .slice f.Ar f.nr f.cr, .slice f.Ai f.ni f.ci] 26) = wb at *
        refine (parts2 wb).mono ?_
        rintro e w2 ⟨rfl, hb2⟩
        have hbw : Below w.heap.size w w2 := hbx.trans (hb2.mono (Nat.le_of_lt hzb))
        have hz2 : w.heap.size < w2.heap.size := Nat.lt_of_lt_of_le hzb hb2.size
        have hblk2 := (hb2.block w.heap.size hzb).trans hblk
        have q : ∀ i, w2.cell? ⟨w.heap.size, i, none⟩ = (#[Value.int .u8 2, .int .i64 f.ag, .int .u64 (f.ep : Int), .int .u64 (f.ic : Int), .int .u64 (f.ba : Int), .int .u64 (f.cu : Int), .int .u64 (f.li : Int), .slice f.Ar f.nr f.cr, .slice f.Ai f.ni f.ci] : Array Value)[i]? := fun i => cell_of_row w2 _ i _ _ _ hblk2
        have HBW := Lib.hid hbw
        clear hbx hblk hzb hb2 hblk2 hbw
        obtain ⟨g, hg⟩ : ∃ g, g = w.heap.size := ⟨_, rfl⟩
        rw [← hg] at hz2 q ⊢
        have HG := Lib.hid hg
        clear hg
        go_wp2_with fail
        have hb3 : Below w2.heap.size w2 (w2.alloc (.cells #[.string ⟨#[119, 101, 108, 99, 111, 109, 101]⟩, .func (Fn.func 53) #[] #[], .func (Fn.func 54) #[] #[], .func (Fn.func 55) #[] #[]] 66)) := below_box w2 _
        generalize w2.alloc (.cells #[.string ⟨#[119, 101, 108, 99, 111, 109, 101]⟩, .func (Fn.func 53) #[] #[], .func (Fn.func 54) #[] #[], .func (Fn.func 55) #[] #[]] 66) = w3 at *
        have hb4 : Below w.heap.size w w3 := HBW.out.trans (hb3.mono (by rw [← HG.out]; omega))
        have hc := rightAnswer_any w3 f (HF.out.on hb4)
        rw [HV.out] at hc
        unfold Fcs2 at hc
        refine hc.mono ?_
        rintro e w4 ⟨rfl, hb5⟩
        clear hc
        go_wp2
        go_ret
        refine ⟨ret_b ?_, hb4.trans (hb5.mono hb4.size)⟩
        rw [HB.out, decP_congr HN.out]
        exact decP_congr ⟨fun x => ⟨Hh1.out, Hh2.out, Hh3.out, x⟩, fun x => x.2.2.2⟩
      · have h3I : ¬ (1 : Int) ≤ (f.ep : Int) := by omega
        have Hh3 := Lib.hid h3; clear h3
        skip
        go_enter Tryd.func12, Tryd.ntmps12
        go_wp2_with fail
        have hbx := below_box w (.cells #[.int .u8 2, .int .i64 f.ag, .int .u64 (f.ep : Int), .int .u64 (f.ic : Int), .int .u64 (f.ba : Int), .int .u64 (f.cu : Int), .int .u64 (f.li : Int), .slice f.Ar f.nr f.cr, .slice f.Ai f.ni f.ci] 26)
        have hblk := heap_alloc_new w (.cells #[.int .u8 2, .int .i64 f.ag, .int .u64 (f.ep : Int), .int .u64 (f.ic : Int), .int .u64 (f.ba : Int), .int .u64 (f.cu : Int), .int .u64 (f.li : Int), .slice f.Ar f.nr f.cr, .slice f.Ai f.ni f.ci] 26)
        have hzb : w.heap.size < (w.alloc (.cells #[.int .u8 2, .int .i64 f.ag, .int .u64 (f.ep : Int), .int .u64 (f.ic : Int), .int .u64 (f.ba : Int), .int .u64 (f.cu : Int), .int .u64 (f.li : Int), .slice f.Ar f.nr f.cr, .slice f.Ai f.ni f.ci] 26)).heap.size := by simp
        generalize w.alloc (.cells #[.int .u8 2, .int .i64 f.ag, .int .u64 (f.ep : Int), .int .u64 (f.ic : Int), .int .u64 (f.ba : Int), .int .u64 (f.cu : Int), .int .u64 (f.li : Int), .slice f.Ar f.nr f.cr, .slice f.Ai f.ni f.ci] 26) = wb at *
        refine (parts2 wb).mono ?_
        rintro e w2 ⟨rfl, hb2⟩
        have hbw : Below w.heap.size w w2 := hbx.trans (hb2.mono (Nat.le_of_lt hzb))
        have hz2 : w.heap.size < w2.heap.size := Nat.lt_of_lt_of_le hzb hb2.size
        have hblk2 := (hb2.block w.heap.size hzb).trans hblk
        have q : ∀ i, w2.cell? ⟨w.heap.size, i, none⟩ = (#[Value.int .u8 2, .int .i64 f.ag, .int .u64 (f.ep : Int), .int .u64 (f.ic : Int), .int .u64 (f.ba : Int), .int .u64 (f.cu : Int), .int .u64 (f.li : Int), .slice f.Ar f.nr f.cr, .slice f.Ai f.ni f.ci] : Array Value)[i]? := fun i => cell_of_row w2 _ i _ _ _ hblk2
        have HBW := Lib.hid hbw
        clear hbx hblk hzb hb2 hblk2 hbw
        obtain ⟨g, hg⟩ : ∃ g, g = w.heap.size := ⟨_, rfl⟩
        rw [← hg] at hz2 q ⊢
        have HG := Lib.hid hg
        clear hg
        go_wp2
        go_ret
        refine ⟨ret_b ?_, HBW.out.trans ((below_box w2 _).mono (by rw [← HG.out]; omega))⟩
        rw [HB.out, decP_congr HN.out, decP_no (fun x => by have hh := Hh3.out; have a1 := x.1; have a2 := x.2.1; have a3 := x.2.2.1; omega)]
    · have h2I : ¬ f.ag < 16 := h2
      have Hh2 := Lib.hid h2; clear h2
      skip
      go_enter Tryd.func12, Tryd.ntmps12
      go_wp2_with fail
      have hbx := below_box w (.cells #[.int .u8 2, .int .i64 f.ag, .int .u64 (f.ep : Int), .int .u64 (f.ic : Int), .int .u64 (f.ba : Int), .int .u64 (f.cu : Int), .int .u64 (f.li : Int), .slice f.Ar f.nr f.cr, .slice f.Ai f.ni f.ci] 26)
      have hblk := heap_alloc_new w (.cells #[.int .u8 2, .int .i64 f.ag, .int .u64 (f.ep : Int), .int .u64 (f.ic : Int), .int .u64 (f.ba : Int), .int .u64 (f.cu : Int), .int .u64 (f.li : Int), .slice f.Ar f.nr f.cr, .slice f.Ai f.ni f.ci] 26)
      have hzb : w.heap.size < (w.alloc (.cells #[.int .u8 2, .int .i64 f.ag, .int .u64 (f.ep : Int), .int .u64 (f.ic : Int), .int .u64 (f.ba : Int), .int .u64 (f.cu : Int), .int .u64 (f.li : Int), .slice f.Ar f.nr f.cr, .slice f.Ai f.ni f.ci] 26)).heap.size := by simp
      generalize w.alloc (.cells #[.int .u8 2, .int .i64 f.ag, .int .u64 (f.ep : Int), .int .u64 (f.ic : Int), .int .u64 (f.ba : Int), .int .u64 (f.cu : Int), .int .u64 (f.li : Int), .slice f.Ar f.nr f.cr, .slice f.Ai f.ni f.ci] 26) = wb at *
      refine (parts2 wb).mono ?_
      rintro e w2 ⟨rfl, hb2⟩
      have hbw : Below w.heap.size w w2 := hbx.trans (hb2.mono (Nat.le_of_lt hzb))
      have hz2 : w.heap.size < w2.heap.size := Nat.lt_of_lt_of_le hzb hb2.size
      have hblk2 := (hb2.block w.heap.size hzb).trans hblk
      have q : ∀ i, w2.cell? ⟨w.heap.size, i, none⟩ = (#[Value.int .u8 2, .int .i64 f.ag, .int .u64 (f.ep : Int), .int .u64 (f.ic : Int), .int .u64 (f.ba : Int), .int .u64 (f.cu : Int), .int .u64 (f.li : Int), .slice f.Ar f.nr f.cr, .slice f.Ai f.ni f.ci] : Array Value)[i]? := fun i => cell_of_row w2 _ i _ _ _ hblk2
      have HBW := Lib.hid hbw
      clear hbx hblk hzb hb2 hblk2 hbw
      obtain ⟨g, hg⟩ : ∃ g, g = w.heap.size := ⟨_, rfl⟩
      rw [← hg] at hz2 q ⊢
      have HG := Lib.hid hg
      clear hg
      go_wp2
      go_ret
      refine ⟨ret_b ?_, HBW.out.trans ((below_box w2 _).mono (by rw [← HG.out]; omega))⟩
      rw [HB.out, decP_congr HN.out, decP_no (fun x => by have hh := Hh2.out; have a1 := x.1; have a2 := x.2.1; have a3 := x.2.2.1; omega)]
  · have h1I : ¬ (0 : Int) ≤ f.ag := h1
    have Hh1 := Lib.hid h1; clear h1
    skip
    go_enter Tryd.func12, Tryd.ntmps12
    go_wp2_with fail
    have hbx := below_box w (.cells #[.int .u8 2, .int .i64 f.ag, .int .u64 (f.ep : Int), .int .u64 (f.ic : Int), .int .u64 (f.ba : Int), .int .u64 (f.cu : Int), .int .u64 (f.li : Int), .slice f.Ar f.nr f.cr, .slice f.Ai f.ni f.ci] 26)
    have hblk := heap_alloc_new w (.cells #[.int .u8 2, .int .i64 f.ag, .int .u64 (f.ep : Int), .int .u64 (f.ic : Int), .int .u64 (f.ba : Int), .int .u64 (f.cu : Int), .int .u64 (f.li : Int), .slice f.Ar f.nr f.cr, .slice f.Ai f.ni f.ci] 26)
    have hzb : w.heap.size < (w.alloc (.cells #[.int .u8 2, .int .i64 f.ag, .int .u64 (f.ep : Int), .int .u64 (f.ic : Int), .int .u64 (f.ba : Int), .int .u64 (f.cu : Int), .int .u64 (f.li : Int), .slice f.Ar f.nr f.cr, .slice f.Ai f.ni f.ci] 26)).heap.size := by simp
    generalize w.alloc (.cells #[.int .u8 2, .int .i64 f.ag, .int .u64 (f.ep : Int), .int .u64 (f.ic : Int), .int .u64 (f.ba : Int), .int .u64 (f.cu : Int), .int .u64 (f.li : Int), .slice f.Ar f.nr f.cr, .slice f.Ai f.ni f.ci] 26) = wb at *
    refine (parts2 wb).mono ?_
    rintro e w2 ⟨rfl, hb2⟩
    have hbw : Below w.heap.size w w2 := hbx.trans (hb2.mono (Nat.le_of_lt hzb))
    have hz2 : w.heap.size < w2.heap.size := Nat.lt_of_lt_of_le hzb hb2.size
    have hblk2 := (hb2.block w.heap.size hzb).trans hblk
    have q : ∀ i, w2.cell? ⟨w.heap.size, i, none⟩ = (#[Value.int .u8 2, .int .i64 f.ag, .int .u64 (f.ep : Int), .int .u64 (f.ic : Int), .int .u64 (f.ba : Int), .int .u64 (f.cu : Int), .int .u64 (f.li : Int), .slice f.Ar f.nr f.cr, .slice f.Ai f.ni f.ci] : Array Value)[i]? := fun i => cell_of_row w2 _ i _ _ _ hblk2
    have HBW := Lib.hid hbw
    clear hbx hblk hzb hb2 hblk2 hbw
    obtain ⟨g, hg⟩ : ∃ g, g = w.heap.size := ⟨_, rfl⟩
    rw [← hg] at hz2 q ⊢
    have HG := Lib.hid hg
    clear hg
    go_wp2
    go_ret
    refine ⟨ret_b ?_, HBW.out.trans ((below_box w2 _).mono (by rw [← HG.out]; omega))⟩
    rw [HB.out, decP_congr HN.out, decP_no (fun x => by have hh := Hh1.out; have a1 := x.1; have a2 := x.2.1; have a3 := x.2.2.1; omega)]

set_option maxHeartbeats 800000 in
theorem right3_any (w : World) (f : Fv) (h : FrAt w f) (hk : f.kd = 3) :
    Calls Tryd.prog 12 #[f.v] w (Says w (.bool (decP (RightP f.m)))) := by
  have hN : RightP f.m ↔ 0 ≤ f.ag ∧ f.ag < 16 ∧ 1 ≤ f.ep ∧ BatchP f.m := by
    have e : f.m.kd = 3 := hk
    unfold RightP PartsP
    rw [e]
    constructor
    · rintro ⟨h1, h2, h3, h4⟩
      refine ⟨h1, h2, h3, ?_⟩
      rcases h4 with h4 | h4 | h4
      all_goals first | exact h4.2 | (exfalso; omega)
    · rintro ⟨h1, h2, h3, h4⟩
      exact ⟨h1, h2, h3, by first | exact .inl ⟨rfl, h4⟩ | exact .inr (.inl ⟨by omega, h4⟩) | exact .inr (.inr ⟨rfl, h4⟩)⟩
  obtain ⟨b, HB⟩ : ∃ b, Hid (b = decP (RightP f.m)) := ⟨_, rfl⟩
  rw [← HB.out]
  have HN := Lib.hid hN
  have HV : Hid (f.v = .agg (Fcs3 f)) := by show _ = _; unfold Fv.v Fcs3; rw [hk]; rfl
  rw [HV.out]
  have HF := Lib.hid h
  clear hN h hk
  unfold Fcs3
  by_cases h1 : (0 : Int) ≤ f.ag
  · have h1I : (0 : Int) ≤ f.ag := h1
    have Hh1 := Lib.hid h1; clear h1
    by_cases h2 : f.ag < 16
    · have h2I : f.ag < 16 := h2
      have Hh2 := Lib.hid h2; clear h2
      by_cases h3 : 1 ≤ f.ep
      · have h3I : (1 : Int) ≤ (f.ep : Int) := by omega
        have Hh3 := Lib.hid h3; clear h3
        go_enter Tryd.func12, Tryd.ntmps12
        go_wp2_with fail
        have hbx := below_box w (.cells #[.int .u8 3, .int .i64 f.ag, .int .u64 (f.ep : Int), .int .u64 (f.ic : Int), .int .u64 (f.ba : Int), .int .u64 (f.cu : Int), .int .u64 (f.li : Int), .slice f.Ar f.nr f.cr, .slice f.Ai f.ni f.ci] 26)
        have hblk := heap_alloc_new w (.cells #[.int .u8 3, .int .i64 f.ag, .int .u64 (f.ep : Int), .int .u64 (f.ic : Int), .int .u64 (f.ba : Int), .int .u64 (f.cu : Int), .int .u64 (f.li : Int), .slice f.Ar f.nr f.cr, .slice f.Ai f.ni f.ci] 26)
        have hzb : w.heap.size < (w.alloc (.cells #[.int .u8 3, .int .i64 f.ag, .int .u64 (f.ep : Int), .int .u64 (f.ic : Int), .int .u64 (f.ba : Int), .int .u64 (f.cu : Int), .int .u64 (f.li : Int), .slice f.Ar f.nr f.cr, .slice f.Ai f.ni f.ci] 26)).heap.size := by simp
        generalize w.alloc (.cells #[.int .u8 3, .int .i64 f.ag, .int .u64 (f.ep : Int), .int .u64 (f.ic : Int), .int .u64 (f.ba : Int), .int .u64 (f.cu : Int), .int .u64 (f.li : Int), .slice f.Ar f.nr f.cr, .slice f.Ai f.ni f.ci] 26) = wb at *
        refine (parts3 wb).mono ?_
        rintro e w2 ⟨rfl, hb2⟩
        have hbw : Below w.heap.size w w2 := hbx.trans (hb2.mono (Nat.le_of_lt hzb))
        have hz2 : w.heap.size < w2.heap.size := Nat.lt_of_lt_of_le hzb hb2.size
        have hblk2 := (hb2.block w.heap.size hzb).trans hblk
        have q : ∀ i, w2.cell? ⟨w.heap.size, i, none⟩ = (#[Value.int .u8 3, .int .i64 f.ag, .int .u64 (f.ep : Int), .int .u64 (f.ic : Int), .int .u64 (f.ba : Int), .int .u64 (f.cu : Int), .int .u64 (f.li : Int), .slice f.Ar f.nr f.cr, .slice f.Ai f.ni f.ci] : Array Value)[i]? := fun i => cell_of_row w2 _ i _ _ _ hblk2
        have HBW := Lib.hid hbw
        clear hbx hblk hzb hb2 hblk2 hbw
        obtain ⟨g, hg⟩ : ∃ g, g = w.heap.size := ⟨_, rfl⟩
        rw [← hg] at hz2 q ⊢
        have HG := Lib.hid hg
        clear hg
        go_wp2_with fail
        have hb3 : Below w2.heap.size w2 (w2.alloc (.cells #[.string ⟨#[98, 97, 116, 99, 104]⟩, .func (Fn.func 56) #[] #[], .func (Fn.func 57) #[] #[], .func (Fn.func 58) #[] #[]] 66)) := below_box w2 _
        generalize w2.alloc (.cells #[.string ⟨#[98, 97, 116, 99, 104]⟩, .func (Fn.func 56) #[] #[], .func (Fn.func 57) #[] #[], .func (Fn.func 58) #[] #[]] 66) = w3 at *
        have hb4 : Below w.heap.size w w3 := HBW.out.trans (hb3.mono (by rw [← HG.out]; omega))
        have hc := rightBatch_any w3 f (HF.out.on hb4)
        rw [HV.out] at hc
        unfold Fcs3 at hc
        refine hc.mono ?_
        rintro e w4 ⟨rfl, hb5⟩
        clear hc
        go_wp2
        go_ret
        refine ⟨ret_b ?_, hb4.trans (hb5.mono hb4.size)⟩
        rw [HB.out, decP_congr HN.out]
        exact decP_congr ⟨fun x => ⟨Hh1.out, Hh2.out, Hh3.out, x⟩, fun x => x.2.2.2⟩
      · have h3I : ¬ (1 : Int) ≤ (f.ep : Int) := by omega
        have Hh3 := Lib.hid h3; clear h3
        skip
        go_enter Tryd.func12, Tryd.ntmps12
        go_wp2_with fail
        have hbx := below_box w (.cells #[.int .u8 3, .int .i64 f.ag, .int .u64 (f.ep : Int), .int .u64 (f.ic : Int), .int .u64 (f.ba : Int), .int .u64 (f.cu : Int), .int .u64 (f.li : Int), .slice f.Ar f.nr f.cr, .slice f.Ai f.ni f.ci] 26)
        have hblk := heap_alloc_new w (.cells #[.int .u8 3, .int .i64 f.ag, .int .u64 (f.ep : Int), .int .u64 (f.ic : Int), .int .u64 (f.ba : Int), .int .u64 (f.cu : Int), .int .u64 (f.li : Int), .slice f.Ar f.nr f.cr, .slice f.Ai f.ni f.ci] 26)
        have hzb : w.heap.size < (w.alloc (.cells #[.int .u8 3, .int .i64 f.ag, .int .u64 (f.ep : Int), .int .u64 (f.ic : Int), .int .u64 (f.ba : Int), .int .u64 (f.cu : Int), .int .u64 (f.li : Int), .slice f.Ar f.nr f.cr, .slice f.Ai f.ni f.ci] 26)).heap.size := by simp
        generalize w.alloc (.cells #[.int .u8 3, .int .i64 f.ag, .int .u64 (f.ep : Int), .int .u64 (f.ic : Int), .int .u64 (f.ba : Int), .int .u64 (f.cu : Int), .int .u64 (f.li : Int), .slice f.Ar f.nr f.cr, .slice f.Ai f.ni f.ci] 26) = wb at *
        refine (parts3 wb).mono ?_
        rintro e w2 ⟨rfl, hb2⟩
        have hbw : Below w.heap.size w w2 := hbx.trans (hb2.mono (Nat.le_of_lt hzb))
        have hz2 : w.heap.size < w2.heap.size := Nat.lt_of_lt_of_le hzb hb2.size
        have hblk2 := (hb2.block w.heap.size hzb).trans hblk
        have q : ∀ i, w2.cell? ⟨w.heap.size, i, none⟩ = (#[Value.int .u8 3, .int .i64 f.ag, .int .u64 (f.ep : Int), .int .u64 (f.ic : Int), .int .u64 (f.ba : Int), .int .u64 (f.cu : Int), .int .u64 (f.li : Int), .slice f.Ar f.nr f.cr, .slice f.Ai f.ni f.ci] : Array Value)[i]? := fun i => cell_of_row w2 _ i _ _ _ hblk2
        have HBW := Lib.hid hbw
        clear hbx hblk hzb hb2 hblk2 hbw
        obtain ⟨g, hg⟩ : ∃ g, g = w.heap.size := ⟨_, rfl⟩
        rw [← hg] at hz2 q ⊢
        have HG := Lib.hid hg
        clear hg
        go_wp2
        go_ret
        refine ⟨ret_b ?_, HBW.out.trans ((below_box w2 _).mono (by rw [← HG.out]; omega))⟩
        rw [HB.out, decP_congr HN.out, decP_no (fun x => by have hh := Hh3.out; have a1 := x.1; have a2 := x.2.1; have a3 := x.2.2.1; omega)]
    · have h2I : ¬ f.ag < 16 := h2
      have Hh2 := Lib.hid h2; clear h2
      skip
      go_enter Tryd.func12, Tryd.ntmps12
      go_wp2_with fail
      have hbx := below_box w (.cells #[.int .u8 3, .int .i64 f.ag, .int .u64 (f.ep : Int), .int .u64 (f.ic : Int), .int .u64 (f.ba : Int), .int .u64 (f.cu : Int), .int .u64 (f.li : Int), .slice f.Ar f.nr f.cr, .slice f.Ai f.ni f.ci] 26)
      have hblk := heap_alloc_new w (.cells #[.int .u8 3, .int .i64 f.ag, .int .u64 (f.ep : Int), .int .u64 (f.ic : Int), .int .u64 (f.ba : Int), .int .u64 (f.cu : Int), .int .u64 (f.li : Int), .slice f.Ar f.nr f.cr, .slice f.Ai f.ni f.ci] 26)
      have hzb : w.heap.size < (w.alloc (.cells #[.int .u8 3, .int .i64 f.ag, .int .u64 (f.ep : Int), .int .u64 (f.ic : Int), .int .u64 (f.ba : Int), .int .u64 (f.cu : Int), .int .u64 (f.li : Int), .slice f.Ar f.nr f.cr, .slice f.Ai f.ni f.ci] 26)).heap.size := by simp
      generalize w.alloc (.cells #[.int .u8 3, .int .i64 f.ag, .int .u64 (f.ep : Int), .int .u64 (f.ic : Int), .int .u64 (f.ba : Int), .int .u64 (f.cu : Int), .int .u64 (f.li : Int), .slice f.Ar f.nr f.cr, .slice f.Ai f.ni f.ci] 26) = wb at *
      refine (parts3 wb).mono ?_
      rintro e w2 ⟨rfl, hb2⟩
      have hbw : Below w.heap.size w w2 := hbx.trans (hb2.mono (Nat.le_of_lt hzb))
      have hz2 : w.heap.size < w2.heap.size := Nat.lt_of_lt_of_le hzb hb2.size
      have hblk2 := (hb2.block w.heap.size hzb).trans hblk
      have q : ∀ i, w2.cell? ⟨w.heap.size, i, none⟩ = (#[Value.int .u8 3, .int .i64 f.ag, .int .u64 (f.ep : Int), .int .u64 (f.ic : Int), .int .u64 (f.ba : Int), .int .u64 (f.cu : Int), .int .u64 (f.li : Int), .slice f.Ar f.nr f.cr, .slice f.Ai f.ni f.ci] : Array Value)[i]? := fun i => cell_of_row w2 _ i _ _ _ hblk2
      have HBW := Lib.hid hbw
      clear hbx hblk hzb hb2 hblk2 hbw
      obtain ⟨g, hg⟩ : ∃ g, g = w.heap.size := ⟨_, rfl⟩
      rw [← hg] at hz2 q ⊢
      have HG := Lib.hid hg
      clear hg
      go_wp2
      go_ret
      refine ⟨ret_b ?_, HBW.out.trans ((below_box w2 _).mono (by rw [← HG.out]; omega))⟩
      rw [HB.out, decP_congr HN.out, decP_no (fun x => by have hh := Hh2.out; have a1 := x.1; have a2 := x.2.1; have a3 := x.2.2.1; omega)]
  · have h1I : ¬ (0 : Int) ≤ f.ag := h1
    have Hh1 := Lib.hid h1; clear h1
    skip
    go_enter Tryd.func12, Tryd.ntmps12
    go_wp2_with fail
    have hbx := below_box w (.cells #[.int .u8 3, .int .i64 f.ag, .int .u64 (f.ep : Int), .int .u64 (f.ic : Int), .int .u64 (f.ba : Int), .int .u64 (f.cu : Int), .int .u64 (f.li : Int), .slice f.Ar f.nr f.cr, .slice f.Ai f.ni f.ci] 26)
    have hblk := heap_alloc_new w (.cells #[.int .u8 3, .int .i64 f.ag, .int .u64 (f.ep : Int), .int .u64 (f.ic : Int), .int .u64 (f.ba : Int), .int .u64 (f.cu : Int), .int .u64 (f.li : Int), .slice f.Ar f.nr f.cr, .slice f.Ai f.ni f.ci] 26)
    have hzb : w.heap.size < (w.alloc (.cells #[.int .u8 3, .int .i64 f.ag, .int .u64 (f.ep : Int), .int .u64 (f.ic : Int), .int .u64 (f.ba : Int), .int .u64 (f.cu : Int), .int .u64 (f.li : Int), .slice f.Ar f.nr f.cr, .slice f.Ai f.ni f.ci] 26)).heap.size := by simp
    generalize w.alloc (.cells #[.int .u8 3, .int .i64 f.ag, .int .u64 (f.ep : Int), .int .u64 (f.ic : Int), .int .u64 (f.ba : Int), .int .u64 (f.cu : Int), .int .u64 (f.li : Int), .slice f.Ar f.nr f.cr, .slice f.Ai f.ni f.ci] 26) = wb at *
    refine (parts3 wb).mono ?_
    rintro e w2 ⟨rfl, hb2⟩
    have hbw : Below w.heap.size w w2 := hbx.trans (hb2.mono (Nat.le_of_lt hzb))
    have hz2 : w.heap.size < w2.heap.size := Nat.lt_of_lt_of_le hzb hb2.size
    have hblk2 := (hb2.block w.heap.size hzb).trans hblk
    have q : ∀ i, w2.cell? ⟨w.heap.size, i, none⟩ = (#[Value.int .u8 3, .int .i64 f.ag, .int .u64 (f.ep : Int), .int .u64 (f.ic : Int), .int .u64 (f.ba : Int), .int .u64 (f.cu : Int), .int .u64 (f.li : Int), .slice f.Ar f.nr f.cr, .slice f.Ai f.ni f.ci] : Array Value)[i]? := fun i => cell_of_row w2 _ i _ _ _ hblk2
    have HBW := Lib.hid hbw
    clear hbx hblk hzb hb2 hblk2 hbw
    obtain ⟨g, hg⟩ : ∃ g, g = w.heap.size := ⟨_, rfl⟩
    rw [← hg] at hz2 q ⊢
    have HG := Lib.hid hg
    clear hg
    go_wp2
    go_ret
    refine ⟨ret_b ?_, HBW.out.trans ((below_box w2 _).mono (by rw [← HG.out]; omega))⟩
    rw [HB.out, decP_congr HN.out, decP_no (fun x => by have hh := Hh1.out; have a1 := x.1; have a2 := x.2.1; have a3 := x.2.2.1; omega)]

set_option maxHeartbeats 800000 in
theorem right4_any (w : World) (f : Fv) (h : FrAt w f) (hk : f.kd = 4) :
    Calls Tryd.prog 12 #[f.v] w (Says w (.bool (decP (RightP f.m)))) := by
  have hN : RightP f.m ↔ 0 ≤ f.ag ∧ f.ag < 16 ∧ 1 ≤ f.ep ∧ AnswerP f.m := by
    have e : f.m.kd = 4 := hk
    unfold RightP PartsP
    rw [e]
    constructor
    · rintro ⟨h1, h2, h3, h4⟩
      refine ⟨h1, h2, h3, ?_⟩
      rcases h4 with h4 | h4 | h4
      all_goals first | exact h4.2 | (exfalso; omega)
    · rintro ⟨h1, h2, h3, h4⟩
      exact ⟨h1, h2, h3, by first | exact .inl ⟨rfl, h4⟩ | exact .inr (.inl ⟨by omega, h4⟩) | exact .inr (.inr ⟨rfl, h4⟩)⟩
  obtain ⟨b, HB⟩ : ∃ b, Hid (b = decP (RightP f.m)) := ⟨_, rfl⟩
  rw [← HB.out]
  have HN := Lib.hid hN
  have HV : Hid (f.v = .agg (Fcs4 f)) := by show _ = _; unfold Fv.v Fcs4; rw [hk]; rfl
  rw [HV.out]
  have HF := Lib.hid h
  clear hN h hk
  unfold Fcs4
  by_cases h1 : (0 : Int) ≤ f.ag
  · have h1I : (0 : Int) ≤ f.ag := h1
    have Hh1 := Lib.hid h1; clear h1
    by_cases h2 : f.ag < 16
    · have h2I : f.ag < 16 := h2
      have Hh2 := Lib.hid h2; clear h2
      by_cases h3 : 1 ≤ f.ep
      · have h3I : (1 : Int) ≤ (f.ep : Int) := by omega
        have Hh3 := Lib.hid h3; clear h3
        go_enter Tryd.func12, Tryd.ntmps12
        go_wp2_with fail
        have hbx := below_box w (.cells #[.int .u8 4, .int .i64 f.ag, .int .u64 (f.ep : Int), .int .u64 (f.ic : Int), .int .u64 (f.ba : Int), .int .u64 (f.cu : Int), .int .u64 (f.li : Int), .slice f.Ar f.nr f.cr, .slice f.Ai f.ni f.ci] 26)
        have hblk := heap_alloc_new w (.cells #[.int .u8 4, .int .i64 f.ag, .int .u64 (f.ep : Int), .int .u64 (f.ic : Int), .int .u64 (f.ba : Int), .int .u64 (f.cu : Int), .int .u64 (f.li : Int), .slice f.Ar f.nr f.cr, .slice f.Ai f.ni f.ci] 26)
        have hzb : w.heap.size < (w.alloc (.cells #[.int .u8 4, .int .i64 f.ag, .int .u64 (f.ep : Int), .int .u64 (f.ic : Int), .int .u64 (f.ba : Int), .int .u64 (f.cu : Int), .int .u64 (f.li : Int), .slice f.Ar f.nr f.cr, .slice f.Ai f.ni f.ci] 26)).heap.size := by simp
        generalize w.alloc (.cells #[.int .u8 4, .int .i64 f.ag, .int .u64 (f.ep : Int), .int .u64 (f.ic : Int), .int .u64 (f.ba : Int), .int .u64 (f.cu : Int), .int .u64 (f.li : Int), .slice f.Ar f.nr f.cr, .slice f.Ai f.ni f.ci] 26) = wb at *
        refine (parts4 wb).mono ?_
        rintro e w2 ⟨rfl, hb2⟩
        have hbw : Below w.heap.size w w2 := hbx.trans (hb2.mono (Nat.le_of_lt hzb))
        have hz2 : w.heap.size < w2.heap.size := Nat.lt_of_lt_of_le hzb hb2.size
        have hblk2 := (hb2.block w.heap.size hzb).trans hblk
        have q : ∀ i, w2.cell? ⟨w.heap.size, i, none⟩ = (#[Value.int .u8 4, .int .i64 f.ag, .int .u64 (f.ep : Int), .int .u64 (f.ic : Int), .int .u64 (f.ba : Int), .int .u64 (f.cu : Int), .int .u64 (f.li : Int), .slice f.Ar f.nr f.cr, .slice f.Ai f.ni f.ci] : Array Value)[i]? := fun i => cell_of_row w2 _ i _ _ _ hblk2
        have HBW := Lib.hid hbw
        clear hbx hblk hzb hb2 hblk2 hbw
        obtain ⟨g, hg⟩ : ∃ g, g = w.heap.size := ⟨_, rfl⟩
        rw [← hg] at hz2 q ⊢
        have HG := Lib.hid hg
        clear hg
        go_wp2_with fail
        have hb3 : Below w2.heap.size w2 (w2.alloc (.cells #[.string ⟨#[97, 99, 107]⟩, .func (Fn.func 53) #[] #[], .func (Fn.func 54) #[] #[], .func (Fn.func 55) #[] #[]] 66)) := below_box w2 _
        generalize w2.alloc (.cells #[.string ⟨#[97, 99, 107]⟩, .func (Fn.func 53) #[] #[], .func (Fn.func 54) #[] #[], .func (Fn.func 55) #[] #[]] 66) = w3 at *
        have hb4 : Below w.heap.size w w3 := HBW.out.trans (hb3.mono (by rw [← HG.out]; omega))
        have hc := rightAnswer_any w3 f (HF.out.on hb4)
        rw [HV.out] at hc
        unfold Fcs4 at hc
        refine hc.mono ?_
        rintro e w4 ⟨rfl, hb5⟩
        clear hc
        go_wp2
        go_ret
        refine ⟨ret_b ?_, hb4.trans (hb5.mono hb4.size)⟩
        rw [HB.out, decP_congr HN.out]
        exact decP_congr ⟨fun x => ⟨Hh1.out, Hh2.out, Hh3.out, x⟩, fun x => x.2.2.2⟩
      · have h3I : ¬ (1 : Int) ≤ (f.ep : Int) := by omega
        have Hh3 := Lib.hid h3; clear h3
        skip
        go_enter Tryd.func12, Tryd.ntmps12
        go_wp2_with fail
        have hbx := below_box w (.cells #[.int .u8 4, .int .i64 f.ag, .int .u64 (f.ep : Int), .int .u64 (f.ic : Int), .int .u64 (f.ba : Int), .int .u64 (f.cu : Int), .int .u64 (f.li : Int), .slice f.Ar f.nr f.cr, .slice f.Ai f.ni f.ci] 26)
        have hblk := heap_alloc_new w (.cells #[.int .u8 4, .int .i64 f.ag, .int .u64 (f.ep : Int), .int .u64 (f.ic : Int), .int .u64 (f.ba : Int), .int .u64 (f.cu : Int), .int .u64 (f.li : Int), .slice f.Ar f.nr f.cr, .slice f.Ai f.ni f.ci] 26)
        have hzb : w.heap.size < (w.alloc (.cells #[.int .u8 4, .int .i64 f.ag, .int .u64 (f.ep : Int), .int .u64 (f.ic : Int), .int .u64 (f.ba : Int), .int .u64 (f.cu : Int), .int .u64 (f.li : Int), .slice f.Ar f.nr f.cr, .slice f.Ai f.ni f.ci] 26)).heap.size := by simp
        generalize w.alloc (.cells #[.int .u8 4, .int .i64 f.ag, .int .u64 (f.ep : Int), .int .u64 (f.ic : Int), .int .u64 (f.ba : Int), .int .u64 (f.cu : Int), .int .u64 (f.li : Int), .slice f.Ar f.nr f.cr, .slice f.Ai f.ni f.ci] 26) = wb at *
        refine (parts4 wb).mono ?_
        rintro e w2 ⟨rfl, hb2⟩
        have hbw : Below w.heap.size w w2 := hbx.trans (hb2.mono (Nat.le_of_lt hzb))
        have hz2 : w.heap.size < w2.heap.size := Nat.lt_of_lt_of_le hzb hb2.size
        have hblk2 := (hb2.block w.heap.size hzb).trans hblk
        have q : ∀ i, w2.cell? ⟨w.heap.size, i, none⟩ = (#[Value.int .u8 4, .int .i64 f.ag, .int .u64 (f.ep : Int), .int .u64 (f.ic : Int), .int .u64 (f.ba : Int), .int .u64 (f.cu : Int), .int .u64 (f.li : Int), .slice f.Ar f.nr f.cr, .slice f.Ai f.ni f.ci] : Array Value)[i]? := fun i => cell_of_row w2 _ i _ _ _ hblk2
        have HBW := Lib.hid hbw
        clear hbx hblk hzb hb2 hblk2 hbw
        obtain ⟨g, hg⟩ : ∃ g, g = w.heap.size := ⟨_, rfl⟩
        rw [← hg] at hz2 q ⊢
        have HG := Lib.hid hg
        clear hg
        go_wp2
        go_ret
        refine ⟨ret_b ?_, HBW.out.trans ((below_box w2 _).mono (by rw [← HG.out]; omega))⟩
        rw [HB.out, decP_congr HN.out, decP_no (fun x => by have hh := Hh3.out; have a1 := x.1; have a2 := x.2.1; have a3 := x.2.2.1; omega)]
    · have h2I : ¬ f.ag < 16 := h2
      have Hh2 := Lib.hid h2; clear h2
      skip
      go_enter Tryd.func12, Tryd.ntmps12
      go_wp2_with fail
      have hbx := below_box w (.cells #[.int .u8 4, .int .i64 f.ag, .int .u64 (f.ep : Int), .int .u64 (f.ic : Int), .int .u64 (f.ba : Int), .int .u64 (f.cu : Int), .int .u64 (f.li : Int), .slice f.Ar f.nr f.cr, .slice f.Ai f.ni f.ci] 26)
      have hblk := heap_alloc_new w (.cells #[.int .u8 4, .int .i64 f.ag, .int .u64 (f.ep : Int), .int .u64 (f.ic : Int), .int .u64 (f.ba : Int), .int .u64 (f.cu : Int), .int .u64 (f.li : Int), .slice f.Ar f.nr f.cr, .slice f.Ai f.ni f.ci] 26)
      have hzb : w.heap.size < (w.alloc (.cells #[.int .u8 4, .int .i64 f.ag, .int .u64 (f.ep : Int), .int .u64 (f.ic : Int), .int .u64 (f.ba : Int), .int .u64 (f.cu : Int), .int .u64 (f.li : Int), .slice f.Ar f.nr f.cr, .slice f.Ai f.ni f.ci] 26)).heap.size := by simp
      generalize w.alloc (.cells #[.int .u8 4, .int .i64 f.ag, .int .u64 (f.ep : Int), .int .u64 (f.ic : Int), .int .u64 (f.ba : Int), .int .u64 (f.cu : Int), .int .u64 (f.li : Int), .slice f.Ar f.nr f.cr, .slice f.Ai f.ni f.ci] 26) = wb at *
      refine (parts4 wb).mono ?_
      rintro e w2 ⟨rfl, hb2⟩
      have hbw : Below w.heap.size w w2 := hbx.trans (hb2.mono (Nat.le_of_lt hzb))
      have hz2 : w.heap.size < w2.heap.size := Nat.lt_of_lt_of_le hzb hb2.size
      have hblk2 := (hb2.block w.heap.size hzb).trans hblk
      have q : ∀ i, w2.cell? ⟨w.heap.size, i, none⟩ = (#[Value.int .u8 4, .int .i64 f.ag, .int .u64 (f.ep : Int), .int .u64 (f.ic : Int), .int .u64 (f.ba : Int), .int .u64 (f.cu : Int), .int .u64 (f.li : Int), .slice f.Ar f.nr f.cr, .slice f.Ai f.ni f.ci] : Array Value)[i]? := fun i => cell_of_row w2 _ i _ _ _ hblk2
      have HBW := Lib.hid hbw
      clear hbx hblk hzb hb2 hblk2 hbw
      obtain ⟨g, hg⟩ : ∃ g, g = w.heap.size := ⟨_, rfl⟩
      rw [← hg] at hz2 q ⊢
      have HG := Lib.hid hg
      clear hg
      go_wp2
      go_ret
      refine ⟨ret_b ?_, HBW.out.trans ((below_box w2 _).mono (by rw [← HG.out]; omega))⟩
      rw [HB.out, decP_congr HN.out, decP_no (fun x => by have hh := Hh2.out; have a1 := x.1; have a2 := x.2.1; have a3 := x.2.2.1; omega)]
  · have h1I : ¬ (0 : Int) ≤ f.ag := h1
    have Hh1 := Lib.hid h1; clear h1
    skip
    go_enter Tryd.func12, Tryd.ntmps12
    go_wp2_with fail
    have hbx := below_box w (.cells #[.int .u8 4, .int .i64 f.ag, .int .u64 (f.ep : Int), .int .u64 (f.ic : Int), .int .u64 (f.ba : Int), .int .u64 (f.cu : Int), .int .u64 (f.li : Int), .slice f.Ar f.nr f.cr, .slice f.Ai f.ni f.ci] 26)
    have hblk := heap_alloc_new w (.cells #[.int .u8 4, .int .i64 f.ag, .int .u64 (f.ep : Int), .int .u64 (f.ic : Int), .int .u64 (f.ba : Int), .int .u64 (f.cu : Int), .int .u64 (f.li : Int), .slice f.Ar f.nr f.cr, .slice f.Ai f.ni f.ci] 26)
    have hzb : w.heap.size < (w.alloc (.cells #[.int .u8 4, .int .i64 f.ag, .int .u64 (f.ep : Int), .int .u64 (f.ic : Int), .int .u64 (f.ba : Int), .int .u64 (f.cu : Int), .int .u64 (f.li : Int), .slice f.Ar f.nr f.cr, .slice f.Ai f.ni f.ci] 26)).heap.size := by simp
    generalize w.alloc (.cells #[.int .u8 4, .int .i64 f.ag, .int .u64 (f.ep : Int), .int .u64 (f.ic : Int), .int .u64 (f.ba : Int), .int .u64 (f.cu : Int), .int .u64 (f.li : Int), .slice f.Ar f.nr f.cr, .slice f.Ai f.ni f.ci] 26) = wb at *
    refine (parts4 wb).mono ?_
    rintro e w2 ⟨rfl, hb2⟩
    have hbw : Below w.heap.size w w2 := hbx.trans (hb2.mono (Nat.le_of_lt hzb))
    have hz2 : w.heap.size < w2.heap.size := Nat.lt_of_lt_of_le hzb hb2.size
    have hblk2 := (hb2.block w.heap.size hzb).trans hblk
    have q : ∀ i, w2.cell? ⟨w.heap.size, i, none⟩ = (#[Value.int .u8 4, .int .i64 f.ag, .int .u64 (f.ep : Int), .int .u64 (f.ic : Int), .int .u64 (f.ba : Int), .int .u64 (f.cu : Int), .int .u64 (f.li : Int), .slice f.Ar f.nr f.cr, .slice f.Ai f.ni f.ci] : Array Value)[i]? := fun i => cell_of_row w2 _ i _ _ _ hblk2
    have HBW := Lib.hid hbw
    clear hbx hblk hzb hb2 hblk2 hbw
    obtain ⟨g, hg⟩ : ∃ g, g = w.heap.size := ⟨_, rfl⟩
    rw [← hg] at hz2 q ⊢
    have HG := Lib.hid hg
    clear hg
    go_wp2
    go_ret
    refine ⟨ret_b ?_, HBW.out.trans ((below_box w2 _).mono (by rw [← HG.out]; omega))⟩
    rw [HB.out, decP_congr HN.out, decP_no (fun x => by have hh := Hh1.out; have a1 := x.1; have a2 := x.2.1; have a3 := x.2.2.1; omega)]

set_option maxHeartbeats 800000 in
theorem right0_any (w : World) (f : Fv) (hk : ¬ (f.kd = 1 ∨ f.kd = 2 ∨ f.kd = 3 ∨ f.kd = 4)) :
    Calls Tryd.prog 12 #[f.v] w (Says w (.bool (decP (RightP f.m)))) := by
  rw [decP_no (p := RightP f.m) (fun x => by
    rcases x.2.2.2 with h4 | h4 | h4
    · exact hk (.inl h4.1)
    · rcases h4.1 with h5 | h5
      · exact hk (.inr (.inl h5))
      · exact hk (.inr (.inr (.inr h5)))
    · exact hk (.inr (.inr (.inl h4.1))))]
  have HK := Lib.hid hk

  clear hk
  unfold Fv.v
  go_enter Tryd.func12, Tryd.ntmps12
  go_wp2_with fail
  have hbx := below_box w (.cells #[.int .u8 (f.kd : Int), .int .i64 f.ag, .int .u64 (f.ep : Int), .int .u64 (f.ic : Int), .int .u64 (f.ba : Int), .int .u64 (f.cu : Int), .int .u64 (f.li : Int), .slice f.Ar f.nr f.cr, .slice f.Ai f.ni f.ci] 26)
  have hzb : w.heap.size < (w.alloc (.cells #[.int .u8 (f.kd : Int), .int .i64 f.ag, .int .u64 (f.ep : Int), .int .u64 (f.ic : Int), .int .u64 (f.ba : Int), .int .u64 (f.cu : Int), .int .u64 (f.li : Int), .slice f.Ar f.nr f.cr, .slice f.Ai f.ni f.ci] 26)).heap.size := by simp
  generalize w.alloc (.cells #[.int .u8 (f.kd : Int), .int .i64 f.ag, .int .u64 (f.ep : Int), .int .u64 (f.ic : Int), .int .u64 (f.ba : Int), .int .u64 (f.cu : Int), .int .u64 (f.li : Int), .slice f.Ar f.nr f.cr, .slice f.Ai f.ni f.ci] 26) = wb at *
  refine (parts_no wb f.kd HK.out).mono ?_
  rintro e w2 ⟨rfl, hb2⟩
  have hbw : Below w.heap.size w w2 := hbx.trans (hb2.mono (Nat.le_of_lt hzb))
  have hz2 : w.heap.size < w2.heap.size := Nat.lt_of_lt_of_le hzb hb2.size
  clear hbx hb2 hzb
  go_wp2
  go_ret
  exact ⟨rfl, hbw.trans ((below_box w2 _).mono (Nat.le_of_lt hz2))⟩
/-- Right. -/
theorem rightF_any (w : World) (f : Fv) (h : FrAt w f) : Calls Tryd.prog 12 #[f.v] w (Says w (.bool (decP (RightP f.m)))) := by
  by_cases h1 : f.kd = 1
  · exact right1_any w f h h1
  by_cases h2 : f.kd = 2
  · exact right2_any w f h h2
  by_cases h3 : f.kd = 3
  · exact right3_any w f h h3
  by_cases h4 : f.kd = 4
  · exact right4_any w f h h4
  exact right0_any w f (by omega)
end Go.Proofs.YtlkcnpmgafckoaaDoor
