/-
  CONTRACT of layer 5: Encode.
  No statement is proved here.
-/
import Derived.Test.YtlkcnpmgafckoaaDoorFrameRight
import Derived.Test.YtlkcnpmgafckoaaDoorFramePut
namespace Go.Proofs.YtlkcnpmgafckoaaDoor
open Go.RowKit

def tailB (m : Fm) : List UInt8 := if m.kd = 1 then helloB m else if m.kd = 3 then batchB m else answerB m
def innerB (m : Fm) : List UInt8 := [UInt8.ofNat m.kd] ++ numsB [m.ag.toNat, m.ep] ++ tailB m
def encB (m : Fm) : List UInt8 := closed (innerB m)
def EncPost (w : World) (m : Fm) (e : Ending) (w' : World) : Prop :=
  (¬ RightP m ∧ e = .returned (.tuple #[.slice none 0 0, .int .i64 1]) ∧ Below w.heap.size w w') ∨
  (RightP m ∧ 65507 < (encB m).length ∧ e = .returned (.tuple #[.slice none 0 0, .int .i64 6]) ∧ Below w.heap.size w w') ∨
  (RightP m ∧ (encB m).length ≤ 65507 ∧ ∃ A n c, e = .returned (.tuple #[.slice A n c, .int .i64 0]) ∧ w'.ownsRow w.heap.size 5 1 (.slice A n c) n (cbs (encB m)) ∧ Below w.heap.size w w')
theorem absK {K : Act → World → Prop} {t : Act} {W : World} {Q : World → Prop} (h : Q W) (k : ∀ wa, Q wa → K t wa) : K t W := k W h
theorem kind_lit (w : World) (t : TypeId) {k : UInt8} {v : Value} (hv : v = cb k) : Sl (w.alloc (.cells #[v] t)) (w.alloc (.cells #[v] t)).heap.size (some ⟨w.heap.size, 0, none⟩) 1 1 [k] := by
  subst hv
  exact (lit_sl w t [k] 1 rfl (by unfold maxLen; omega)).more (by simp)
theorem kind_litd (w : World) (t : TypeId) {k : UInt8} {v : Value} (hv : v = cb k) : Sl (w.alloc (.cells #[v] t)).drew (w.alloc (.cells #[v] t)).drew.heap.size (some ⟨w.heap.size, 0, none⟩) 1 1 [k] := (kind_lit w t hv).onD 1
theorem u64_lit2d (w : World) (t : TypeId) (x y : Nat) : Sn (w.alloc (.cells #[.int .u64 (x : Int), .int .u64 (y : Int)] t)).drew (w.alloc (.cells #[.int .u64 (x : Int), .int .u64 (y : Int)] t)).drew.heap.size (some ⟨w.heap.size, 0, none⟩) 2 2 1 (u64s [x, y]) := (u64_lit2 w t x y).onD 1
theorem right_bounds {w : World} {f : Fv} (h : FrAt w f) (hr : RightP f.m) : f.nr ≤ 32 ∧ f.ni ≤ 64 ∧ ∀ k ∈ f.ks, k.q.l.length ≤ 4096 := by
  have e1 := h.rs.len
  have e2 := h.it.len
  have nil1 : f.m.L = [] → f.nr ≤ 32 := fun e => by have e' : f.L = [] := e; rw [e'] at e1; simp at e1; omega
  have nil2 : f.m.its = [] → f.ni ≤ 64 ∧ ∀ k ∈ f.ks, k.q.l.length ≤ 4096 := fun e => by
    have e' : f.ks = [] := List.map_eq_nil_iff.1 e
    rw [e'] at e2 ⊢
    simp at e2
    exact ⟨by omega, fun k hk => by cases hk⟩
  rcases hr.2.2.2 with ⟨_, h4⟩ | ⟨_, h4⟩ | ⟨_, h4⟩
  · exact ⟨nil1 h4.2.2.2.2.2, nil2 h4.2.2.1⟩
  · refine ⟨?_, nil2 h4.2.1⟩
    rcases h4.2.2.2 with h5 | h5
    · exact nil1 h5
    · have h6 : f.L.length ≤ 32 := h5.1
      omega
  · refine ⟨nil1 h4.2.1.2.2, ?_⟩
    obtain ⟨h5, h6⟩ := h4.2.2
    have h7 : (f.ks.map Ik.it).length ≤ 64 := h5
    rw [List.length_map] at h7
    refine ⟨by omega, fun k hk => ?_⟩
    obtain ⟨j, hj, rfl⟩ := List.getElem_of_mem hk
    have h8 := h6 j f.ks[j].it (by show (f.ks.map Ik.it)[j]? = _; rw [List.getElem?_map, List.getElem?_eq_getElem hj]; rfl)
    have h9 := h8.1
    unfold rightB at h9
    simp at h9
    exact h9.2

set_option maxRecDepth 100000 in
set_option maxHeartbeats 800000 in
theorem encode0_any (w : World) (f : Fv) (h : FrAt w f) (hr : ¬ RightP f.m) :
    Calls Tryd.prog 16 #[f.v] w (EncPost w f.m) := by
  have HF := Lib.hid h
  have HR := Lib.hid hr
  have hc := rightF_any (w.alloc f.box) f (h.onA _)
  rw [decP_no hr] at hc
  unfold Fv.v at hc ⊢
  have HC := Lib.hid hc
  clear h hr hc
  go_enter Tryd.func16, Tryd.ntmps16
  go_wp2_with fail
  refine HC.out.mono ?_
  rintro e w2 ⟨rfl, hb⟩
  clear HC
  go_wp2
  go_ret2
  exact .inl ⟨HR.out, rfl, (below_box w f.box).trans (hb.mono (by simp))⟩

set_option maxRecDepth 100000 in
set_option maxHeartbeats 2000000 in
theorem encode1_any (w : World) (ht : TabAt w) (f : Fv) (h : FrAt w f) (hr : RightP f.m) (hk : f.kd = 1) :
    Calls Tryd.prog 16 #[f.v] w (EncPost w f.m) := by
  have HBD := Lib.hid (right_bounds h hr)
  obtain ⟨a, ha⟩ : ∃ a : Nat, f.ag = (a : Int) := ⟨f.ag.toNat, by have : (0 : Int) ≤ f.ag := hr.1; omega⟩
  have HAG := Lib.hid ha
  have ha16 : a < 16 := by have : f.ag < 16 := hr.2.1; omega
  have hwa : IntKind.u64.wrap f.ag = (a : Int) := by rw [IntKind.wrap_u64, ha]; omega
  obtain ⟨tot, HT⟩ : ∃ tot, Hid (tot = encB f.m) := ⟨_, rfl⟩
  have HTE : Hid (tot = closed ([1] ++ numsB [a, f.ep] ++ helloB f.m)) := by
    show _ = _
    rw [HT.out]
    unfold encB innerB tailB
    have e1 : f.m.kd = 1 := hk
    have e2 : f.m.ag.toNat = a := by show f.ag.toNat = a; omega
    rw [e1, e2]
    rfl
  have HLN : Hid ((helloB f.m).length ≤ 300000) := by
    have h32 := HBD.out
    show _ ≤ _
    have := numsB_len [f.ba] (by intro x hx; simp at hx; subst hx; exact h.ba)
    unfold helloB
    have e : f.m.ba = f.ba := rfl
    rw [e]
    simp at this
    omega
  have hc := rightF_any (w.alloc (Obj.cells #[.int .u8 1, .int .i64 f.ag, .int .u64 (f.ep : Int), .int .u64 (f.ic : Int), .int .u64 (f.ba : Int), .int .u64 (f.cu : Int), .int .u64 (f.li : Int), .slice f.Ar f.nr f.cr, .slice f.Ai f.ni f.ci] 26)) f (h.onA _)
  rw [decP_yes hr] at hc
  have HV : Hid (f.v = .agg #[.int .u8 1, .int .i64 f.ag, .int .u64 (f.ep : Int), .int .u64 (f.ic : Int), .int .u64 (f.ba : Int), .int .u64 (f.cu : Int), .int .u64 (f.li : Int), .slice f.Ar f.nr f.cr, .slice f.Ai f.ni f.ci]) := by show _ = _; unfold Fv.v; rw [hk]; rfl
  rw [HV.out] at hc
  rw [HV.out]
  have HC := Lib.hid hc
  have HFR := Lib.hid h
  have HTB := Lib.hid ht
  have HR := Lib.hid hr
  have HWA := Lib.hid hwa
  clear h hr hc hk ht ha hwa
  go_enter Tryd.func16, Tryd.ntmps16
  go_wp2_with fail
  refine HC.out.mono ?_
  rintro e w2 ⟨rfl, hb⟩
  have hbw : Below w.heap.size w w2 := (below_box w (Obj.cells #[.int .u8 1, .int .i64 f.ag, .int .u64 (f.ep : Int), .int .u64 (f.ic : Int), .int .u64 (f.ba : Int), .int .u64 (f.cu : Int), .int .u64 (f.li : Int), .slice f.Ar f.nr f.cr, .slice f.Ai f.ni f.ci] 26)).trans (hb.mono (by simp))
  have hz2 : w.heap.size < w2.heap.size := Nat.lt_of_lt_of_le (by simp) hb.size
  have hblk := (hb.block w.heap.size (by simp)).trans (heap_alloc_new w (Obj.cells #[.int .u8 1, .int .i64 f.ag, .int .u64 (f.ep : Int), .int .u64 (f.ic : Int), .int .u64 (f.ba : Int), .int .u64 (f.cu : Int), .int .u64 (f.li : Int), .slice f.Ar f.nr f.cr, .slice f.Ai f.ni f.ci] 26))
  have q0 : w2.cell? ⟨w.heap.size, 0, none⟩ = some (.int .u8 1) := by rw [cell_of_row w2 _ 0 _ _ _ hblk]; rfl
  clear HC hb
  go_wp2_with fail
  refine (parts1 w2).mono ?_
  rintro e w3 ⟨rfl, hb3⟩
  have hbw3 : Below w.heap.size w w3 := hbw.trans (hb3.mono hbw.size)
  have hz3 : w.heap.size < w3.heap.size := Nat.lt_of_lt_of_le hz2 hb3.size
  have hblk3 := (hb3.block w.heap.size hz2).trans hblk
  clear hb3 hbw hz2 hblk q0
  go_wp2_with fail
  obtain ⟨g, hg⟩ : ∃ g, g = w.heap.size := ⟨_, rfl⟩
  obtain ⟨g4, hg4⟩ : ∃ g4, g4 = w3.heap.size := ⟨_, rfl⟩
  have hE : Ever (fun w' => (w'.cell? ⟨g, 0, none⟩ = some (.int .u8 1) ∧ w'.cell? ⟨g, 1, none⟩ = some (.int .i64 f.ag) ∧ w'.cell? ⟨g, 2, none⟩ = some (.int .u64 (f.ep : Int)) ∧ w'.cell? ⟨g, 3, none⟩ = some (.int .u64 (f.ic : Int)) ∧ w'.cell? ⟨g, 4, none⟩ = some (.int .u64 (f.ba : Int)) ∧ w'.cell? ⟨g, 5, none⟩ = some (.int .u64 (f.cu : Int)) ∧ w'.cell? ⟨g, 6, none⟩ = some (.int .u64 (f.li : Int)) ∧ w'.cell? ⟨g, 7, none⟩ = some (.slice f.Ar f.nr f.cr) ∧ w'.cell? ⟨g, 8, none⟩ = some (.slice f.Ai f.ni f.ci) ∧ w'.cell? ⟨g4, 2, none⟩ = some (.func (Fn.func 51) #[] #[])) ∧ FrAt w' f ∧ TabAt w' ∧ Below w.heap.size w w') (w3.alloc (Obj.cells #[.string ⟨#[104, 101, 108, 108, 111]⟩, .func (Fn.func 50) #[] #[], .func (Fn.func 51) #[] #[], .func (Fn.func 52) #[] #[]] 66)) := by
    intro w' hw
    have hb : Below w3.heap.size w3 w' := (below_box w3 (Obj.cells #[.string ⟨#[104, 101, 108, 108, 111]⟩, .func (Fn.func 50) #[] #[], .func (Fn.func 51) #[] #[], .func (Fn.func 52) #[] #[]] 66)).trans (hw.mono (by simp))
    have hbb : Below w.heap.size w w' := hbw3.trans (hb.mono hbw3.size)
    have hbk := (hb.block w.heap.size hz3).trans hblk3
    rw [hg, hg4]
    refine ⟨⟨by rw [cell_of_row w' _ 0 _ _ _ hbk]; rfl, by rw [cell_of_row w' _ 1 _ _ _ hbk]; rfl, by rw [cell_of_row w' _ 2 _ _ _ hbk]; rfl, by rw [cell_of_row w' _ 3 _ _ _ hbk]; rfl, by rw [cell_of_row w' _ 4 _ _ _ hbk]; rfl, by rw [cell_of_row w' _ 5 _ _ _ hbk]; rfl, by rw [cell_of_row w' _ 6 _ _ _ hbk]; rfl, by rw [cell_of_row w' _ 7 _ _ _ hbk]; rfl, by rw [cell_of_row w' _ 8 _ _ _ hbk]; rfl, ?_⟩, HFR.out.on hbb, HTB.out.below hbb, hbb⟩
    exact ever_cell (cell_last w3 _ _ _ 2 rfl) _ hw
  rw [← hg, ← hg4]
  have HG := Lib.hid hg
  clear hg hg4
  obtain ⟨Ps, HP⟩ : ∃ Ps : World → Prop, Hid (Ps = fun w' => (w'.cell? ⟨g, 0, none⟩ = some (.int .u8 1) ∧ w'.cell? ⟨g, 1, none⟩ = some (.int .i64 f.ag) ∧ w'.cell? ⟨g, 2, none⟩ = some (.int .u64 (f.ep : Int)) ∧ w'.cell? ⟨g, 3, none⟩ = some (.int .u64 (f.ic : Int)) ∧ w'.cell? ⟨g, 4, none⟩ = some (.int .u64 (f.ba : Int)) ∧ w'.cell? ⟨g, 5, none⟩ = some (.int .u64 (f.cu : Int)) ∧ w'.cell? ⟨g, 6, none⟩ = some (.int .u64 (f.li : Int)) ∧ w'.cell? ⟨g, 7, none⟩ = some (.slice f.Ar f.nr f.cr) ∧ w'.cell? ⟨g, 8, none⟩ = some (.slice f.Ai f.ni f.ci) ∧ w'.cell? ⟨g4, 2, none⟩ = some (.func (Fn.func 51) #[] #[])) ∧ FrAt w' f ∧ TabAt w' ∧ Below w.heap.size w w') := ⟨_, rfl⟩
  have HN : Hid (∀ w', Ps w' → (w'.cell? ⟨g, 0, none⟩ = some (.int .u8 1) ∧ w'.cell? ⟨g, 1, none⟩ = some (.int .i64 f.ag) ∧ w'.cell? ⟨g, 2, none⟩ = some (.int .u64 (f.ep : Int)) ∧ w'.cell? ⟨g, 3, none⟩ = some (.int .u64 (f.ic : Int)) ∧ w'.cell? ⟨g, 4, none⟩ = some (.int .u64 (f.ba : Int)) ∧ w'.cell? ⟨g, 5, none⟩ = some (.int .u64 (f.cu : Int)) ∧ w'.cell? ⟨g, 6, none⟩ = some (.int .u64 (f.li : Int)) ∧ w'.cell? ⟨g, 7, none⟩ = some (.slice f.Ar f.nr f.cr) ∧ w'.cell? ⟨g, 8, none⟩ = some (.slice f.Ai f.ni f.ci) ∧ w'.cell? ⟨g4, 2, none⟩ = some (.func (Fn.func 51) #[] #[])) ∧ FrAt w' f ∧ TabAt w' ∧ Below w.heap.size w w') := by rw [HP.out]; exact fun _ h => h
  replace hE : Ever Ps (w3.alloc (Obj.cells #[.string ⟨#[104, 101, 108, 108, 111]⟩, .func (Fn.func 50) #[] #[], .func (Fn.func 51) #[] #[], .func (Fn.func 52) #[] #[]] 66)) := by rw [HP.out]; exact hE
  clear HP
  have hE2 := hE.drewN 1
  clear hE
  generalize w3.alloc (Obj.cells #[.string ⟨#[104, 101, 108, 108, 111]⟩, .func (Fn.func 50) #[] #[], .func (Fn.func 51) #[] #[], .func (Fn.func 52) #[] #[]] 66) = wc at *
  clear hblk3 hbw3 hz3
  have hwa := HWA.out
  have HBZ : Hid (∀ w', Ps w' → w.heap.size ≤ w'.heap.size) := fun w' h => (HN.out w' h).2.2.2.size
  refine wp_region_noPanic ?_
  refine wp_region_held_drew (S := (fun w' => (w'.cell? ⟨g, 0, none⟩ = some (.int .u8 1) ∧ w'.cell? ⟨g, 1, none⟩ = some (.int .i64 f.ag) ∧ w'.cell? ⟨g, 2, none⟩ = some (.int .u64 (f.ep : Int)) ∧ w'.cell? ⟨g, 3, none⟩ = some (.int .u64 (f.ic : Int)) ∧ w'.cell? ⟨g, 4, none⟩ = some (.int .u64 (f.ba : Int)) ∧ w'.cell? ⟨g, 5, none⟩ = some (.int .u64 (f.cu : Int)) ∧ w'.cell? ⟨g, 6, none⟩ = some (.int .u64 (f.li : Int)) ∧ w'.cell? ⟨g, 7, none⟩ = some (.slice f.Ar f.nr f.cr) ∧ w'.cell? ⟨g, 8, none⟩ = some (.slice f.Ai f.ni f.ci) ∧ w'.cell? ⟨g4, 2, none⟩ = some (.func (Fn.func 51) #[] #[])) ∧ Ever Ps w')) (by kernel_rfl) ⟨(HN.out _ hE2.now).1, hE2⟩ (fun hHeld => ?_)
  refine wpAnyH_take (i := 0) (oi := { dst := some 16, op := Op.fieldAddr 66 (Operand.tmp 4) 2, type := 0, pos := "frame.go:52", after := #[], guard := none }) (v := ?_) rfl (by kernel_rfl) (by kernel_rfl) (by kernel_rfl) (fun _ _ _ h => h) (Or.inl ⟨by rfl, ?_⟩) (by assumption) ?_
  rotate_left
  · intro w hSw; (try dsimp only at hSw); first | (go_simp; done) | (go_simp; with_reducible rfl)
  try simp only [Act.put, List.setIfInBounds_toArray, List.set_cons_zero, List.set_cons_succ]
  refine wpAnyH_take (i := 1) (oi := { dst := some 17, op := Op.load 63 (Operand.tmp 16), type := 63, pos := "frame.go:52", after := #[{ on := 0, ground := Ground.data }], guard := none }) (v := ?_) rfl (by kernel_rfl) (by kernel_rfl) (by kernel_rfl) (fun _ _ _ h => h) (Or.inl ⟨by rfl, ?_⟩) (by assumption) ?_
  rotate_left
  · intro w hSw; (try dsimp only at hSw); first | (go_simp; done) | (go_simp; with_reducible rfl)
  try simp only [Act.put, List.setIfInBounds_toArray, List.set_cons_zero, List.set_cons_succ]
  refine wpAnyH_take (i := 2) (oi := { dst := some 18, op := Op.load 26 (Operand.tmp 1), type := 26, pos := "frame.go:52", after := #[], guard := none }) (v := ?_) rfl (by kernel_rfl) (by kernel_rfl) (by kernel_rfl) (fun _ _ _ h => h) (Or.inl ⟨by rfl, ?_⟩) (by assumption) ?_
  rotate_left
  · intro w hSw; (try dsimp only at hSw); first | (go_simp; done) | (go_simp; with_reducible rfl)
  try simp only [Act.put, List.setIfInBounds_toArray, List.set_cons_zero, List.set_cons_succ]
  refine wpAnyH_take (i := 3) (oi := { dst := some 19, op := Op.fieldAddr 26 (Operand.tmp 1) 0, type := 0, pos := "frame.go:52", after := #[], guard := none }) (v := ?_) rfl (by kernel_rfl) (by kernel_rfl) (by kernel_rfl) (fun _ _ _ h => h) (Or.inl ⟨by rfl, ?_⟩) (by assumption) ?_
  rotate_left
  · intro w hSw; (try dsimp only at hSw); first | (go_simp; done) | (go_simp; with_reducible rfl)
  try simp only [Act.put, List.setIfInBounds_toArray, List.set_cons_zero, List.set_cons_succ]
  refine wpAnyH_take (i := 4) (oi := { dst := some 20, op := Op.load 5 (Operand.tmp 19), type := 5, pos := "frame.go:52", after := #[{ on := 3, ground := Ground.data }], guard := none }) (v := ?_) rfl (by kernel_rfl) (by kernel_rfl) (by kernel_rfl) (fun _ _ _ h => h) (Or.inl ⟨by rfl, ?_⟩) (by assumption) ?_
  rotate_left
  · intro w hSw; (try dsimp only at hSw); first | (go_simp; done) | (go_simp; with_reducible rfl)
  try simp only [Act.put, List.setIfInBounds_toArray, List.set_cons_zero, List.set_cons_succ]
  refine wpAnyH_take (i := 6) (oi := { dst := some 22, op := Op.fieldAddr 26 (Operand.tmp 1) 1, type := 0, pos := "frame.go:52", after := #[], guard := none }) (v := ?_) rfl (by kernel_rfl) (by kernel_rfl) (by kernel_rfl) (fun _ _ _ h => h) (Or.inl ⟨by rfl, ?_⟩) (by assumption) ?_
  rotate_left
  · intro w hSw; (try dsimp only at hSw); first | (go_simp; done) | (go_simp; with_reducible rfl)
  try simp only [Act.put, List.setIfInBounds_toArray, List.set_cons_zero, List.set_cons_succ]
  refine wpAnyH_take (i := 7) (oi := { dst := some 23, op := Op.load 3 (Operand.tmp 22), type := 3, pos := "frame.go:52", after := #[{ on := 6, ground := Ground.data }], guard := none }) (v := ?_) rfl (by kernel_rfl) (by kernel_rfl) (by kernel_rfl) (fun _ _ _ h => h) (Or.inl ⟨by rfl, ?_⟩) (by assumption) ?_
  rotate_left
  · intro w hSw; (try dsimp only at hSw); first | (go_simp; done) | (go_simp; with_reducible rfl)
  try simp only [Act.put, List.setIfInBounds_toArray, List.set_cons_zero, List.set_cons_succ]
  refine wpAnyH_take (i := 8) (oi := { dst := some 24, op := Op.convert 3 22 (Operand.tmp 23), type := 22, pos := "frame.go:52", after := #[{ on := 7, ground := Ground.data }], guard := none }) (v := ?_) rfl (by kernel_rfl) (by kernel_rfl) (by kernel_rfl) (fun _ _ _ h => h) (Or.inl ⟨by rfl, ?_⟩) (by assumption) ?_
  rotate_left
  · intro w hSw; (try dsimp only at hSw); first | (go_simp; done) | (go_simp; with_reducible rfl)
  try simp only [Act.put, List.setIfInBounds_toArray, List.set_cons_zero, List.set_cons_succ]
  refine wpAnyH_take (i := 9) (oi := { dst := some 25, op := Op.fieldAddr 26 (Operand.tmp 1) 2, type := 0, pos := "frame.go:52", after := #[], guard := none }) (v := ?_) rfl (by kernel_rfl) (by kernel_rfl) (by kernel_rfl) (fun _ _ _ h => h) (Or.inl ⟨by rfl, ?_⟩) (by assumption) ?_
  rotate_left
  · intro w hSw; (try dsimp only at hSw); first | (go_simp; done) | (go_simp; with_reducible rfl)
  try simp only [Act.put, List.setIfInBounds_toArray, List.set_cons_zero, List.set_cons_succ]
  refine wpAnyH_take (i := 10) (oi := { dst := some 26, op := Op.load 22 (Operand.tmp 25), type := 22, pos := "frame.go:52", after := #[{ on := 9, ground := Ground.data }], guard := none }) (v := ?_) rfl (by kernel_rfl) (by kernel_rfl) (by kernel_rfl) (fun _ _ _ h => h) (Or.inl ⟨by rfl, ?_⟩) (by assumption) ?_
  rotate_left
  · intro w hSw; (try dsimp only at hSw); first | (go_simp; done) | (go_simp; with_reducible rfl)
  try simp only [Act.put, List.setIfInBounds_toArray, List.set_cons_zero, List.set_cons_succ]
  refine wpAnyH_ready (rs := [5, 11]) (by kernel_rfl) (by simp) ?_
  refine (AllReadyH.cons (o := { dst := some 21, op := Op.buildSlice 37 1 #[(0, Operand.tmp 20)], type := 37, pos := "frame.go:52", after := #[{ on := 4, ground := Ground.data }], guard := none }) rfl (fun K hK => ?_) (AllReadyH.cons (o := { dst := some 27, op := Op.buildSlice 107 2 #[(0, Operand.tmp 24), (1, Operand.tmp 26)], type := 107, pos := "frame.go:52", after := #[{ on := 8, ground := Ground.data }, { on := 10, ground := Ground.data }], guard := none }) rfl (fun K hK => ?_) AllReadyH.nil))
  · go_simp
    refine absK (Q := fun w' => Ever Ps w' ∧ Sl w' w'.heap.size (some ⟨wc.heap.size, 0, none⟩) 1 1 [1]) ⟨hE2.alloc _, kind_litd wc _ rfl⟩ ?_
    clear hE2
    rintro wa ⟨hE2, h5⟩
    go_wp2_with fail
    clear hHeld
    refine hK.out _ _ ⟨(HN.out _ hE2.now).1, hE2⟩ (fun hHeld => ?_)
    clear hK K
    try simp only [Act.put, List.setIfInBounds_toArray, List.set_cons_zero, List.set_cons_succ]
    refine wpAnyH_ready (rs := [11]) (by kernel_rfl) (by simp) ?_
    refine (AllReadyH.cons (o := { dst := some 27, op := Op.buildSlice 107 2 #[(0, Operand.tmp 24), (1, Operand.tmp 26)], type := 107, pos := "frame.go:52", after := #[{ on := 8, ground := Ground.data }, { on := 10, ground := Ground.data }], guard := none }) rfl (fun K hK => ?_) AllReadyH.nil)
    go_simp
    refine absK (Q := fun w' => Ever Ps w' ∧ Sl w' w'.heap.size (some ⟨wc.heap.size, 0, none⟩) 1 1 [1] ∧ Sn w' w'.heap.size (some ⟨wa.heap.size, 0, none⟩) 2 2 1 (u64s [a, f.ep])) ⟨hE2.alloc _, h5.onA _, u64_lit2 wa _ a f.ep⟩ ?_
    clear hE2 h5
    rintro wa2 ⟨hE2, h5, h11⟩
    go_wp2_with fail
    clear hHeld
    refine hK.out _ _ ⟨(HN.out _ hE2.now).1, hE2⟩ (fun hHeld => ?_)
    clear hK K
    try simp only [Act.put, List.setIfInBounds_toArray, List.set_cons_zero, List.set_cons_succ]
    refine wpAnyH_ready (rs := [12]) (by kernel_rfl) (by simp) ?_
    refine (AllReadyH.cons (o := { dst := some 28, op := Op.call { callee := Callee.value (Operand.func 35), args := #[Operand.tmp 21, Operand.tmp 27], argTypes := #[37, 107] }, type := 37, pos := "frame.go:52", after := #[{ on := 5, ground := Ground.data }, { on := 11, ground := Ground.data }], guard := none }) rfl (fun K hK => ?_) AllReadyH.nil)
    go_simp
    go_at_call 35
    have hlts : ∀ x ∈ [a, f.ep], x < two64 := by
      intro x hx
      simp at hx
      rcases hx with rfl | rfl
      · unfold two64; omega
      · exact HFR.out.ep
    refine (nums_any _ _ _ 1 1 2 2 [1] [a, f.ep] h5 h11 hlts (by simp) (by simp)).mono ?_
    rintro e wn ⟨An, nn, cn, rfl, hown, hbn⟩
    have hlen : ([1] ++ numsB [a, f.ep]).length ≤ 1000 := by
      have := numsB_len [a, f.ep] hlts
      rw [List.length_append]
      simp at this ⊢
      omega
    replace hE2 := hE2.next hbn
    clear h5 h11 hbn hlts
    go_wp2_with fail
    clear hHeld
    refine hK.out _ _ ⟨(HN.out _ hE2.now).1, hE2⟩ (fun hHeld => ?_)
    clear hK K
    try simp only [Act.put, List.setIfInBounds_toArray, List.set_cons_zero, List.set_cons_succ]
    refine wpAnyH_ready (rs := [13]) (by kernel_rfl) (by simp) ?_
    refine (AllReadyH.cons (o := { dst := some 29, op := Op.call { callee := Callee.value (Operand.tmp 17), args := #[Operand.tmp 18, Operand.tmp 28], argTypes := #[26, 37] }, type := 37, pos := "frame.go:52", after := #[{ on := 1, ground := Ground.data }, { on := 2, ground := Ground.data }, { on := 12, ground := Ground.data }, { on := 12, ground := Ground.chain }], guard := none }) rfl (fun K hK => ?_) AllReadyH.nil)
    go_simp
    go_at_call 51
    have hput := putHello_any wn f (HN.out _ hE2.now).2.1 An nn cn _ (Sl.of_own hown) hlen
    rw [HV.out] at hput
    refine hput.mono ?_
    rintro e wp ⟨Ap, np, cp, rfl, hownp, hbp⟩
    have hown2 := hownp
    replace hE2 := hE2.next hbp
    clear hput hown hbp hownp
    go_wp2_with fail
    clear hHeld
    refine hK.out _ _ ⟨(HN.out _ hE2.now).1, hE2⟩ (fun hHeld => ?_)
    clear hK K
    try simp only [Act.put, List.setIfInBounds_toArray, List.set_cons_zero, List.set_cons_succ]
    refine wpAnyH_ready (rs := [14]) (by kernel_rfl) (by simp) ?_
    refine (AllReadyH.cons (o := { dst := some 30, op := Op.call { callee := Callee.value (Operand.func 34), args := #[Operand.tmp 29], argTypes := #[37] }, type := 37, pos := "frame.go:52", after := #[{ on := 13, ground := Ground.data }, { on := 13, ground := Ground.chain }], guard := none }) rfl (fun K hK => ?_) AllReadyH.nil)
    go_simp
    go_at_call 34
    have hl2 : ([1] ++ numsB [a, f.ep] ++ helloB f.m).length ≤ 1000000 := by rw [List.length_append]; have := HLN.out; omega
    refine (close_any wp Ap np cp _ (HN.out _ hE2.now).2.2.1 (Sl.of_own hown2) hl2).mono ?_
    rintro e wq ⟨Aq, nq, cq, rfl, hownq, hbq⟩
    rw [← HTE.out] at hownq
    have HZ := Lib.hid (HBZ.out _ hE2.now)
    replace hE2 := hE2.next hbq
    have HOQ := Lib.hid (own_lower hownq HZ.out)
    clear hown2 hbq hownq hl2 hlen
    go_wp2_with fail
    clear hHeld
    refine hK.out _ _ ⟨(HN.out _ hE2.now).1, hE2⟩ (fun hHeld => ?_)
    clear hK K
    try simp only [Act.put, List.setIfInBounds_toArray, List.set_cons_zero, List.set_cons_succ]
    refine wpAnyH_take (i := 15) (oi := { dst := some 6, op := Op.assign (Operand.tmp 30), type := 37, pos := "frame.go:52", after := #[{ on := 14, ground := Ground.data }, { on := 14, ground := Ground.chain }, { on := 0, ground := Ground.phase }, { on := 1, ground := Ground.phase }, { on := 2, ground := Ground.phase }, { on := 3, ground := Ground.phase }, { on := 4, ground := Ground.phase }, { on := 5, ground := Ground.phase }, { on := 6, ground := Ground.phase }, { on := 7, ground := Ground.phase }, { on := 8, ground := Ground.phase }, { on := 9, ground := Ground.phase }, { on := 10, ground := Ground.phase }, { on := 11, ground := Ground.phase }, { on := 12, ground := Ground.phase }, { on := 13, ground := Ground.phase }, { on := 14, ground := Ground.phase }], guard := none }) (v := ?_) rfl (by kernel_rfl) (by kernel_rfl) (by kernel_rfl) (fun _ _ _ h => h) (Or.inl ⟨by rfl, ?_⟩) (by assumption) ?_
    rotate_left
    · intro w hSw; (try dsimp only at hSw); first | (go_simp; done) | (go_simp; with_reducible rfl)
    try simp only [Act.put, List.setIfInBounds_toArray, List.set_cons_zero, List.set_cons_succ]
    refine wpAnyH_done (by kernel_rfl) ?_ _
    refine NoPanic.normal ?_
    have hbf := (HN.out _ hE2.now).2.2.2
    have hnq : nq = tot.length := by have := (Sl.of_own HOQ.out).len; omega
    have HNQ := Lib.hid hnq
    have HBF := Lib.hid hbf
    clear hHeld hE2 hnq hbf
    by_cases hlong : 65507 < nq
    · have hlI : (65507 : Int) < (nq : Int) := by omega
      have HLG := Lib.hid hlong; clear hlong
      go_wp2
      go_ret2
      exact .inr (.inl ⟨HR.out, by rw [← HT.out, ← HNQ.out]; exact HLG.out, rfl, HBF.out⟩)
    · have hlI : ¬ (65507 : Int) < (nq : Int) := by omega
      have HLG := Lib.hid hlong; clear hlong
      go_wp2
      go_ret2
      refine .inr (.inr ⟨HR.out, by rw [← HT.out, ← HNQ.out]; have := HLG.out; omega, Aq, nq, cq, rfl, ?_, HBF.out⟩)
      rw [← HT.out]
      exact HOQ.out
  · go_simp
    refine absK (Q := fun w' => Ever Ps w' ∧ Sn w' w'.heap.size (some ⟨wc.heap.size, 0, none⟩) 2 2 1 (u64s [a, f.ep])) ⟨hE2.alloc _, u64_lit2d wc _ a f.ep⟩ ?_
    clear hE2
    rintro wa ⟨hE2, h11⟩
    go_wp2_with fail
    clear hHeld
    refine hK.out _ _ ⟨(HN.out _ hE2.now).1, hE2⟩ (fun hHeld => ?_)
    clear hK K
    try simp only [Act.put, List.setIfInBounds_toArray, List.set_cons_zero, List.set_cons_succ]
    refine wpAnyH_ready (rs := [5]) (by kernel_rfl) (by simp) ?_
    refine (AllReadyH.cons (o := { dst := some 21, op := Op.buildSlice 37 1 #[(0, Operand.tmp 20)], type := 37, pos := "frame.go:52", after := #[{ on := 4, ground := Ground.data }], guard := none }) rfl (fun K hK => ?_) AllReadyH.nil)
    go_simp
    refine absK (Q := fun w' => Ever Ps w' ∧ Sl w' w'.heap.size (some ⟨wa.heap.size, 0, none⟩) 1 1 [1] ∧ Sn w' w'.heap.size (some ⟨wc.heap.size, 0, none⟩) 2 2 1 (u64s [a, f.ep])) ⟨hE2.alloc _, kind_lit wa _ rfl, h11.onA _⟩ ?_
    clear hE2 h11
    rintro wa2 ⟨hE2, h5, h11⟩
    go_wp2_with fail
    clear hHeld
    refine hK.out _ _ ⟨(HN.out _ hE2.now).1, hE2⟩ (fun hHeld => ?_)
    clear hK K
    try simp only [Act.put, List.setIfInBounds_toArray, List.set_cons_zero, List.set_cons_succ]
    refine wpAnyH_ready (rs := [12]) (by kernel_rfl) (by simp) ?_
    refine (AllReadyH.cons (o := { dst := some 28, op := Op.call { callee := Callee.value (Operand.func 35), args := #[Operand.tmp 21, Operand.tmp 27], argTypes := #[37, 107] }, type := 37, pos := "frame.go:52", after := #[{ on := 5, ground := Ground.data }, { on := 11, ground := Ground.data }], guard := none }) rfl (fun K hK => ?_) AllReadyH.nil)
    go_simp
    go_at_call 35
    have hlts : ∀ x ∈ [a, f.ep], x < two64 := by
      intro x hx
      simp at hx
      rcases hx with rfl | rfl
      · unfold two64; omega
      · exact HFR.out.ep
    refine (nums_any _ _ _ 1 1 2 2 [1] [a, f.ep] h5 h11 hlts (by simp) (by simp)).mono ?_
    rintro e wn ⟨An, nn, cn, rfl, hown, hbn⟩
    have hlen : ([1] ++ numsB [a, f.ep]).length ≤ 1000 := by
      have := numsB_len [a, f.ep] hlts
      rw [List.length_append]
      simp at this ⊢
      omega
    replace hE2 := hE2.next hbn
    clear h5 h11 hbn hlts
    go_wp2_with fail
    clear hHeld
    refine hK.out _ _ ⟨(HN.out _ hE2.now).1, hE2⟩ (fun hHeld => ?_)
    clear hK K
    try simp only [Act.put, List.setIfInBounds_toArray, List.set_cons_zero, List.set_cons_succ]
    refine wpAnyH_ready (rs := [13]) (by kernel_rfl) (by simp) ?_
    refine (AllReadyH.cons (o := { dst := some 29, op := Op.call { callee := Callee.value (Operand.tmp 17), args := #[Operand.tmp 18, Operand.tmp 28], argTypes := #[26, 37] }, type := 37, pos := "frame.go:52", after := #[{ on := 1, ground := Ground.data }, { on := 2, ground := Ground.data }, { on := 12, ground := Ground.data }, { on := 12, ground := Ground.chain }], guard := none }) rfl (fun K hK => ?_) AllReadyH.nil)
    go_simp
    go_at_call 51
    have hput := putHello_any wn f (HN.out _ hE2.now).2.1 An nn cn _ (Sl.of_own hown) hlen
    rw [HV.out] at hput
    refine hput.mono ?_
    rintro e wp ⟨Ap, np, cp, rfl, hownp, hbp⟩
    have hown2 := hownp
    replace hE2 := hE2.next hbp
    clear hput hown hbp hownp
    go_wp2_with fail
    clear hHeld
    refine hK.out _ _ ⟨(HN.out _ hE2.now).1, hE2⟩ (fun hHeld => ?_)
    clear hK K
    try simp only [Act.put, List.setIfInBounds_toArray, List.set_cons_zero, List.set_cons_succ]
    refine wpAnyH_ready (rs := [14]) (by kernel_rfl) (by simp) ?_
    refine (AllReadyH.cons (o := { dst := some 30, op := Op.call { callee := Callee.value (Operand.func 34), args := #[Operand.tmp 29], argTypes := #[37] }, type := 37, pos := "frame.go:52", after := #[{ on := 13, ground := Ground.data }, { on := 13, ground := Ground.chain }], guard := none }) rfl (fun K hK => ?_) AllReadyH.nil)
    go_simp
    go_at_call 34
    have hl2 : ([1] ++ numsB [a, f.ep] ++ helloB f.m).length ≤ 1000000 := by rw [List.length_append]; have := HLN.out; omega
    refine (close_any wp Ap np cp _ (HN.out _ hE2.now).2.2.1 (Sl.of_own hown2) hl2).mono ?_
    rintro e wq ⟨Aq, nq, cq, rfl, hownq, hbq⟩
    rw [← HTE.out] at hownq
    have HZ := Lib.hid (HBZ.out _ hE2.now)
    replace hE2 := hE2.next hbq
    have HOQ := Lib.hid (own_lower hownq HZ.out)
    clear hown2 hbq hownq hl2 hlen
    go_wp2_with fail
    clear hHeld
    refine hK.out _ _ ⟨(HN.out _ hE2.now).1, hE2⟩ (fun hHeld => ?_)
    clear hK K
    try simp only [Act.put, List.setIfInBounds_toArray, List.set_cons_zero, List.set_cons_succ]
    refine wpAnyH_take (i := 15) (oi := { dst := some 6, op := Op.assign (Operand.tmp 30), type := 37, pos := "frame.go:52", after := #[{ on := 14, ground := Ground.data }, { on := 14, ground := Ground.chain }, { on := 0, ground := Ground.phase }, { on := 1, ground := Ground.phase }, { on := 2, ground := Ground.phase }, { on := 3, ground := Ground.phase }, { on := 4, ground := Ground.phase }, { on := 5, ground := Ground.phase }, { on := 6, ground := Ground.phase }, { on := 7, ground := Ground.phase }, { on := 8, ground := Ground.phase }, { on := 9, ground := Ground.phase }, { on := 10, ground := Ground.phase }, { on := 11, ground := Ground.phase }, { on := 12, ground := Ground.phase }, { on := 13, ground := Ground.phase }, { on := 14, ground := Ground.phase }], guard := none }) (v := ?_) rfl (by kernel_rfl) (by kernel_rfl) (by kernel_rfl) (fun _ _ _ h => h) (Or.inl ⟨by rfl, ?_⟩) (by assumption) ?_
    rotate_left
    · intro w hSw; (try dsimp only at hSw); first | (go_simp; done) | (go_simp; with_reducible rfl)
    try simp only [Act.put, List.setIfInBounds_toArray, List.set_cons_zero, List.set_cons_succ]
    refine wpAnyH_done (by kernel_rfl) ?_ _
    refine NoPanic.normal ?_
    have hbf := (HN.out _ hE2.now).2.2.2
    have hnq : nq = tot.length := by have := (Sl.of_own HOQ.out).len; omega
    have HNQ := Lib.hid hnq
    have HBF := Lib.hid hbf
    clear hHeld hE2 hnq hbf
    by_cases hlong : 65507 < nq
    · have hlI : (65507 : Int) < (nq : Int) := by omega
      have HLG := Lib.hid hlong; clear hlong
      go_wp2
      go_ret2
      exact .inr (.inl ⟨HR.out, by rw [← HT.out, ← HNQ.out]; exact HLG.out, rfl, HBF.out⟩)
    · have hlI : ¬ (65507 : Int) < (nq : Int) := by omega
      have HLG := Lib.hid hlong; clear hlong
      go_wp2
      go_ret2
      refine .inr (.inr ⟨HR.out, by rw [← HT.out, ← HNQ.out]; have := HLG.out; omega, Aq, nq, cq, rfl, ?_, HBF.out⟩)
      rw [← HT.out]
      exact HOQ.out

set_option maxRecDepth 100000 in
set_option maxHeartbeats 2000000 in
theorem encode2_any (w : World) (ht : TabAt w) (f : Fv) (h : FrAt w f) (hr : RightP f.m) (hk : f.kd = 2) :
    Calls Tryd.prog 16 #[f.v] w (EncPost w f.m) := by
  have HBD := Lib.hid (right_bounds h hr)
  obtain ⟨a, ha⟩ : ∃ a : Nat, f.ag = (a : Int) := ⟨f.ag.toNat, by have : (0 : Int) ≤ f.ag := hr.1; omega⟩
  have HAG := Lib.hid ha
  have ha16 : a < 16 := by have : f.ag < 16 := hr.2.1; omega
  have hwa : IntKind.u64.wrap f.ag = (a : Int) := by rw [IntKind.wrap_u64, ha]; omega
  obtain ⟨tot, HT⟩ : ∃ tot, Hid (tot = encB f.m) := ⟨_, rfl⟩
  have HTE : Hid (tot = closed ([2] ++ numsB [a, f.ep] ++ answerB f.m)) := by
    show _ = _
    rw [HT.out]
    unfold encB innerB tailB
    have e1 : f.m.kd = 2 := hk
    have e2 : f.m.ag.toNat = a := by show f.ag.toNat = a; omega
    rw [e1, e2]
    rfl
  have HLN : Hid ((answerB f.m).length ≤ 300000) := by
    have h32 := HBD.out
    show _ ≤ _
    have h1 := numsB_len [f.ic, f.cu, f.li, f.nr] (by intro x hx; simp at hx; rcases hx with rfl | rfl | rfl | rfl; exact h.ic; exact h.cu; exact h.li; unfold two64; omega)
    have h2 := runsB_len f.L h.rs.lt
    have e : answerB f.m = numsB [f.ic, f.cu, f.li, f.nr] ++ runsB f.L := by unfold answerB; have e1 : f.m.L = f.L := rfl; rw [e1, h.rs.len]; rfl
    rw [e, List.length_append]
    rw [h.rs.len] at h2
    simp at h1
    omega
  have hc := rightF_any (w.alloc (Obj.cells #[.int .u8 2, .int .i64 f.ag, .int .u64 (f.ep : Int), .int .u64 (f.ic : Int), .int .u64 (f.ba : Int), .int .u64 (f.cu : Int), .int .u64 (f.li : Int), .slice f.Ar f.nr f.cr, .slice f.Ai f.ni f.ci] 26)) f (h.onA _)
  rw [decP_yes hr] at hc
  have HV : Hid (f.v = .agg #[.int .u8 2, .int .i64 f.ag, .int .u64 (f.ep : Int), .int .u64 (f.ic : Int), .int .u64 (f.ba : Int), .int .u64 (f.cu : Int), .int .u64 (f.li : Int), .slice f.Ar f.nr f.cr, .slice f.Ai f.ni f.ci]) := by show _ = _; unfold Fv.v; rw [hk]; rfl
  rw [HV.out] at hc
  rw [HV.out]
  have HC := Lib.hid hc
  have HFR := Lib.hid h
  have HTB := Lib.hid ht
  have HR := Lib.hid hr
  have HWA := Lib.hid hwa
  clear h hr hc hk ht ha hwa
  go_enter Tryd.func16, Tryd.ntmps16
  go_wp2_with fail
  refine HC.out.mono ?_
  rintro e w2 ⟨rfl, hb⟩
  have hbw : Below w.heap.size w w2 := (below_box w (Obj.cells #[.int .u8 2, .int .i64 f.ag, .int .u64 (f.ep : Int), .int .u64 (f.ic : Int), .int .u64 (f.ba : Int), .int .u64 (f.cu : Int), .int .u64 (f.li : Int), .slice f.Ar f.nr f.cr, .slice f.Ai f.ni f.ci] 26)).trans (hb.mono (by simp))
  have hz2 : w.heap.size < w2.heap.size := Nat.lt_of_lt_of_le (by simp) hb.size
  have hblk := (hb.block w.heap.size (by simp)).trans (heap_alloc_new w (Obj.cells #[.int .u8 2, .int .i64 f.ag, .int .u64 (f.ep : Int), .int .u64 (f.ic : Int), .int .u64 (f.ba : Int), .int .u64 (f.cu : Int), .int .u64 (f.li : Int), .slice f.Ar f.nr f.cr, .slice f.Ai f.ni f.ci] 26))
  have q0 : w2.cell? ⟨w.heap.size, 0, none⟩ = some (.int .u8 2) := by rw [cell_of_row w2 _ 0 _ _ _ hblk]; rfl
  clear HC hb
  go_wp2_with fail
  refine (parts2 w2).mono ?_
  rintro e w3 ⟨rfl, hb3⟩
  have hbw3 : Below w.heap.size w w3 := hbw.trans (hb3.mono hbw.size)
  have hz3 : w.heap.size < w3.heap.size := Nat.lt_of_lt_of_le hz2 hb3.size
  have hblk3 := (hb3.block w.heap.size hz2).trans hblk
  clear hb3 hbw hz2 hblk q0
  go_wp2_with fail
  obtain ⟨g, hg⟩ : ∃ g, g = w.heap.size := ⟨_, rfl⟩
  obtain ⟨g4, hg4⟩ : ∃ g4, g4 = w3.heap.size := ⟨_, rfl⟩
  have hE : Ever (fun w' => (w'.cell? ⟨g, 0, none⟩ = some (.int .u8 2) ∧ w'.cell? ⟨g, 1, none⟩ = some (.int .i64 f.ag) ∧ w'.cell? ⟨g, 2, none⟩ = some (.int .u64 (f.ep : Int)) ∧ w'.cell? ⟨g, 3, none⟩ = some (.int .u64 (f.ic : Int)) ∧ w'.cell? ⟨g, 4, none⟩ = some (.int .u64 (f.ba : Int)) ∧ w'.cell? ⟨g, 5, none⟩ = some (.int .u64 (f.cu : Int)) ∧ w'.cell? ⟨g, 6, none⟩ = some (.int .u64 (f.li : Int)) ∧ w'.cell? ⟨g, 7, none⟩ = some (.slice f.Ar f.nr f.cr) ∧ w'.cell? ⟨g, 8, none⟩ = some (.slice f.Ai f.ni f.ci) ∧ w'.cell? ⟨g4, 2, none⟩ = some (.func (Fn.func 54) #[] #[])) ∧ FrAt w' f ∧ TabAt w' ∧ Below w.heap.size w w') (w3.alloc (Obj.cells #[.string ⟨#[119, 101, 108, 99, 111, 109, 101]⟩, .func (Fn.func 53) #[] #[], .func (Fn.func 54) #[] #[], .func (Fn.func 55) #[] #[]] 66)) := by
    intro w' hw
    have hb : Below w3.heap.size w3 w' := (below_box w3 (Obj.cells #[.string ⟨#[119, 101, 108, 99, 111, 109, 101]⟩, .func (Fn.func 53) #[] #[], .func (Fn.func 54) #[] #[], .func (Fn.func 55) #[] #[]] 66)).trans (hw.mono (by simp))
    have hbb : Below w.heap.size w w' := hbw3.trans (hb.mono hbw3.size)
    have hbk := (hb.block w.heap.size hz3).trans hblk3
    rw [hg, hg4]
    refine ⟨⟨by rw [cell_of_row w' _ 0 _ _ _ hbk]; rfl, by rw [cell_of_row w' _ 1 _ _ _ hbk]; rfl, by rw [cell_of_row w' _ 2 _ _ _ hbk]; rfl, by rw [cell_of_row w' _ 3 _ _ _ hbk]; rfl, by rw [cell_of_row w' _ 4 _ _ _ hbk]; rfl, by rw [cell_of_row w' _ 5 _ _ _ hbk]; rfl, by rw [cell_of_row w' _ 6 _ _ _ hbk]; rfl, by rw [cell_of_row w' _ 7 _ _ _ hbk]; rfl, by rw [cell_of_row w' _ 8 _ _ _ hbk]; rfl, ?_⟩, HFR.out.on hbb, HTB.out.below hbb, hbb⟩
    exact ever_cell (cell_last w3 _ _ _ 2 rfl) _ hw
  rw [← hg, ← hg4]
  have HG := Lib.hid hg
  clear hg hg4
  obtain ⟨Ps, HP⟩ : ∃ Ps : World → Prop, Hid (Ps = fun w' => (w'.cell? ⟨g, 0, none⟩ = some (.int .u8 2) ∧ w'.cell? ⟨g, 1, none⟩ = some (.int .i64 f.ag) ∧ w'.cell? ⟨g, 2, none⟩ = some (.int .u64 (f.ep : Int)) ∧ w'.cell? ⟨g, 3, none⟩ = some (.int .u64 (f.ic : Int)) ∧ w'.cell? ⟨g, 4, none⟩ = some (.int .u64 (f.ba : Int)) ∧ w'.cell? ⟨g, 5, none⟩ = some (.int .u64 (f.cu : Int)) ∧ w'.cell? ⟨g, 6, none⟩ = some (.int .u64 (f.li : Int)) ∧ w'.cell? ⟨g, 7, none⟩ = some (.slice f.Ar f.nr f.cr) ∧ w'.cell? ⟨g, 8, none⟩ = some (.slice f.Ai f.ni f.ci) ∧ w'.cell? ⟨g4, 2, none⟩ = some (.func (Fn.func 54) #[] #[])) ∧ FrAt w' f ∧ TabAt w' ∧ Below w.heap.size w w') := ⟨_, rfl⟩
  have HN : Hid (∀ w', Ps w' → (w'.cell? ⟨g, 0, none⟩ = some (.int .u8 2) ∧ w'.cell? ⟨g, 1, none⟩ = some (.int .i64 f.ag) ∧ w'.cell? ⟨g, 2, none⟩ = some (.int .u64 (f.ep : Int)) ∧ w'.cell? ⟨g, 3, none⟩ = some (.int .u64 (f.ic : Int)) ∧ w'.cell? ⟨g, 4, none⟩ = some (.int .u64 (f.ba : Int)) ∧ w'.cell? ⟨g, 5, none⟩ = some (.int .u64 (f.cu : Int)) ∧ w'.cell? ⟨g, 6, none⟩ = some (.int .u64 (f.li : Int)) ∧ w'.cell? ⟨g, 7, none⟩ = some (.slice f.Ar f.nr f.cr) ∧ w'.cell? ⟨g, 8, none⟩ = some (.slice f.Ai f.ni f.ci) ∧ w'.cell? ⟨g4, 2, none⟩ = some (.func (Fn.func 54) #[] #[])) ∧ FrAt w' f ∧ TabAt w' ∧ Below w.heap.size w w') := by rw [HP.out]; exact fun _ h => h
  replace hE : Ever Ps (w3.alloc (Obj.cells #[.string ⟨#[119, 101, 108, 99, 111, 109, 101]⟩, .func (Fn.func 53) #[] #[], .func (Fn.func 54) #[] #[], .func (Fn.func 55) #[] #[]] 66)) := by rw [HP.out]; exact hE
  clear HP
  have hE2 := hE.drewN 1
  clear hE
  generalize w3.alloc (Obj.cells #[.string ⟨#[119, 101, 108, 99, 111, 109, 101]⟩, .func (Fn.func 53) #[] #[], .func (Fn.func 54) #[] #[], .func (Fn.func 55) #[] #[]] 66) = wc at *
  clear hblk3 hbw3 hz3
  have hwa := HWA.out
  have HBZ : Hid (∀ w', Ps w' → w.heap.size ≤ w'.heap.size) := fun w' h => (HN.out w' h).2.2.2.size
  refine wp_region_noPanic ?_
  refine wp_region_held_drew (S := (fun w' => (w'.cell? ⟨g, 0, none⟩ = some (.int .u8 2) ∧ w'.cell? ⟨g, 1, none⟩ = some (.int .i64 f.ag) ∧ w'.cell? ⟨g, 2, none⟩ = some (.int .u64 (f.ep : Int)) ∧ w'.cell? ⟨g, 3, none⟩ = some (.int .u64 (f.ic : Int)) ∧ w'.cell? ⟨g, 4, none⟩ = some (.int .u64 (f.ba : Int)) ∧ w'.cell? ⟨g, 5, none⟩ = some (.int .u64 (f.cu : Int)) ∧ w'.cell? ⟨g, 6, none⟩ = some (.int .u64 (f.li : Int)) ∧ w'.cell? ⟨g, 7, none⟩ = some (.slice f.Ar f.nr f.cr) ∧ w'.cell? ⟨g, 8, none⟩ = some (.slice f.Ai f.ni f.ci) ∧ w'.cell? ⟨g4, 2, none⟩ = some (.func (Fn.func 54) #[] #[])) ∧ Ever Ps w')) (by kernel_rfl) ⟨(HN.out _ hE2.now).1, hE2⟩ (fun hHeld => ?_)
  refine wpAnyH_take (i := 0) (oi := { dst := some 16, op := Op.fieldAddr 66 (Operand.tmp 4) 2, type := 0, pos := "frame.go:52", after := #[], guard := none }) (v := ?_) rfl (by kernel_rfl) (by kernel_rfl) (by kernel_rfl) (fun _ _ _ h => h) (Or.inl ⟨by rfl, ?_⟩) (by assumption) ?_
  rotate_left
  · intro w hSw; (try dsimp only at hSw); first | (go_simp; done) | (go_simp; with_reducible rfl)
  try simp only [Act.put, List.setIfInBounds_toArray, List.set_cons_zero, List.set_cons_succ]
  refine wpAnyH_take (i := 1) (oi := { dst := some 17, op := Op.load 63 (Operand.tmp 16), type := 63, pos := "frame.go:52", after := #[{ on := 0, ground := Ground.data }], guard := none }) (v := ?_) rfl (by kernel_rfl) (by kernel_rfl) (by kernel_rfl) (fun _ _ _ h => h) (Or.inl ⟨by rfl, ?_⟩) (by assumption) ?_
  rotate_left
  · intro w hSw; (try dsimp only at hSw); first | (go_simp; done) | (go_simp; with_reducible rfl)
  try simp only [Act.put, List.setIfInBounds_toArray, List.set_cons_zero, List.set_cons_succ]
  refine wpAnyH_take (i := 2) (oi := { dst := some 18, op := Op.load 26 (Operand.tmp 1), type := 26, pos := "frame.go:52", after := #[], guard := none }) (v := ?_) rfl (by kernel_rfl) (by kernel_rfl) (by kernel_rfl) (fun _ _ _ h => h) (Or.inl ⟨by rfl, ?_⟩) (by assumption) ?_
  rotate_left
  · intro w hSw; (try dsimp only at hSw); first | (go_simp; done) | (go_simp; with_reducible rfl)
  try simp only [Act.put, List.setIfInBounds_toArray, List.set_cons_zero, List.set_cons_succ]
  refine wpAnyH_take (i := 3) (oi := { dst := some 19, op := Op.fieldAddr 26 (Operand.tmp 1) 0, type := 0, pos := "frame.go:52", after := #[], guard := none }) (v := ?_) rfl (by kernel_rfl) (by kernel_rfl) (by kernel_rfl) (fun _ _ _ h => h) (Or.inl ⟨by rfl, ?_⟩) (by assumption) ?_
  rotate_left
  · intro w hSw; (try dsimp only at hSw); first | (go_simp; done) | (go_simp; with_reducible rfl)
  try simp only [Act.put, List.setIfInBounds_toArray, List.set_cons_zero, List.set_cons_succ]
  refine wpAnyH_take (i := 4) (oi := { dst := some 20, op := Op.load 5 (Operand.tmp 19), type := 5, pos := "frame.go:52", after := #[{ on := 3, ground := Ground.data }], guard := none }) (v := ?_) rfl (by kernel_rfl) (by kernel_rfl) (by kernel_rfl) (fun _ _ _ h => h) (Or.inl ⟨by rfl, ?_⟩) (by assumption) ?_
  rotate_left
  · intro w hSw; (try dsimp only at hSw); first | (go_simp; done) | (go_simp; with_reducible rfl)
  try simp only [Act.put, List.setIfInBounds_toArray, List.set_cons_zero, List.set_cons_succ]
  refine wpAnyH_take (i := 6) (oi := { dst := some 22, op := Op.fieldAddr 26 (Operand.tmp 1) 1, type := 0, pos := "frame.go:52", after := #[], guard := none }) (v := ?_) rfl (by kernel_rfl) (by kernel_rfl) (by kernel_rfl) (fun _ _ _ h => h) (Or.inl ⟨by rfl, ?_⟩) (by assumption) ?_
  rotate_left
  · intro w hSw; (try dsimp only at hSw); first | (go_simp; done) | (go_simp; with_reducible rfl)
  try simp only [Act.put, List.setIfInBounds_toArray, List.set_cons_zero, List.set_cons_succ]
  refine wpAnyH_take (i := 7) (oi := { dst := some 23, op := Op.load 3 (Operand.tmp 22), type := 3, pos := "frame.go:52", after := #[{ on := 6, ground := Ground.data }], guard := none }) (v := ?_) rfl (by kernel_rfl) (by kernel_rfl) (by kernel_rfl) (fun _ _ _ h => h) (Or.inl ⟨by rfl, ?_⟩) (by assumption) ?_
  rotate_left
  · intro w hSw; (try dsimp only at hSw); first | (go_simp; done) | (go_simp; with_reducible rfl)
  try simp only [Act.put, List.setIfInBounds_toArray, List.set_cons_zero, List.set_cons_succ]
  refine wpAnyH_take (i := 8) (oi := { dst := some 24, op := Op.convert 3 22 (Operand.tmp 23), type := 22, pos := "frame.go:52", after := #[{ on := 7, ground := Ground.data }], guard := none }) (v := ?_) rfl (by kernel_rfl) (by kernel_rfl) (by kernel_rfl) (fun _ _ _ h => h) (Or.inl ⟨by rfl, ?_⟩) (by assumption) ?_
  rotate_left
  · intro w hSw; (try dsimp only at hSw); first | (go_simp; done) | (go_simp; with_reducible rfl)
  try simp only [Act.put, List.setIfInBounds_toArray, List.set_cons_zero, List.set_cons_succ]
  refine wpAnyH_take (i := 9) (oi := { dst := some 25, op := Op.fieldAddr 26 (Operand.tmp 1) 2, type := 0, pos := "frame.go:52", after := #[], guard := none }) (v := ?_) rfl (by kernel_rfl) (by kernel_rfl) (by kernel_rfl) (fun _ _ _ h => h) (Or.inl ⟨by rfl, ?_⟩) (by assumption) ?_
  rotate_left
  · intro w hSw; (try dsimp only at hSw); first | (go_simp; done) | (go_simp; with_reducible rfl)
  try simp only [Act.put, List.setIfInBounds_toArray, List.set_cons_zero, List.set_cons_succ]
  refine wpAnyH_take (i := 10) (oi := { dst := some 26, op := Op.load 22 (Operand.tmp 25), type := 22, pos := "frame.go:52", after := #[{ on := 9, ground := Ground.data }], guard := none }) (v := ?_) rfl (by kernel_rfl) (by kernel_rfl) (by kernel_rfl) (fun _ _ _ h => h) (Or.inl ⟨by rfl, ?_⟩) (by assumption) ?_
  rotate_left
  · intro w hSw; (try dsimp only at hSw); first | (go_simp; done) | (go_simp; with_reducible rfl)
  try simp only [Act.put, List.setIfInBounds_toArray, List.set_cons_zero, List.set_cons_succ]
  refine wpAnyH_ready (rs := [5, 11]) (by kernel_rfl) (by simp) ?_
  refine (AllReadyH.cons (o := { dst := some 21, op := Op.buildSlice 37 1 #[(0, Operand.tmp 20)], type := 37, pos := "frame.go:52", after := #[{ on := 4, ground := Ground.data }], guard := none }) rfl (fun K hK => ?_) (AllReadyH.cons (o := { dst := some 27, op := Op.buildSlice 107 2 #[(0, Operand.tmp 24), (1, Operand.tmp 26)], type := 107, pos := "frame.go:52", after := #[{ on := 8, ground := Ground.data }, { on := 10, ground := Ground.data }], guard := none }) rfl (fun K hK => ?_) AllReadyH.nil))
  · go_simp
    refine absK (Q := fun w' => Ever Ps w' ∧ Sl w' w'.heap.size (some ⟨wc.heap.size, 0, none⟩) 1 1 [2]) ⟨hE2.alloc _, kind_litd wc _ rfl⟩ ?_
    clear hE2
    rintro wa ⟨hE2, h5⟩
    go_wp2_with fail
    clear hHeld
    refine hK.out _ _ ⟨(HN.out _ hE2.now).1, hE2⟩ (fun hHeld => ?_)
    clear hK K
    try simp only [Act.put, List.setIfInBounds_toArray, List.set_cons_zero, List.set_cons_succ]
    refine wpAnyH_ready (rs := [11]) (by kernel_rfl) (by simp) ?_
    refine (AllReadyH.cons (o := { dst := some 27, op := Op.buildSlice 107 2 #[(0, Operand.tmp 24), (1, Operand.tmp 26)], type := 107, pos := "frame.go:52", after := #[{ on := 8, ground := Ground.data }, { on := 10, ground := Ground.data }], guard := none }) rfl (fun K hK => ?_) AllReadyH.nil)
    go_simp
    refine absK (Q := fun w' => Ever Ps w' ∧ Sl w' w'.heap.size (some ⟨wc.heap.size, 0, none⟩) 1 1 [2] ∧ Sn w' w'.heap.size (some ⟨wa.heap.size, 0, none⟩) 2 2 1 (u64s [a, f.ep])) ⟨hE2.alloc _, h5.onA _, u64_lit2 wa _ a f.ep⟩ ?_
    clear hE2 h5
    rintro wa2 ⟨hE2, h5, h11⟩
    go_wp2_with fail
    clear hHeld
    refine hK.out _ _ ⟨(HN.out _ hE2.now).1, hE2⟩ (fun hHeld => ?_)
    clear hK K
    try simp only [Act.put, List.setIfInBounds_toArray, List.set_cons_zero, List.set_cons_succ]
    refine wpAnyH_ready (rs := [12]) (by kernel_rfl) (by simp) ?_
    refine (AllReadyH.cons (o := { dst := some 28, op := Op.call { callee := Callee.value (Operand.func 35), args := #[Operand.tmp 21, Operand.tmp 27], argTypes := #[37, 107] }, type := 37, pos := "frame.go:52", after := #[{ on := 5, ground := Ground.data }, { on := 11, ground := Ground.data }], guard := none }) rfl (fun K hK => ?_) AllReadyH.nil)
    go_simp
    go_at_call 35
    have hlts : ∀ x ∈ [a, f.ep], x < two64 := by
      intro x hx
      simp at hx
      rcases hx with rfl | rfl
      · unfold two64; omega
      · exact HFR.out.ep
    refine (nums_any _ _ _ 1 1 2 2 [2] [a, f.ep] h5 h11 hlts (by simp) (by simp)).mono ?_
    rintro e wn ⟨An, nn, cn, rfl, hown, hbn⟩
    have hlen : ([2] ++ numsB [a, f.ep]).length ≤ 1000 := by
      have := numsB_len [a, f.ep] hlts
      rw [List.length_append]
      simp at this ⊢
      omega
    replace hE2 := hE2.next hbn
    clear h5 h11 hbn hlts
    go_wp2_with fail
    clear hHeld
    refine hK.out _ _ ⟨(HN.out _ hE2.now).1, hE2⟩ (fun hHeld => ?_)
    clear hK K
    try simp only [Act.put, List.setIfInBounds_toArray, List.set_cons_zero, List.set_cons_succ]
    refine wpAnyH_ready (rs := [13]) (by kernel_rfl) (by simp) ?_
    refine (AllReadyH.cons (o := { dst := some 29, op := Op.call { callee := Callee.value (Operand.tmp 17), args := #[Operand.tmp 18, Operand.tmp 28], argTypes := #[26, 37] }, type := 37, pos := "frame.go:52", after := #[{ on := 1, ground := Ground.data }, { on := 2, ground := Ground.data }, { on := 12, ground := Ground.data }, { on := 12, ground := Ground.chain }], guard := none }) rfl (fun K hK => ?_) AllReadyH.nil)
    go_simp
    go_at_call 54
    have hput := putAnswer_any wn f (HN.out _ hE2.now).2.1 An nn cn _ (Sl.of_own hown) hlen HBD.out.1
    rw [HV.out] at hput
    refine hput.mono ?_
    rintro e wp ⟨Ap, np, cp, rfl, hownp, hbp⟩
    have hown2 := hownp
    replace hE2 := hE2.next hbp
    clear hput hown hbp hownp
    go_wp2_with fail
    clear hHeld
    refine hK.out _ _ ⟨(HN.out _ hE2.now).1, hE2⟩ (fun hHeld => ?_)
    clear hK K
    try simp only [Act.put, List.setIfInBounds_toArray, List.set_cons_zero, List.set_cons_succ]
    refine wpAnyH_ready (rs := [14]) (by kernel_rfl) (by simp) ?_
    refine (AllReadyH.cons (o := { dst := some 30, op := Op.call { callee := Callee.value (Operand.func 34), args := #[Operand.tmp 29], argTypes := #[37] }, type := 37, pos := "frame.go:52", after := #[{ on := 13, ground := Ground.data }, { on := 13, ground := Ground.chain }], guard := none }) rfl (fun K hK => ?_) AllReadyH.nil)
    go_simp
    go_at_call 34
    have hl2 : ([2] ++ numsB [a, f.ep] ++ answerB f.m).length ≤ 1000000 := by rw [List.length_append]; have := HLN.out; omega
    refine (close_any wp Ap np cp _ (HN.out _ hE2.now).2.2.1 (Sl.of_own hown2) hl2).mono ?_
    rintro e wq ⟨Aq, nq, cq, rfl, hownq, hbq⟩
    rw [← HTE.out] at hownq
    have HZ := Lib.hid (HBZ.out _ hE2.now)
    replace hE2 := hE2.next hbq
    have HOQ := Lib.hid (own_lower hownq HZ.out)
    clear hown2 hbq hownq hl2 hlen
    go_wp2_with fail
    clear hHeld
    refine hK.out _ _ ⟨(HN.out _ hE2.now).1, hE2⟩ (fun hHeld => ?_)
    clear hK K
    try simp only [Act.put, List.setIfInBounds_toArray, List.set_cons_zero, List.set_cons_succ]
    refine wpAnyH_take (i := 15) (oi := { dst := some 6, op := Op.assign (Operand.tmp 30), type := 37, pos := "frame.go:52", after := #[{ on := 14, ground := Ground.data }, { on := 14, ground := Ground.chain }, { on := 0, ground := Ground.phase }, { on := 1, ground := Ground.phase }, { on := 2, ground := Ground.phase }, { on := 3, ground := Ground.phase }, { on := 4, ground := Ground.phase }, { on := 5, ground := Ground.phase }, { on := 6, ground := Ground.phase }, { on := 7, ground := Ground.phase }, { on := 8, ground := Ground.phase }, { on := 9, ground := Ground.phase }, { on := 10, ground := Ground.phase }, { on := 11, ground := Ground.phase }, { on := 12, ground := Ground.phase }, { on := 13, ground := Ground.phase }, { on := 14, ground := Ground.phase }], guard := none }) (v := ?_) rfl (by kernel_rfl) (by kernel_rfl) (by kernel_rfl) (fun _ _ _ h => h) (Or.inl ⟨by rfl, ?_⟩) (by assumption) ?_
    rotate_left
    · intro w hSw; (try dsimp only at hSw); first | (go_simp; done) | (go_simp; with_reducible rfl)
    try simp only [Act.put, List.setIfInBounds_toArray, List.set_cons_zero, List.set_cons_succ]
    refine wpAnyH_done (by kernel_rfl) ?_ _
    refine NoPanic.normal ?_
    have hbf := (HN.out _ hE2.now).2.2.2
    have hnq : nq = tot.length := by have := (Sl.of_own HOQ.out).len; omega
    have HNQ := Lib.hid hnq
    have HBF := Lib.hid hbf
    clear hHeld hE2 hnq hbf
    by_cases hlong : 65507 < nq
    · have hlI : (65507 : Int) < (nq : Int) := by omega
      have HLG := Lib.hid hlong; clear hlong
      go_wp2
      go_ret2
      exact .inr (.inl ⟨HR.out, by rw [← HT.out, ← HNQ.out]; exact HLG.out, rfl, HBF.out⟩)
    · have hlI : ¬ (65507 : Int) < (nq : Int) := by omega
      have HLG := Lib.hid hlong; clear hlong
      go_wp2
      go_ret2
      refine .inr (.inr ⟨HR.out, by rw [← HT.out, ← HNQ.out]; have := HLG.out; omega, Aq, nq, cq, rfl, ?_, HBF.out⟩)
      rw [← HT.out]
      exact HOQ.out
  · go_simp
    refine absK (Q := fun w' => Ever Ps w' ∧ Sn w' w'.heap.size (some ⟨wc.heap.size, 0, none⟩) 2 2 1 (u64s [a, f.ep])) ⟨hE2.alloc _, u64_lit2d wc _ a f.ep⟩ ?_
    clear hE2
    rintro wa ⟨hE2, h11⟩
    go_wp2_with fail
    clear hHeld
    refine hK.out _ _ ⟨(HN.out _ hE2.now).1, hE2⟩ (fun hHeld => ?_)
    clear hK K
    try simp only [Act.put, List.setIfInBounds_toArray, List.set_cons_zero, List.set_cons_succ]
    refine wpAnyH_ready (rs := [5]) (by kernel_rfl) (by simp) ?_
    refine (AllReadyH.cons (o := { dst := some 21, op := Op.buildSlice 37 1 #[(0, Operand.tmp 20)], type := 37, pos := "frame.go:52", after := #[{ on := 4, ground := Ground.data }], guard := none }) rfl (fun K hK => ?_) AllReadyH.nil)
    go_simp
    refine absK (Q := fun w' => Ever Ps w' ∧ Sl w' w'.heap.size (some ⟨wa.heap.size, 0, none⟩) 1 1 [2] ∧ Sn w' w'.heap.size (some ⟨wc.heap.size, 0, none⟩) 2 2 1 (u64s [a, f.ep])) ⟨hE2.alloc _, kind_lit wa _ rfl, h11.onA _⟩ ?_
    clear hE2 h11
    rintro wa2 ⟨hE2, h5, h11⟩
    go_wp2_with fail
    clear hHeld
    refine hK.out _ _ ⟨(HN.out _ hE2.now).1, hE2⟩ (fun hHeld => ?_)
    clear hK K
    try simp only [Act.put, List.setIfInBounds_toArray, List.set_cons_zero, List.set_cons_succ]
    refine wpAnyH_ready (rs := [12]) (by kernel_rfl) (by simp) ?_
    refine (AllReadyH.cons (o := { dst := some 28, op := Op.call { callee := Callee.value (Operand.func 35), args := #[Operand.tmp 21, Operand.tmp 27], argTypes := #[37, 107] }, type := 37, pos := "frame.go:52", after := #[{ on := 5, ground := Ground.data }, { on := 11, ground := Ground.data }], guard := none }) rfl (fun K hK => ?_) AllReadyH.nil)
    go_simp
    go_at_call 35
    have hlts : ∀ x ∈ [a, f.ep], x < two64 := by
      intro x hx
      simp at hx
      rcases hx with rfl | rfl
      · unfold two64; omega
      · exact HFR.out.ep
    refine (nums_any _ _ _ 1 1 2 2 [2] [a, f.ep] h5 h11 hlts (by simp) (by simp)).mono ?_
    rintro e wn ⟨An, nn, cn, rfl, hown, hbn⟩
    have hlen : ([2] ++ numsB [a, f.ep]).length ≤ 1000 := by
      have := numsB_len [a, f.ep] hlts
      rw [List.length_append]
      simp at this ⊢
      omega
    replace hE2 := hE2.next hbn
    clear h5 h11 hbn hlts
    go_wp2_with fail
    clear hHeld
    refine hK.out _ _ ⟨(HN.out _ hE2.now).1, hE2⟩ (fun hHeld => ?_)
    clear hK K
    try simp only [Act.put, List.setIfInBounds_toArray, List.set_cons_zero, List.set_cons_succ]
    refine wpAnyH_ready (rs := [13]) (by kernel_rfl) (by simp) ?_
    refine (AllReadyH.cons (o := { dst := some 29, op := Op.call { callee := Callee.value (Operand.tmp 17), args := #[Operand.tmp 18, Operand.tmp 28], argTypes := #[26, 37] }, type := 37, pos := "frame.go:52", after := #[{ on := 1, ground := Ground.data }, { on := 2, ground := Ground.data }, { on := 12, ground := Ground.data }, { on := 12, ground := Ground.chain }], guard := none }) rfl (fun K hK => ?_) AllReadyH.nil)
    go_simp
    go_at_call 54
    have hput := putAnswer_any wn f (HN.out _ hE2.now).2.1 An nn cn _ (Sl.of_own hown) hlen HBD.out.1
    rw [HV.out] at hput
    refine hput.mono ?_
    rintro e wp ⟨Ap, np, cp, rfl, hownp, hbp⟩
    have hown2 := hownp
    replace hE2 := hE2.next hbp
    clear hput hown hbp hownp
    go_wp2_with fail
    clear hHeld
    refine hK.out _ _ ⟨(HN.out _ hE2.now).1, hE2⟩ (fun hHeld => ?_)
    clear hK K
    try simp only [Act.put, List.setIfInBounds_toArray, List.set_cons_zero, List.set_cons_succ]
    refine wpAnyH_ready (rs := [14]) (by kernel_rfl) (by simp) ?_
    refine (AllReadyH.cons (o := { dst := some 30, op := Op.call { callee := Callee.value (Operand.func 34), args := #[Operand.tmp 29], argTypes := #[37] }, type := 37, pos := "frame.go:52", after := #[{ on := 13, ground := Ground.data }, { on := 13, ground := Ground.chain }], guard := none }) rfl (fun K hK => ?_) AllReadyH.nil)
    go_simp
    go_at_call 34
    have hl2 : ([2] ++ numsB [a, f.ep] ++ answerB f.m).length ≤ 1000000 := by rw [List.length_append]; have := HLN.out; omega
    refine (close_any wp Ap np cp _ (HN.out _ hE2.now).2.2.1 (Sl.of_own hown2) hl2).mono ?_
    rintro e wq ⟨Aq, nq, cq, rfl, hownq, hbq⟩
    rw [← HTE.out] at hownq
    have HZ := Lib.hid (HBZ.out _ hE2.now)
    replace hE2 := hE2.next hbq
    have HOQ := Lib.hid (own_lower hownq HZ.out)
    clear hown2 hbq hownq hl2 hlen
    go_wp2_with fail
    clear hHeld
    refine hK.out _ _ ⟨(HN.out _ hE2.now).1, hE2⟩ (fun hHeld => ?_)
    clear hK K
    try simp only [Act.put, List.setIfInBounds_toArray, List.set_cons_zero, List.set_cons_succ]
    refine wpAnyH_take (i := 15) (oi := { dst := some 6, op := Op.assign (Operand.tmp 30), type := 37, pos := "frame.go:52", after := #[{ on := 14, ground := Ground.data }, { on := 14, ground := Ground.chain }, { on := 0, ground := Ground.phase }, { on := 1, ground := Ground.phase }, { on := 2, ground := Ground.phase }, { on := 3, ground := Ground.phase }, { on := 4, ground := Ground.phase }, { on := 5, ground := Ground.phase }, { on := 6, ground := Ground.phase }, { on := 7, ground := Ground.phase }, { on := 8, ground := Ground.phase }, { on := 9, ground := Ground.phase }, { on := 10, ground := Ground.phase }, { on := 11, ground := Ground.phase }, { on := 12, ground := Ground.phase }, { on := 13, ground := Ground.phase }, { on := 14, ground := Ground.phase }], guard := none }) (v := ?_) rfl (by kernel_rfl) (by kernel_rfl) (by kernel_rfl) (fun _ _ _ h => h) (Or.inl ⟨by rfl, ?_⟩) (by assumption) ?_
    rotate_left
    · intro w hSw; (try dsimp only at hSw); first | (go_simp; done) | (go_simp; with_reducible rfl)
    try simp only [Act.put, List.setIfInBounds_toArray, List.set_cons_zero, List.set_cons_succ]
    refine wpAnyH_done (by kernel_rfl) ?_ _
    refine NoPanic.normal ?_
    have hbf := (HN.out _ hE2.now).2.2.2
    have hnq : nq = tot.length := by have := (Sl.of_own HOQ.out).len; omega
    have HNQ := Lib.hid hnq
    have HBF := Lib.hid hbf
    clear hHeld hE2 hnq hbf
    by_cases hlong : 65507 < nq
    · have hlI : (65507 : Int) < (nq : Int) := by omega
      have HLG := Lib.hid hlong; clear hlong
      go_wp2
      go_ret2
      exact .inr (.inl ⟨HR.out, by rw [← HT.out, ← HNQ.out]; exact HLG.out, rfl, HBF.out⟩)
    · have hlI : ¬ (65507 : Int) < (nq : Int) := by omega
      have HLG := Lib.hid hlong; clear hlong
      go_wp2
      go_ret2
      refine .inr (.inr ⟨HR.out, by rw [← HT.out, ← HNQ.out]; have := HLG.out; omega, Aq, nq, cq, rfl, ?_, HBF.out⟩)
      rw [← HT.out]
      exact HOQ.out

set_option maxRecDepth 100000 in
set_option maxHeartbeats 2000000 in
theorem encode3_any (w : World) (ht : TabAt w) (f : Fv) (h : FrAt w f) (hr : RightP f.m) (hk : f.kd = 3) :
    Calls Tryd.prog 16 #[f.v] w (EncPost w f.m) := by
  have HBD := Lib.hid (right_bounds h hr)
  obtain ⟨a, ha⟩ : ∃ a : Nat, f.ag = (a : Int) := ⟨f.ag.toNat, by have : (0 : Int) ≤ f.ag := hr.1; omega⟩
  have HAG := Lib.hid ha
  have ha16 : a < 16 := by have : f.ag < 16 := hr.2.1; omega
  have hwa : IntKind.u64.wrap f.ag = (a : Int) := by rw [IntKind.wrap_u64, ha]; omega
  obtain ⟨tot, HT⟩ : ∃ tot, Hid (tot = encB f.m) := ⟨_, rfl⟩
  have HTE : Hid (tot = closed ([3] ++ numsB [a, f.ep] ++ batchB f.m)) := by
    show _ = _
    rw [HT.out]
    unfold encB innerB tailB
    have e1 : f.m.kd = 3 := hk
    have e2 : f.m.ag.toNat = a := by show f.ag.toNat = a; omega
    rw [e1, e2]
    rfl
  have HLN : Hid ((batchB f.m).length ≤ 300000) := by
    have h32 := HBD.out
    show _ ≤ _
    have h1 := numsB_len [f.ic, f.ba, f.ni] (by intro x hx; simp at hx; rcases hx with rfl | rfl | rfl; exact h.ic; exact h.ba; unfold two64; omega)
    have h2 := itsB_bound (f.ks.map Ik.it) (by intro x hx; obtain ⟨y, hy, rfl⟩ := List.mem_map.1 hx; exact ⟨(h.it.sl y hy).2, h32.2.2 y hy⟩)
    have e : batchB f.m = numsB [f.ic, f.ba, f.ni] ++ itsB (f.ks.map Ik.it) := by unfold batchB; have e1 : f.m.its = f.ks.map Ik.it := rfl; rw [e1, List.length_map, h.it.len]; rfl
    rw [e, List.length_append]
    rw [List.length_map, h.it.len] at h2
    simp at h1
    omega
  have hc := rightF_any (w.alloc (Obj.cells #[.int .u8 3, .int .i64 f.ag, .int .u64 (f.ep : Int), .int .u64 (f.ic : Int), .int .u64 (f.ba : Int), .int .u64 (f.cu : Int), .int .u64 (f.li : Int), .slice f.Ar f.nr f.cr, .slice f.Ai f.ni f.ci] 26)) f (h.onA _)
  rw [decP_yes hr] at hc
  have HV : Hid (f.v = .agg #[.int .u8 3, .int .i64 f.ag, .int .u64 (f.ep : Int), .int .u64 (f.ic : Int), .int .u64 (f.ba : Int), .int .u64 (f.cu : Int), .int .u64 (f.li : Int), .slice f.Ar f.nr f.cr, .slice f.Ai f.ni f.ci]) := by show _ = _; unfold Fv.v; rw [hk]; rfl
  rw [HV.out] at hc
  rw [HV.out]
  have HC := Lib.hid hc
  have HFR := Lib.hid h
  have HTB := Lib.hid ht
  have HR := Lib.hid hr
  have HWA := Lib.hid hwa
  clear h hr hc hk ht ha hwa
  go_enter Tryd.func16, Tryd.ntmps16
  go_wp2_with fail
  refine HC.out.mono ?_
  rintro e w2 ⟨rfl, hb⟩
  have hbw : Below w.heap.size w w2 := (below_box w (Obj.cells #[.int .u8 3, .int .i64 f.ag, .int .u64 (f.ep : Int), .int .u64 (f.ic : Int), .int .u64 (f.ba : Int), .int .u64 (f.cu : Int), .int .u64 (f.li : Int), .slice f.Ar f.nr f.cr, .slice f.Ai f.ni f.ci] 26)).trans (hb.mono (by simp))
  have hz2 : w.heap.size < w2.heap.size := Nat.lt_of_lt_of_le (by simp) hb.size
  have hblk := (hb.block w.heap.size (by simp)).trans (heap_alloc_new w (Obj.cells #[.int .u8 3, .int .i64 f.ag, .int .u64 (f.ep : Int), .int .u64 (f.ic : Int), .int .u64 (f.ba : Int), .int .u64 (f.cu : Int), .int .u64 (f.li : Int), .slice f.Ar f.nr f.cr, .slice f.Ai f.ni f.ci] 26))
  have q0 : w2.cell? ⟨w.heap.size, 0, none⟩ = some (.int .u8 3) := by rw [cell_of_row w2 _ 0 _ _ _ hblk]; rfl
  clear HC hb
  go_wp2_with fail
  refine (parts3 w2).mono ?_
  rintro e w3 ⟨rfl, hb3⟩
  have hbw3 : Below w.heap.size w w3 := hbw.trans (hb3.mono hbw.size)
  have hz3 : w.heap.size < w3.heap.size := Nat.lt_of_lt_of_le hz2 hb3.size
  have hblk3 := (hb3.block w.heap.size hz2).trans hblk
  clear hb3 hbw hz2 hblk q0
  go_wp2_with fail
  obtain ⟨g, hg⟩ : ∃ g, g = w.heap.size := ⟨_, rfl⟩
  obtain ⟨g4, hg4⟩ : ∃ g4, g4 = w3.heap.size := ⟨_, rfl⟩
  have hE : Ever (fun w' => (w'.cell? ⟨g, 0, none⟩ = some (.int .u8 3) ∧ w'.cell? ⟨g, 1, none⟩ = some (.int .i64 f.ag) ∧ w'.cell? ⟨g, 2, none⟩ = some (.int .u64 (f.ep : Int)) ∧ w'.cell? ⟨g, 3, none⟩ = some (.int .u64 (f.ic : Int)) ∧ w'.cell? ⟨g, 4, none⟩ = some (.int .u64 (f.ba : Int)) ∧ w'.cell? ⟨g, 5, none⟩ = some (.int .u64 (f.cu : Int)) ∧ w'.cell? ⟨g, 6, none⟩ = some (.int .u64 (f.li : Int)) ∧ w'.cell? ⟨g, 7, none⟩ = some (.slice f.Ar f.nr f.cr) ∧ w'.cell? ⟨g, 8, none⟩ = some (.slice f.Ai f.ni f.ci) ∧ w'.cell? ⟨g4, 2, none⟩ = some (.func (Fn.func 57) #[] #[])) ∧ FrAt w' f ∧ TabAt w' ∧ Below w.heap.size w w') (w3.alloc (Obj.cells #[.string ⟨#[98, 97, 116, 99, 104]⟩, .func (Fn.func 56) #[] #[], .func (Fn.func 57) #[] #[], .func (Fn.func 58) #[] #[]] 66)) := by
    intro w' hw
    have hb : Below w3.heap.size w3 w' := (below_box w3 (Obj.cells #[.string ⟨#[98, 97, 116, 99, 104]⟩, .func (Fn.func 56) #[] #[], .func (Fn.func 57) #[] #[], .func (Fn.func 58) #[] #[]] 66)).trans (hw.mono (by simp))
    have hbb : Below w.heap.size w w' := hbw3.trans (hb.mono hbw3.size)
    have hbk := (hb.block w.heap.size hz3).trans hblk3
    rw [hg, hg4]
    refine ⟨⟨by rw [cell_of_row w' _ 0 _ _ _ hbk]; rfl, by rw [cell_of_row w' _ 1 _ _ _ hbk]; rfl, by rw [cell_of_row w' _ 2 _ _ _ hbk]; rfl, by rw [cell_of_row w' _ 3 _ _ _ hbk]; rfl, by rw [cell_of_row w' _ 4 _ _ _ hbk]; rfl, by rw [cell_of_row w' _ 5 _ _ _ hbk]; rfl, by rw [cell_of_row w' _ 6 _ _ _ hbk]; rfl, by rw [cell_of_row w' _ 7 _ _ _ hbk]; rfl, by rw [cell_of_row w' _ 8 _ _ _ hbk]; rfl, ?_⟩, HFR.out.on hbb, HTB.out.below hbb, hbb⟩
    exact ever_cell (cell_last w3 _ _ _ 2 rfl) _ hw
  rw [← hg, ← hg4]
  have HG := Lib.hid hg
  clear hg hg4
  obtain ⟨Ps, HP⟩ : ∃ Ps : World → Prop, Hid (Ps = fun w' => (w'.cell? ⟨g, 0, none⟩ = some (.int .u8 3) ∧ w'.cell? ⟨g, 1, none⟩ = some (.int .i64 f.ag) ∧ w'.cell? ⟨g, 2, none⟩ = some (.int .u64 (f.ep : Int)) ∧ w'.cell? ⟨g, 3, none⟩ = some (.int .u64 (f.ic : Int)) ∧ w'.cell? ⟨g, 4, none⟩ = some (.int .u64 (f.ba : Int)) ∧ w'.cell? ⟨g, 5, none⟩ = some (.int .u64 (f.cu : Int)) ∧ w'.cell? ⟨g, 6, none⟩ = some (.int .u64 (f.li : Int)) ∧ w'.cell? ⟨g, 7, none⟩ = some (.slice f.Ar f.nr f.cr) ∧ w'.cell? ⟨g, 8, none⟩ = some (.slice f.Ai f.ni f.ci) ∧ w'.cell? ⟨g4, 2, none⟩ = some (.func (Fn.func 57) #[] #[])) ∧ FrAt w' f ∧ TabAt w' ∧ Below w.heap.size w w') := ⟨_, rfl⟩
  have HN : Hid (∀ w', Ps w' → (w'.cell? ⟨g, 0, none⟩ = some (.int .u8 3) ∧ w'.cell? ⟨g, 1, none⟩ = some (.int .i64 f.ag) ∧ w'.cell? ⟨g, 2, none⟩ = some (.int .u64 (f.ep : Int)) ∧ w'.cell? ⟨g, 3, none⟩ = some (.int .u64 (f.ic : Int)) ∧ w'.cell? ⟨g, 4, none⟩ = some (.int .u64 (f.ba : Int)) ∧ w'.cell? ⟨g, 5, none⟩ = some (.int .u64 (f.cu : Int)) ∧ w'.cell? ⟨g, 6, none⟩ = some (.int .u64 (f.li : Int)) ∧ w'.cell? ⟨g, 7, none⟩ = some (.slice f.Ar f.nr f.cr) ∧ w'.cell? ⟨g, 8, none⟩ = some (.slice f.Ai f.ni f.ci) ∧ w'.cell? ⟨g4, 2, none⟩ = some (.func (Fn.func 57) #[] #[])) ∧ FrAt w' f ∧ TabAt w' ∧ Below w.heap.size w w') := by rw [HP.out]; exact fun _ h => h
  replace hE : Ever Ps (w3.alloc (Obj.cells #[.string ⟨#[98, 97, 116, 99, 104]⟩, .func (Fn.func 56) #[] #[], .func (Fn.func 57) #[] #[], .func (Fn.func 58) #[] #[]] 66)) := by rw [HP.out]; exact hE
  clear HP
  have hE2 := hE.drewN 1
  clear hE
  generalize w3.alloc (Obj.cells #[.string ⟨#[98, 97, 116, 99, 104]⟩, .func (Fn.func 56) #[] #[], .func (Fn.func 57) #[] #[], .func (Fn.func 58) #[] #[]] 66) = wc at *
  clear hblk3 hbw3 hz3
  have hwa := HWA.out
  have HBZ : Hid (∀ w', Ps w' → w.heap.size ≤ w'.heap.size) := fun w' h => (HN.out w' h).2.2.2.size
  refine wp_region_noPanic ?_
  refine wp_region_held_drew (S := (fun w' => (w'.cell? ⟨g, 0, none⟩ = some (.int .u8 3) ∧ w'.cell? ⟨g, 1, none⟩ = some (.int .i64 f.ag) ∧ w'.cell? ⟨g, 2, none⟩ = some (.int .u64 (f.ep : Int)) ∧ w'.cell? ⟨g, 3, none⟩ = some (.int .u64 (f.ic : Int)) ∧ w'.cell? ⟨g, 4, none⟩ = some (.int .u64 (f.ba : Int)) ∧ w'.cell? ⟨g, 5, none⟩ = some (.int .u64 (f.cu : Int)) ∧ w'.cell? ⟨g, 6, none⟩ = some (.int .u64 (f.li : Int)) ∧ w'.cell? ⟨g, 7, none⟩ = some (.slice f.Ar f.nr f.cr) ∧ w'.cell? ⟨g, 8, none⟩ = some (.slice f.Ai f.ni f.ci) ∧ w'.cell? ⟨g4, 2, none⟩ = some (.func (Fn.func 57) #[] #[])) ∧ Ever Ps w')) (by kernel_rfl) ⟨(HN.out _ hE2.now).1, hE2⟩ (fun hHeld => ?_)
  refine wpAnyH_take (i := 0) (oi := { dst := some 16, op := Op.fieldAddr 66 (Operand.tmp 4) 2, type := 0, pos := "frame.go:52", after := #[], guard := none }) (v := ?_) rfl (by kernel_rfl) (by kernel_rfl) (by kernel_rfl) (fun _ _ _ h => h) (Or.inl ⟨by rfl, ?_⟩) (by assumption) ?_
  rotate_left
  · intro w hSw; (try dsimp only at hSw); first | (go_simp; done) | (go_simp; with_reducible rfl)
  try simp only [Act.put, List.setIfInBounds_toArray, List.set_cons_zero, List.set_cons_succ]
  refine wpAnyH_take (i := 1) (oi := { dst := some 17, op := Op.load 63 (Operand.tmp 16), type := 63, pos := "frame.go:52", after := #[{ on := 0, ground := Ground.data }], guard := none }) (v := ?_) rfl (by kernel_rfl) (by kernel_rfl) (by kernel_rfl) (fun _ _ _ h => h) (Or.inl ⟨by rfl, ?_⟩) (by assumption) ?_
  rotate_left
  · intro w hSw; (try dsimp only at hSw); first | (go_simp; done) | (go_simp; with_reducible rfl)
  try simp only [Act.put, List.setIfInBounds_toArray, List.set_cons_zero, List.set_cons_succ]
  refine wpAnyH_take (i := 2) (oi := { dst := some 18, op := Op.load 26 (Operand.tmp 1), type := 26, pos := "frame.go:52", after := #[], guard := none }) (v := ?_) rfl (by kernel_rfl) (by kernel_rfl) (by kernel_rfl) (fun _ _ _ h => h) (Or.inl ⟨by rfl, ?_⟩) (by assumption) ?_
  rotate_left
  · intro w hSw; (try dsimp only at hSw); first | (go_simp; done) | (go_simp; with_reducible rfl)
  try simp only [Act.put, List.setIfInBounds_toArray, List.set_cons_zero, List.set_cons_succ]
  refine wpAnyH_take (i := 3) (oi := { dst := some 19, op := Op.fieldAddr 26 (Operand.tmp 1) 0, type := 0, pos := "frame.go:52", after := #[], guard := none }) (v := ?_) rfl (by kernel_rfl) (by kernel_rfl) (by kernel_rfl) (fun _ _ _ h => h) (Or.inl ⟨by rfl, ?_⟩) (by assumption) ?_
  rotate_left
  · intro w hSw; (try dsimp only at hSw); first | (go_simp; done) | (go_simp; with_reducible rfl)
  try simp only [Act.put, List.setIfInBounds_toArray, List.set_cons_zero, List.set_cons_succ]
  refine wpAnyH_take (i := 4) (oi := { dst := some 20, op := Op.load 5 (Operand.tmp 19), type := 5, pos := "frame.go:52", after := #[{ on := 3, ground := Ground.data }], guard := none }) (v := ?_) rfl (by kernel_rfl) (by kernel_rfl) (by kernel_rfl) (fun _ _ _ h => h) (Or.inl ⟨by rfl, ?_⟩) (by assumption) ?_
  rotate_left
  · intro w hSw; (try dsimp only at hSw); first | (go_simp; done) | (go_simp; with_reducible rfl)
  try simp only [Act.put, List.setIfInBounds_toArray, List.set_cons_zero, List.set_cons_succ]
  refine wpAnyH_take (i := 6) (oi := { dst := some 22, op := Op.fieldAddr 26 (Operand.tmp 1) 1, type := 0, pos := "frame.go:52", after := #[], guard := none }) (v := ?_) rfl (by kernel_rfl) (by kernel_rfl) (by kernel_rfl) (fun _ _ _ h => h) (Or.inl ⟨by rfl, ?_⟩) (by assumption) ?_
  rotate_left
  · intro w hSw; (try dsimp only at hSw); first | (go_simp; done) | (go_simp; with_reducible rfl)
  try simp only [Act.put, List.setIfInBounds_toArray, List.set_cons_zero, List.set_cons_succ]
  refine wpAnyH_take (i := 7) (oi := { dst := some 23, op := Op.load 3 (Operand.tmp 22), type := 3, pos := "frame.go:52", after := #[{ on := 6, ground := Ground.data }], guard := none }) (v := ?_) rfl (by kernel_rfl) (by kernel_rfl) (by kernel_rfl) (fun _ _ _ h => h) (Or.inl ⟨by rfl, ?_⟩) (by assumption) ?_
  rotate_left
  · intro w hSw; (try dsimp only at hSw); first | (go_simp; done) | (go_simp; with_reducible rfl)
  try simp only [Act.put, List.setIfInBounds_toArray, List.set_cons_zero, List.set_cons_succ]
  refine wpAnyH_take (i := 8) (oi := { dst := some 24, op := Op.convert 3 22 (Operand.tmp 23), type := 22, pos := "frame.go:52", after := #[{ on := 7, ground := Ground.data }], guard := none }) (v := ?_) rfl (by kernel_rfl) (by kernel_rfl) (by kernel_rfl) (fun _ _ _ h => h) (Or.inl ⟨by rfl, ?_⟩) (by assumption) ?_
  rotate_left
  · intro w hSw; (try dsimp only at hSw); first | (go_simp; done) | (go_simp; with_reducible rfl)
  try simp only [Act.put, List.setIfInBounds_toArray, List.set_cons_zero, List.set_cons_succ]
  refine wpAnyH_take (i := 9) (oi := { dst := some 25, op := Op.fieldAddr 26 (Operand.tmp 1) 2, type := 0, pos := "frame.go:52", after := #[], guard := none }) (v := ?_) rfl (by kernel_rfl) (by kernel_rfl) (by kernel_rfl) (fun _ _ _ h => h) (Or.inl ⟨by rfl, ?_⟩) (by assumption) ?_
  rotate_left
  · intro w hSw; (try dsimp only at hSw); first | (go_simp; done) | (go_simp; with_reducible rfl)
  try simp only [Act.put, List.setIfInBounds_toArray, List.set_cons_zero, List.set_cons_succ]
  refine wpAnyH_take (i := 10) (oi := { dst := some 26, op := Op.load 22 (Operand.tmp 25), type := 22, pos := "frame.go:52", after := #[{ on := 9, ground := Ground.data }], guard := none }) (v := ?_) rfl (by kernel_rfl) (by kernel_rfl) (by kernel_rfl) (fun _ _ _ h => h) (Or.inl ⟨by rfl, ?_⟩) (by assumption) ?_
  rotate_left
  · intro w hSw; (try dsimp only at hSw); first | (go_simp; done) | (go_simp; with_reducible rfl)
  try simp only [Act.put, List.setIfInBounds_toArray, List.set_cons_zero, List.set_cons_succ]
  refine wpAnyH_ready (rs := [5, 11]) (by kernel_rfl) (by simp) ?_
  refine (AllReadyH.cons (o := { dst := some 21, op := Op.buildSlice 37 1 #[(0, Operand.tmp 20)], type := 37, pos := "frame.go:52", after := #[{ on := 4, ground := Ground.data }], guard := none }) rfl (fun K hK => ?_) (AllReadyH.cons (o := { dst := some 27, op := Op.buildSlice 107 2 #[(0, Operand.tmp 24), (1, Operand.tmp 26)], type := 107, pos := "frame.go:52", after := #[{ on := 8, ground := Ground.data }, { on := 10, ground := Ground.data }], guard := none }) rfl (fun K hK => ?_) AllReadyH.nil))
  · go_simp
    refine absK (Q := fun w' => Ever Ps w' ∧ Sl w' w'.heap.size (some ⟨wc.heap.size, 0, none⟩) 1 1 [3]) ⟨hE2.alloc _, kind_litd wc _ rfl⟩ ?_
    clear hE2
    rintro wa ⟨hE2, h5⟩
    go_wp2_with fail
    clear hHeld
    refine hK.out _ _ ⟨(HN.out _ hE2.now).1, hE2⟩ (fun hHeld => ?_)
    clear hK K
    try simp only [Act.put, List.setIfInBounds_toArray, List.set_cons_zero, List.set_cons_succ]
    refine wpAnyH_ready (rs := [11]) (by kernel_rfl) (by simp) ?_
    refine (AllReadyH.cons (o := { dst := some 27, op := Op.buildSlice 107 2 #[(0, Operand.tmp 24), (1, Operand.tmp 26)], type := 107, pos := "frame.go:52", after := #[{ on := 8, ground := Ground.data }, { on := 10, ground := Ground.data }], guard := none }) rfl (fun K hK => ?_) AllReadyH.nil)
    go_simp
    refine absK (Q := fun w' => Ever Ps w' ∧ Sl w' w'.heap.size (some ⟨wc.heap.size, 0, none⟩) 1 1 [3] ∧ Sn w' w'.heap.size (some ⟨wa.heap.size, 0, none⟩) 2 2 1 (u64s [a, f.ep])) ⟨hE2.alloc _, h5.onA _, u64_lit2 wa _ a f.ep⟩ ?_
    clear hE2 h5
    rintro wa2 ⟨hE2, h5, h11⟩
    go_wp2_with fail
    clear hHeld
    refine hK.out _ _ ⟨(HN.out _ hE2.now).1, hE2⟩ (fun hHeld => ?_)
    clear hK K
    try simp only [Act.put, List.setIfInBounds_toArray, List.set_cons_zero, List.set_cons_succ]
    refine wpAnyH_ready (rs := [12]) (by kernel_rfl) (by simp) ?_
    refine (AllReadyH.cons (o := { dst := some 28, op := Op.call { callee := Callee.value (Operand.func 35), args := #[Operand.tmp 21, Operand.tmp 27], argTypes := #[37, 107] }, type := 37, pos := "frame.go:52", after := #[{ on := 5, ground := Ground.data }, { on := 11, ground := Ground.data }], guard := none }) rfl (fun K hK => ?_) AllReadyH.nil)
    go_simp
    go_at_call 35
    have hlts : ∀ x ∈ [a, f.ep], x < two64 := by
      intro x hx
      simp at hx
      rcases hx with rfl | rfl
      · unfold two64; omega
      · exact HFR.out.ep
    refine (nums_any _ _ _ 1 1 2 2 [3] [a, f.ep] h5 h11 hlts (by simp) (by simp)).mono ?_
    rintro e wn ⟨An, nn, cn, rfl, hown, hbn⟩
    have hlen : ([3] ++ numsB [a, f.ep]).length ≤ 1000 := by
      have := numsB_len [a, f.ep] hlts
      rw [List.length_append]
      simp at this ⊢
      omega
    replace hE2 := hE2.next hbn
    clear h5 h11 hbn hlts
    go_wp2_with fail
    clear hHeld
    refine hK.out _ _ ⟨(HN.out _ hE2.now).1, hE2⟩ (fun hHeld => ?_)
    clear hK K
    try simp only [Act.put, List.setIfInBounds_toArray, List.set_cons_zero, List.set_cons_succ]
    refine wpAnyH_ready (rs := [13]) (by kernel_rfl) (by simp) ?_
    refine (AllReadyH.cons (o := { dst := some 29, op := Op.call { callee := Callee.value (Operand.tmp 17), args := #[Operand.tmp 18, Operand.tmp 28], argTypes := #[26, 37] }, type := 37, pos := "frame.go:52", after := #[{ on := 1, ground := Ground.data }, { on := 2, ground := Ground.data }, { on := 12, ground := Ground.data }, { on := 12, ground := Ground.chain }], guard := none }) rfl (fun K hK => ?_) AllReadyH.nil)
    go_simp
    go_at_call 57
    have hput := putBatch_any wn f (HN.out _ hE2.now).2.1 An nn cn _ (Sl.of_own hown) hlen HBD.out.2.1 HBD.out.2.2
    rw [HV.out] at hput
    refine hput.mono ?_
    rintro e wp ⟨Ap, np, cp, rfl, hownp, hbp⟩
    have hown2 := hownp
    replace hE2 := hE2.next hbp
    clear hput hown hbp hownp
    go_wp2_with fail
    clear hHeld
    refine hK.out _ _ ⟨(HN.out _ hE2.now).1, hE2⟩ (fun hHeld => ?_)
    clear hK K
    try simp only [Act.put, List.setIfInBounds_toArray, List.set_cons_zero, List.set_cons_succ]
    refine wpAnyH_ready (rs := [14]) (by kernel_rfl) (by simp) ?_
    refine (AllReadyH.cons (o := { dst := some 30, op := Op.call { callee := Callee.value (Operand.func 34), args := #[Operand.tmp 29], argTypes := #[37] }, type := 37, pos := "frame.go:52", after := #[{ on := 13, ground := Ground.data }, { on := 13, ground := Ground.chain }], guard := none }) rfl (fun K hK => ?_) AllReadyH.nil)
    go_simp
    go_at_call 34
    have hl2 : ([3] ++ numsB [a, f.ep] ++ batchB f.m).length ≤ 1000000 := by rw [List.length_append]; have := HLN.out; omega
    refine (close_any wp Ap np cp _ (HN.out _ hE2.now).2.2.1 (Sl.of_own hown2) hl2).mono ?_
    rintro e wq ⟨Aq, nq, cq, rfl, hownq, hbq⟩
    rw [← HTE.out] at hownq
    have HZ := Lib.hid (HBZ.out _ hE2.now)
    replace hE2 := hE2.next hbq
    have HOQ := Lib.hid (own_lower hownq HZ.out)
    clear hown2 hbq hownq hl2 hlen
    go_wp2_with fail
    clear hHeld
    refine hK.out _ _ ⟨(HN.out _ hE2.now).1, hE2⟩ (fun hHeld => ?_)
    clear hK K
    try simp only [Act.put, List.setIfInBounds_toArray, List.set_cons_zero, List.set_cons_succ]
    refine wpAnyH_take (i := 15) (oi := { dst := some 6, op := Op.assign (Operand.tmp 30), type := 37, pos := "frame.go:52", after := #[{ on := 14, ground := Ground.data }, { on := 14, ground := Ground.chain }, { on := 0, ground := Ground.phase }, { on := 1, ground := Ground.phase }, { on := 2, ground := Ground.phase }, { on := 3, ground := Ground.phase }, { on := 4, ground := Ground.phase }, { on := 5, ground := Ground.phase }, { on := 6, ground := Ground.phase }, { on := 7, ground := Ground.phase }, { on := 8, ground := Ground.phase }, { on := 9, ground := Ground.phase }, { on := 10, ground := Ground.phase }, { on := 11, ground := Ground.phase }, { on := 12, ground := Ground.phase }, { on := 13, ground := Ground.phase }, { on := 14, ground := Ground.phase }], guard := none }) (v := ?_) rfl (by kernel_rfl) (by kernel_rfl) (by kernel_rfl) (fun _ _ _ h => h) (Or.inl ⟨by rfl, ?_⟩) (by assumption) ?_
    rotate_left
    · intro w hSw; (try dsimp only at hSw); first | (go_simp; done) | (go_simp; with_reducible rfl)
    try simp only [Act.put, List.setIfInBounds_toArray, List.set_cons_zero, List.set_cons_succ]
    refine wpAnyH_done (by kernel_rfl) ?_ _
    refine NoPanic.normal ?_
    have hbf := (HN.out _ hE2.now).2.2.2
    have hnq : nq = tot.length := by have := (Sl.of_own HOQ.out).len; omega
    have HNQ := Lib.hid hnq
    have HBF := Lib.hid hbf
    clear hHeld hE2 hnq hbf
    by_cases hlong : 65507 < nq
    · have hlI : (65507 : Int) < (nq : Int) := by omega
      have HLG := Lib.hid hlong; clear hlong
      go_wp2
      go_ret2
      exact .inr (.inl ⟨HR.out, by rw [← HT.out, ← HNQ.out]; exact HLG.out, rfl, HBF.out⟩)
    · have hlI : ¬ (65507 : Int) < (nq : Int) := by omega
      have HLG := Lib.hid hlong; clear hlong
      go_wp2
      go_ret2
      refine .inr (.inr ⟨HR.out, by rw [← HT.out, ← HNQ.out]; have := HLG.out; omega, Aq, nq, cq, rfl, ?_, HBF.out⟩)
      rw [← HT.out]
      exact HOQ.out
  · go_simp
    refine absK (Q := fun w' => Ever Ps w' ∧ Sn w' w'.heap.size (some ⟨wc.heap.size, 0, none⟩) 2 2 1 (u64s [a, f.ep])) ⟨hE2.alloc _, u64_lit2d wc _ a f.ep⟩ ?_
    clear hE2
    rintro wa ⟨hE2, h11⟩
    go_wp2_with fail
    clear hHeld
    refine hK.out _ _ ⟨(HN.out _ hE2.now).1, hE2⟩ (fun hHeld => ?_)
    clear hK K
    try simp only [Act.put, List.setIfInBounds_toArray, List.set_cons_zero, List.set_cons_succ]
    refine wpAnyH_ready (rs := [5]) (by kernel_rfl) (by simp) ?_
    refine (AllReadyH.cons (o := { dst := some 21, op := Op.buildSlice 37 1 #[(0, Operand.tmp 20)], type := 37, pos := "frame.go:52", after := #[{ on := 4, ground := Ground.data }], guard := none }) rfl (fun K hK => ?_) AllReadyH.nil)
    go_simp
    refine absK (Q := fun w' => Ever Ps w' ∧ Sl w' w'.heap.size (some ⟨wa.heap.size, 0, none⟩) 1 1 [3] ∧ Sn w' w'.heap.size (some ⟨wc.heap.size, 0, none⟩) 2 2 1 (u64s [a, f.ep])) ⟨hE2.alloc _, kind_lit wa _ rfl, h11.onA _⟩ ?_
    clear hE2 h11
    rintro wa2 ⟨hE2, h5, h11⟩
    go_wp2_with fail
    clear hHeld
    refine hK.out _ _ ⟨(HN.out _ hE2.now).1, hE2⟩ (fun hHeld => ?_)
    clear hK K
    try simp only [Act.put, List.setIfInBounds_toArray, List.set_cons_zero, List.set_cons_succ]
    refine wpAnyH_ready (rs := [12]) (by kernel_rfl) (by simp) ?_
    refine (AllReadyH.cons (o := { dst := some 28, op := Op.call { callee := Callee.value (Operand.func 35), args := #[Operand.tmp 21, Operand.tmp 27], argTypes := #[37, 107] }, type := 37, pos := "frame.go:52", after := #[{ on := 5, ground := Ground.data }, { on := 11, ground := Ground.data }], guard := none }) rfl (fun K hK => ?_) AllReadyH.nil)
    go_simp
    go_at_call 35
    have hlts : ∀ x ∈ [a, f.ep], x < two64 := by
      intro x hx
      simp at hx
      rcases hx with rfl | rfl
      · unfold two64; omega
      · exact HFR.out.ep
    refine (nums_any _ _ _ 1 1 2 2 [3] [a, f.ep] h5 h11 hlts (by simp) (by simp)).mono ?_
    rintro e wn ⟨An, nn, cn, rfl, hown, hbn⟩
    have hlen : ([3] ++ numsB [a, f.ep]).length ≤ 1000 := by
      have := numsB_len [a, f.ep] hlts
      rw [List.length_append]
      simp at this ⊢
      omega
    replace hE2 := hE2.next hbn
    clear h5 h11 hbn hlts
    go_wp2_with fail
    clear hHeld
    refine hK.out _ _ ⟨(HN.out _ hE2.now).1, hE2⟩ (fun hHeld => ?_)
    clear hK K
    try simp only [Act.put, List.setIfInBounds_toArray, List.set_cons_zero, List.set_cons_succ]
    refine wpAnyH_ready (rs := [13]) (by kernel_rfl) (by simp) ?_
    refine (AllReadyH.cons (o := { dst := some 29, op := Op.call { callee := Callee.value (Operand.tmp 17), args := #[Operand.tmp 18, Operand.tmp 28], argTypes := #[26, 37] }, type := 37, pos := "frame.go:52", after := #[{ on := 1, ground := Ground.data }, { on := 2, ground := Ground.data }, { on := 12, ground := Ground.data }, { on := 12, ground := Ground.chain }], guard := none }) rfl (fun K hK => ?_) AllReadyH.nil)
    go_simp
    go_at_call 57
    have hput := putBatch_any wn f (HN.out _ hE2.now).2.1 An nn cn _ (Sl.of_own hown) hlen HBD.out.2.1 HBD.out.2.2
    rw [HV.out] at hput
    refine hput.mono ?_
    rintro e wp ⟨Ap, np, cp, rfl, hownp, hbp⟩
    have hown2 := hownp
    replace hE2 := hE2.next hbp
    clear hput hown hbp hownp
    go_wp2_with fail
    clear hHeld
    refine hK.out _ _ ⟨(HN.out _ hE2.now).1, hE2⟩ (fun hHeld => ?_)
    clear hK K
    try simp only [Act.put, List.setIfInBounds_toArray, List.set_cons_zero, List.set_cons_succ]
    refine wpAnyH_ready (rs := [14]) (by kernel_rfl) (by simp) ?_
    refine (AllReadyH.cons (o := { dst := some 30, op := Op.call { callee := Callee.value (Operand.func 34), args := #[Operand.tmp 29], argTypes := #[37] }, type := 37, pos := "frame.go:52", after := #[{ on := 13, ground := Ground.data }, { on := 13, ground := Ground.chain }], guard := none }) rfl (fun K hK => ?_) AllReadyH.nil)
    go_simp
    go_at_call 34
    have hl2 : ([3] ++ numsB [a, f.ep] ++ batchB f.m).length ≤ 1000000 := by rw [List.length_append]; have := HLN.out; omega
    refine (close_any wp Ap np cp _ (HN.out _ hE2.now).2.2.1 (Sl.of_own hown2) hl2).mono ?_
    rintro e wq ⟨Aq, nq, cq, rfl, hownq, hbq⟩
    rw [← HTE.out] at hownq
    have HZ := Lib.hid (HBZ.out _ hE2.now)
    replace hE2 := hE2.next hbq
    have HOQ := Lib.hid (own_lower hownq HZ.out)
    clear hown2 hbq hownq hl2 hlen
    go_wp2_with fail
    clear hHeld
    refine hK.out _ _ ⟨(HN.out _ hE2.now).1, hE2⟩ (fun hHeld => ?_)
    clear hK K
    try simp only [Act.put, List.setIfInBounds_toArray, List.set_cons_zero, List.set_cons_succ]
    refine wpAnyH_take (i := 15) (oi := { dst := some 6, op := Op.assign (Operand.tmp 30), type := 37, pos := "frame.go:52", after := #[{ on := 14, ground := Ground.data }, { on := 14, ground := Ground.chain }, { on := 0, ground := Ground.phase }, { on := 1, ground := Ground.phase }, { on := 2, ground := Ground.phase }, { on := 3, ground := Ground.phase }, { on := 4, ground := Ground.phase }, { on := 5, ground := Ground.phase }, { on := 6, ground := Ground.phase }, { on := 7, ground := Ground.phase }, { on := 8, ground := Ground.phase }, { on := 9, ground := Ground.phase }, { on := 10, ground := Ground.phase }, { on := 11, ground := Ground.phase }, { on := 12, ground := Ground.phase }, { on := 13, ground := Ground.phase }, { on := 14, ground := Ground.phase }], guard := none }) (v := ?_) rfl (by kernel_rfl) (by kernel_rfl) (by kernel_rfl) (fun _ _ _ h => h) (Or.inl ⟨by rfl, ?_⟩) (by assumption) ?_
    rotate_left
    · intro w hSw; (try dsimp only at hSw); first | (go_simp; done) | (go_simp; with_reducible rfl)
    try simp only [Act.put, List.setIfInBounds_toArray, List.set_cons_zero, List.set_cons_succ]
    refine wpAnyH_done (by kernel_rfl) ?_ _
    refine NoPanic.normal ?_
    have hbf := (HN.out _ hE2.now).2.2.2
    have hnq : nq = tot.length := by have := (Sl.of_own HOQ.out).len; omega
    have HNQ := Lib.hid hnq
    have HBF := Lib.hid hbf
    clear hHeld hE2 hnq hbf
    by_cases hlong : 65507 < nq
    · have hlI : (65507 : Int) < (nq : Int) := by omega
      have HLG := Lib.hid hlong; clear hlong
      go_wp2
      go_ret2
      exact .inr (.inl ⟨HR.out, by rw [← HT.out, ← HNQ.out]; exact HLG.out, rfl, HBF.out⟩)
    · have hlI : ¬ (65507 : Int) < (nq : Int) := by omega
      have HLG := Lib.hid hlong; clear hlong
      go_wp2
      go_ret2
      refine .inr (.inr ⟨HR.out, by rw [← HT.out, ← HNQ.out]; have := HLG.out; omega, Aq, nq, cq, rfl, ?_, HBF.out⟩)
      rw [← HT.out]
      exact HOQ.out

set_option maxRecDepth 100000 in
set_option maxHeartbeats 2000000 in
theorem encode4_any (w : World) (ht : TabAt w) (f : Fv) (h : FrAt w f) (hr : RightP f.m) (hk : f.kd = 4) :
    Calls Tryd.prog 16 #[f.v] w (EncPost w f.m) := by
  have HBD := Lib.hid (right_bounds h hr)
  obtain ⟨a, ha⟩ : ∃ a : Nat, f.ag = (a : Int) := ⟨f.ag.toNat, by have : (0 : Int) ≤ f.ag := hr.1; omega⟩
  have HAG := Lib.hid ha
  have ha16 : a < 16 := by have : f.ag < 16 := hr.2.1; omega
  have hwa : IntKind.u64.wrap f.ag = (a : Int) := by rw [IntKind.wrap_u64, ha]; omega
  obtain ⟨tot, HT⟩ : ∃ tot, Hid (tot = encB f.m) := ⟨_, rfl⟩
  have HTE : Hid (tot = closed ([4] ++ numsB [a, f.ep] ++ answerB f.m)) := by
    show _ = _
    rw [HT.out]
    unfold encB innerB tailB
    have e1 : f.m.kd = 4 := hk
    have e2 : f.m.ag.toNat = a := by show f.ag.toNat = a; omega
    rw [e1, e2]
    rfl
  have HLN : Hid ((answerB f.m).length ≤ 300000) := by
    have h32 := HBD.out
    show _ ≤ _
    have h1 := numsB_len [f.ic, f.cu, f.li, f.nr] (by intro x hx; simp at hx; rcases hx with rfl | rfl | rfl | rfl; exact h.ic; exact h.cu; exact h.li; unfold two64; omega)
    have h2 := runsB_len f.L h.rs.lt
    have e : answerB f.m = numsB [f.ic, f.cu, f.li, f.nr] ++ runsB f.L := by unfold answerB; have e1 : f.m.L = f.L := rfl; rw [e1, h.rs.len]; rfl
    rw [e, List.length_append]
    rw [h.rs.len] at h2
    simp at h1
    omega
  have hc := rightF_any (w.alloc (Obj.cells #[.int .u8 4, .int .i64 f.ag, .int .u64 (f.ep : Int), .int .u64 (f.ic : Int), .int .u64 (f.ba : Int), .int .u64 (f.cu : Int), .int .u64 (f.li : Int), .slice f.Ar f.nr f.cr, .slice f.Ai f.ni f.ci] 26)) f (h.onA _)
  rw [decP_yes hr] at hc
  have HV : Hid (f.v = .agg #[.int .u8 4, .int .i64 f.ag, .int .u64 (f.ep : Int), .int .u64 (f.ic : Int), .int .u64 (f.ba : Int), .int .u64 (f.cu : Int), .int .u64 (f.li : Int), .slice f.Ar f.nr f.cr, .slice f.Ai f.ni f.ci]) := by show _ = _; unfold Fv.v; rw [hk]; rfl
  rw [HV.out] at hc
  rw [HV.out]
  have HC := Lib.hid hc
  have HFR := Lib.hid h
  have HTB := Lib.hid ht
  have HR := Lib.hid hr
  have HWA := Lib.hid hwa
  clear h hr hc hk ht ha hwa
  go_enter Tryd.func16, Tryd.ntmps16
  go_wp2_with fail
  refine HC.out.mono ?_
  rintro e w2 ⟨rfl, hb⟩
  have hbw : Below w.heap.size w w2 := (below_box w (Obj.cells #[.int .u8 4, .int .i64 f.ag, .int .u64 (f.ep : Int), .int .u64 (f.ic : Int), .int .u64 (f.ba : Int), .int .u64 (f.cu : Int), .int .u64 (f.li : Int), .slice f.Ar f.nr f.cr, .slice f.Ai f.ni f.ci] 26)).trans (hb.mono (by simp))
  have hz2 : w.heap.size < w2.heap.size := Nat.lt_of_lt_of_le (by simp) hb.size
  have hblk := (hb.block w.heap.size (by simp)).trans (heap_alloc_new w (Obj.cells #[.int .u8 4, .int .i64 f.ag, .int .u64 (f.ep : Int), .int .u64 (f.ic : Int), .int .u64 (f.ba : Int), .int .u64 (f.cu : Int), .int .u64 (f.li : Int), .slice f.Ar f.nr f.cr, .slice f.Ai f.ni f.ci] 26))
  have q0 : w2.cell? ⟨w.heap.size, 0, none⟩ = some (.int .u8 4) := by rw [cell_of_row w2 _ 0 _ _ _ hblk]; rfl
  clear HC hb
  go_wp2_with fail
  refine (parts4 w2).mono ?_
  rintro e w3 ⟨rfl, hb3⟩
  have hbw3 : Below w.heap.size w w3 := hbw.trans (hb3.mono hbw.size)
  have hz3 : w.heap.size < w3.heap.size := Nat.lt_of_lt_of_le hz2 hb3.size
  have hblk3 := (hb3.block w.heap.size hz2).trans hblk
  clear hb3 hbw hz2 hblk q0
  go_wp2_with fail
  obtain ⟨g, hg⟩ : ∃ g, g = w.heap.size := ⟨_, rfl⟩
  obtain ⟨g4, hg4⟩ : ∃ g4, g4 = w3.heap.size := ⟨_, rfl⟩
  have hE : Ever (fun w' => (w'.cell? ⟨g, 0, none⟩ = some (.int .u8 4) ∧ w'.cell? ⟨g, 1, none⟩ = some (.int .i64 f.ag) ∧ w'.cell? ⟨g, 2, none⟩ = some (.int .u64 (f.ep : Int)) ∧ w'.cell? ⟨g, 3, none⟩ = some (.int .u64 (f.ic : Int)) ∧ w'.cell? ⟨g, 4, none⟩ = some (.int .u64 (f.ba : Int)) ∧ w'.cell? ⟨g, 5, none⟩ = some (.int .u64 (f.cu : Int)) ∧ w'.cell? ⟨g, 6, none⟩ = some (.int .u64 (f.li : Int)) ∧ w'.cell? ⟨g, 7, none⟩ = some (.slice f.Ar f.nr f.cr) ∧ w'.cell? ⟨g, 8, none⟩ = some (.slice f.Ai f.ni f.ci) ∧ w'.cell? ⟨g4, 2, none⟩ = some (.func (Fn.func 54) #[] #[])) ∧ FrAt w' f ∧ TabAt w' ∧ Below w.heap.size w w') (w3.alloc (Obj.cells #[.string ⟨#[97, 99, 107]⟩, .func (Fn.func 53) #[] #[], .func (Fn.func 54) #[] #[], .func (Fn.func 55) #[] #[]] 66)) := by
    intro w' hw
    have hb : Below w3.heap.size w3 w' := (below_box w3 (Obj.cells #[.string ⟨#[97, 99, 107]⟩, .func (Fn.func 53) #[] #[], .func (Fn.func 54) #[] #[], .func (Fn.func 55) #[] #[]] 66)).trans (hw.mono (by simp))
    have hbb : Below w.heap.size w w' := hbw3.trans (hb.mono hbw3.size)
    have hbk := (hb.block w.heap.size hz3).trans hblk3
    rw [hg, hg4]
    refine ⟨⟨by rw [cell_of_row w' _ 0 _ _ _ hbk]; rfl, by rw [cell_of_row w' _ 1 _ _ _ hbk]; rfl, by rw [cell_of_row w' _ 2 _ _ _ hbk]; rfl, by rw [cell_of_row w' _ 3 _ _ _ hbk]; rfl, by rw [cell_of_row w' _ 4 _ _ _ hbk]; rfl, by rw [cell_of_row w' _ 5 _ _ _ hbk]; rfl, by rw [cell_of_row w' _ 6 _ _ _ hbk]; rfl, by rw [cell_of_row w' _ 7 _ _ _ hbk]; rfl, by rw [cell_of_row w' _ 8 _ _ _ hbk]; rfl, ?_⟩, HFR.out.on hbb, HTB.out.below hbb, hbb⟩
    exact ever_cell (cell_last w3 _ _ _ 2 rfl) _ hw
  rw [← hg, ← hg4]
  have HG := Lib.hid hg
  clear hg hg4
  obtain ⟨Ps, HP⟩ : ∃ Ps : World → Prop, Hid (Ps = fun w' => (w'.cell? ⟨g, 0, none⟩ = some (.int .u8 4) ∧ w'.cell? ⟨g, 1, none⟩ = some (.int .i64 f.ag) ∧ w'.cell? ⟨g, 2, none⟩ = some (.int .u64 (f.ep : Int)) ∧ w'.cell? ⟨g, 3, none⟩ = some (.int .u64 (f.ic : Int)) ∧ w'.cell? ⟨g, 4, none⟩ = some (.int .u64 (f.ba : Int)) ∧ w'.cell? ⟨g, 5, none⟩ = some (.int .u64 (f.cu : Int)) ∧ w'.cell? ⟨g, 6, none⟩ = some (.int .u64 (f.li : Int)) ∧ w'.cell? ⟨g, 7, none⟩ = some (.slice f.Ar f.nr f.cr) ∧ w'.cell? ⟨g, 8, none⟩ = some (.slice f.Ai f.ni f.ci) ∧ w'.cell? ⟨g4, 2, none⟩ = some (.func (Fn.func 54) #[] #[])) ∧ FrAt w' f ∧ TabAt w' ∧ Below w.heap.size w w') := ⟨_, rfl⟩
  have HN : Hid (∀ w', Ps w' → (w'.cell? ⟨g, 0, none⟩ = some (.int .u8 4) ∧ w'.cell? ⟨g, 1, none⟩ = some (.int .i64 f.ag) ∧ w'.cell? ⟨g, 2, none⟩ = some (.int .u64 (f.ep : Int)) ∧ w'.cell? ⟨g, 3, none⟩ = some (.int .u64 (f.ic : Int)) ∧ w'.cell? ⟨g, 4, none⟩ = some (.int .u64 (f.ba : Int)) ∧ w'.cell? ⟨g, 5, none⟩ = some (.int .u64 (f.cu : Int)) ∧ w'.cell? ⟨g, 6, none⟩ = some (.int .u64 (f.li : Int)) ∧ w'.cell? ⟨g, 7, none⟩ = some (.slice f.Ar f.nr f.cr) ∧ w'.cell? ⟨g, 8, none⟩ = some (.slice f.Ai f.ni f.ci) ∧ w'.cell? ⟨g4, 2, none⟩ = some (.func (Fn.func 54) #[] #[])) ∧ FrAt w' f ∧ TabAt w' ∧ Below w.heap.size w w') := by rw [HP.out]; exact fun _ h => h
  replace hE : Ever Ps (w3.alloc (Obj.cells #[.string ⟨#[97, 99, 107]⟩, .func (Fn.func 53) #[] #[], .func (Fn.func 54) #[] #[], .func (Fn.func 55) #[] #[]] 66)) := by rw [HP.out]; exact hE
  clear HP
  have hE2 := hE.drewN 1
  clear hE
  generalize w3.alloc (Obj.cells #[.string ⟨#[97, 99, 107]⟩, .func (Fn.func 53) #[] #[], .func (Fn.func 54) #[] #[], .func (Fn.func 55) #[] #[]] 66) = wc at *
  clear hblk3 hbw3 hz3
  have hwa := HWA.out
  have HBZ : Hid (∀ w', Ps w' → w.heap.size ≤ w'.heap.size) := fun w' h => (HN.out w' h).2.2.2.size
  refine wp_region_noPanic ?_
  refine wp_region_held_drew (S := (fun w' => (w'.cell? ⟨g, 0, none⟩ = some (.int .u8 4) ∧ w'.cell? ⟨g, 1, none⟩ = some (.int .i64 f.ag) ∧ w'.cell? ⟨g, 2, none⟩ = some (.int .u64 (f.ep : Int)) ∧ w'.cell? ⟨g, 3, none⟩ = some (.int .u64 (f.ic : Int)) ∧ w'.cell? ⟨g, 4, none⟩ = some (.int .u64 (f.ba : Int)) ∧ w'.cell? ⟨g, 5, none⟩ = some (.int .u64 (f.cu : Int)) ∧ w'.cell? ⟨g, 6, none⟩ = some (.int .u64 (f.li : Int)) ∧ w'.cell? ⟨g, 7, none⟩ = some (.slice f.Ar f.nr f.cr) ∧ w'.cell? ⟨g, 8, none⟩ = some (.slice f.Ai f.ni f.ci) ∧ w'.cell? ⟨g4, 2, none⟩ = some (.func (Fn.func 54) #[] #[])) ∧ Ever Ps w')) (by kernel_rfl) ⟨(HN.out _ hE2.now).1, hE2⟩ (fun hHeld => ?_)
  refine wpAnyH_take (i := 0) (oi := { dst := some 16, op := Op.fieldAddr 66 (Operand.tmp 4) 2, type := 0, pos := "frame.go:52", after := #[], guard := none }) (v := ?_) rfl (by kernel_rfl) (by kernel_rfl) (by kernel_rfl) (fun _ _ _ h => h) (Or.inl ⟨by rfl, ?_⟩) (by assumption) ?_
  rotate_left
  · intro w hSw; (try dsimp only at hSw); first | (go_simp; done) | (go_simp; with_reducible rfl)
  try simp only [Act.put, List.setIfInBounds_toArray, List.set_cons_zero, List.set_cons_succ]
  refine wpAnyH_take (i := 1) (oi := { dst := some 17, op := Op.load 63 (Operand.tmp 16), type := 63, pos := "frame.go:52", after := #[{ on := 0, ground := Ground.data }], guard := none }) (v := ?_) rfl (by kernel_rfl) (by kernel_rfl) (by kernel_rfl) (fun _ _ _ h => h) (Or.inl ⟨by rfl, ?_⟩) (by assumption) ?_
  rotate_left
  · intro w hSw; (try dsimp only at hSw); first | (go_simp; done) | (go_simp; with_reducible rfl)
  try simp only [Act.put, List.setIfInBounds_toArray, List.set_cons_zero, List.set_cons_succ]
  refine wpAnyH_take (i := 2) (oi := { dst := some 18, op := Op.load 26 (Operand.tmp 1), type := 26, pos := "frame.go:52", after := #[], guard := none }) (v := ?_) rfl (by kernel_rfl) (by kernel_rfl) (by kernel_rfl) (fun _ _ _ h => h) (Or.inl ⟨by rfl, ?_⟩) (by assumption) ?_
  rotate_left
  · intro w hSw; (try dsimp only at hSw); first | (go_simp; done) | (go_simp; with_reducible rfl)
  try simp only [Act.put, List.setIfInBounds_toArray, List.set_cons_zero, List.set_cons_succ]
  refine wpAnyH_take (i := 3) (oi := { dst := some 19, op := Op.fieldAddr 26 (Operand.tmp 1) 0, type := 0, pos := "frame.go:52", after := #[], guard := none }) (v := ?_) rfl (by kernel_rfl) (by kernel_rfl) (by kernel_rfl) (fun _ _ _ h => h) (Or.inl ⟨by rfl, ?_⟩) (by assumption) ?_
  rotate_left
  · intro w hSw; (try dsimp only at hSw); first | (go_simp; done) | (go_simp; with_reducible rfl)
  try simp only [Act.put, List.setIfInBounds_toArray, List.set_cons_zero, List.set_cons_succ]
  refine wpAnyH_take (i := 4) (oi := { dst := some 20, op := Op.load 5 (Operand.tmp 19), type := 5, pos := "frame.go:52", after := #[{ on := 3, ground := Ground.data }], guard := none }) (v := ?_) rfl (by kernel_rfl) (by kernel_rfl) (by kernel_rfl) (fun _ _ _ h => h) (Or.inl ⟨by rfl, ?_⟩) (by assumption) ?_
  rotate_left
  · intro w hSw; (try dsimp only at hSw); first | (go_simp; done) | (go_simp; with_reducible rfl)
  try simp only [Act.put, List.setIfInBounds_toArray, List.set_cons_zero, List.set_cons_succ]
  refine wpAnyH_take (i := 6) (oi := { dst := some 22, op := Op.fieldAddr 26 (Operand.tmp 1) 1, type := 0, pos := "frame.go:52", after := #[], guard := none }) (v := ?_) rfl (by kernel_rfl) (by kernel_rfl) (by kernel_rfl) (fun _ _ _ h => h) (Or.inl ⟨by rfl, ?_⟩) (by assumption) ?_
  rotate_left
  · intro w hSw; (try dsimp only at hSw); first | (go_simp; done) | (go_simp; with_reducible rfl)
  try simp only [Act.put, List.setIfInBounds_toArray, List.set_cons_zero, List.set_cons_succ]
  refine wpAnyH_take (i := 7) (oi := { dst := some 23, op := Op.load 3 (Operand.tmp 22), type := 3, pos := "frame.go:52", after := #[{ on := 6, ground := Ground.data }], guard := none }) (v := ?_) rfl (by kernel_rfl) (by kernel_rfl) (by kernel_rfl) (fun _ _ _ h => h) (Or.inl ⟨by rfl, ?_⟩) (by assumption) ?_
  rotate_left
  · intro w hSw; (try dsimp only at hSw); first | (go_simp; done) | (go_simp; with_reducible rfl)
  try simp only [Act.put, List.setIfInBounds_toArray, List.set_cons_zero, List.set_cons_succ]
  refine wpAnyH_take (i := 8) (oi := { dst := some 24, op := Op.convert 3 22 (Operand.tmp 23), type := 22, pos := "frame.go:52", after := #[{ on := 7, ground := Ground.data }], guard := none }) (v := ?_) rfl (by kernel_rfl) (by kernel_rfl) (by kernel_rfl) (fun _ _ _ h => h) (Or.inl ⟨by rfl, ?_⟩) (by assumption) ?_
  rotate_left
  · intro w hSw; (try dsimp only at hSw); first | (go_simp; done) | (go_simp; with_reducible rfl)
  try simp only [Act.put, List.setIfInBounds_toArray, List.set_cons_zero, List.set_cons_succ]
  refine wpAnyH_take (i := 9) (oi := { dst := some 25, op := Op.fieldAddr 26 (Operand.tmp 1) 2, type := 0, pos := "frame.go:52", after := #[], guard := none }) (v := ?_) rfl (by kernel_rfl) (by kernel_rfl) (by kernel_rfl) (fun _ _ _ h => h) (Or.inl ⟨by rfl, ?_⟩) (by assumption) ?_
  rotate_left
  · intro w hSw; (try dsimp only at hSw); first | (go_simp; done) | (go_simp; with_reducible rfl)
  try simp only [Act.put, List.setIfInBounds_toArray, List.set_cons_zero, List.set_cons_succ]
  refine wpAnyH_take (i := 10) (oi := { dst := some 26, op := Op.load 22 (Operand.tmp 25), type := 22, pos := "frame.go:52", after := #[{ on := 9, ground := Ground.data }], guard := none }) (v := ?_) rfl (by kernel_rfl) (by kernel_rfl) (by kernel_rfl) (fun _ _ _ h => h) (Or.inl ⟨by rfl, ?_⟩) (by assumption) ?_
  rotate_left
  · intro w hSw; (try dsimp only at hSw); first | (go_simp; done) | (go_simp; with_reducible rfl)
  try simp only [Act.put, List.setIfInBounds_toArray, List.set_cons_zero, List.set_cons_succ]
  refine wpAnyH_ready (rs := [5, 11]) (by kernel_rfl) (by simp) ?_
  refine (AllReadyH.cons (o := { dst := some 21, op := Op.buildSlice 37 1 #[(0, Operand.tmp 20)], type := 37, pos := "frame.go:52", after := #[{ on := 4, ground := Ground.data }], guard := none }) rfl (fun K hK => ?_) (AllReadyH.cons (o := { dst := some 27, op := Op.buildSlice 107 2 #[(0, Operand.tmp 24), (1, Operand.tmp 26)], type := 107, pos := "frame.go:52", after := #[{ on := 8, ground := Ground.data }, { on := 10, ground := Ground.data }], guard := none }) rfl (fun K hK => ?_) AllReadyH.nil))
  · go_simp
    refine absK (Q := fun w' => Ever Ps w' ∧ Sl w' w'.heap.size (some ⟨wc.heap.size, 0, none⟩) 1 1 [4]) ⟨hE2.alloc _, kind_litd wc _ rfl⟩ ?_
    clear hE2
    rintro wa ⟨hE2, h5⟩
    go_wp2_with fail
    clear hHeld
    refine hK.out _ _ ⟨(HN.out _ hE2.now).1, hE2⟩ (fun hHeld => ?_)
    clear hK K
    try simp only [Act.put, List.setIfInBounds_toArray, List.set_cons_zero, List.set_cons_succ]
    refine wpAnyH_ready (rs := [11]) (by kernel_rfl) (by simp) ?_
    refine (AllReadyH.cons (o := { dst := some 27, op := Op.buildSlice 107 2 #[(0, Operand.tmp 24), (1, Operand.tmp 26)], type := 107, pos := "frame.go:52", after := #[{ on := 8, ground := Ground.data }, { on := 10, ground := Ground.data }], guard := none }) rfl (fun K hK => ?_) AllReadyH.nil)
    go_simp
    refine absK (Q := fun w' => Ever Ps w' ∧ Sl w' w'.heap.size (some ⟨wc.heap.size, 0, none⟩) 1 1 [4] ∧ Sn w' w'.heap.size (some ⟨wa.heap.size, 0, none⟩) 2 2 1 (u64s [a, f.ep])) ⟨hE2.alloc _, h5.onA _, u64_lit2 wa _ a f.ep⟩ ?_
    clear hE2 h5
    rintro wa2 ⟨hE2, h5, h11⟩
    go_wp2_with fail
    clear hHeld
    refine hK.out _ _ ⟨(HN.out _ hE2.now).1, hE2⟩ (fun hHeld => ?_)
    clear hK K
    try simp only [Act.put, List.setIfInBounds_toArray, List.set_cons_zero, List.set_cons_succ]
    refine wpAnyH_ready (rs := [12]) (by kernel_rfl) (by simp) ?_
    refine (AllReadyH.cons (o := { dst := some 28, op := Op.call { callee := Callee.value (Operand.func 35), args := #[Operand.tmp 21, Operand.tmp 27], argTypes := #[37, 107] }, type := 37, pos := "frame.go:52", after := #[{ on := 5, ground := Ground.data }, { on := 11, ground := Ground.data }], guard := none }) rfl (fun K hK => ?_) AllReadyH.nil)
    go_simp
    go_at_call 35
    have hlts : ∀ x ∈ [a, f.ep], x < two64 := by
      intro x hx
      simp at hx
      rcases hx with rfl | rfl
      · unfold two64; omega
      · exact HFR.out.ep
    refine (nums_any _ _ _ 1 1 2 2 [4] [a, f.ep] h5 h11 hlts (by simp) (by simp)).mono ?_
    rintro e wn ⟨An, nn, cn, rfl, hown, hbn⟩
    have hlen : ([4] ++ numsB [a, f.ep]).length ≤ 1000 := by
      have := numsB_len [a, f.ep] hlts
      rw [List.length_append]
      simp at this ⊢
      omega
    replace hE2 := hE2.next hbn
    clear h5 h11 hbn hlts
    go_wp2_with fail
    clear hHeld
    refine hK.out _ _ ⟨(HN.out _ hE2.now).1, hE2⟩ (fun hHeld => ?_)
    clear hK K
    try simp only [Act.put, List.setIfInBounds_toArray, List.set_cons_zero, List.set_cons_succ]
    refine wpAnyH_ready (rs := [13]) (by kernel_rfl) (by simp) ?_
    refine (AllReadyH.cons (o := { dst := some 29, op := Op.call { callee := Callee.value (Operand.tmp 17), args := #[Operand.tmp 18, Operand.tmp 28], argTypes := #[26, 37] }, type := 37, pos := "frame.go:52", after := #[{ on := 1, ground := Ground.data }, { on := 2, ground := Ground.data }, { on := 12, ground := Ground.data }, { on := 12, ground := Ground.chain }], guard := none }) rfl (fun K hK => ?_) AllReadyH.nil)
    go_simp
    go_at_call 54
    have hput := putAnswer_any wn f (HN.out _ hE2.now).2.1 An nn cn _ (Sl.of_own hown) hlen HBD.out.1
    rw [HV.out] at hput
    refine hput.mono ?_
    rintro e wp ⟨Ap, np, cp, rfl, hownp, hbp⟩
    have hown2 := hownp
    replace hE2 := hE2.next hbp
    clear hput hown hbp hownp
    go_wp2_with fail
    clear hHeld
    refine hK.out _ _ ⟨(HN.out _ hE2.now).1, hE2⟩ (fun hHeld => ?_)
    clear hK K
    try simp only [Act.put, List.setIfInBounds_toArray, List.set_cons_zero, List.set_cons_succ]
    refine wpAnyH_ready (rs := [14]) (by kernel_rfl) (by simp) ?_
    refine (AllReadyH.cons (o := { dst := some 30, op := Op.call { callee := Callee.value (Operand.func 34), args := #[Operand.tmp 29], argTypes := #[37] }, type := 37, pos := "frame.go:52", after := #[{ on := 13, ground := Ground.data }, { on := 13, ground := Ground.chain }], guard := none }) rfl (fun K hK => ?_) AllReadyH.nil)
    go_simp
    go_at_call 34
    have hl2 : ([4] ++ numsB [a, f.ep] ++ answerB f.m).length ≤ 1000000 := by rw [List.length_append]; have := HLN.out; omega
    refine (close_any wp Ap np cp _ (HN.out _ hE2.now).2.2.1 (Sl.of_own hown2) hl2).mono ?_
    rintro e wq ⟨Aq, nq, cq, rfl, hownq, hbq⟩
    rw [← HTE.out] at hownq
    have HZ := Lib.hid (HBZ.out _ hE2.now)
    replace hE2 := hE2.next hbq
    have HOQ := Lib.hid (own_lower hownq HZ.out)
    clear hown2 hbq hownq hl2 hlen
    go_wp2_with fail
    clear hHeld
    refine hK.out _ _ ⟨(HN.out _ hE2.now).1, hE2⟩ (fun hHeld => ?_)
    clear hK K
    try simp only [Act.put, List.setIfInBounds_toArray, List.set_cons_zero, List.set_cons_succ]
    refine wpAnyH_take (i := 15) (oi := { dst := some 6, op := Op.assign (Operand.tmp 30), type := 37, pos := "frame.go:52", after := #[{ on := 14, ground := Ground.data }, { on := 14, ground := Ground.chain }, { on := 0, ground := Ground.phase }, { on := 1, ground := Ground.phase }, { on := 2, ground := Ground.phase }, { on := 3, ground := Ground.phase }, { on := 4, ground := Ground.phase }, { on := 5, ground := Ground.phase }, { on := 6, ground := Ground.phase }, { on := 7, ground := Ground.phase }, { on := 8, ground := Ground.phase }, { on := 9, ground := Ground.phase }, { on := 10, ground := Ground.phase }, { on := 11, ground := Ground.phase }, { on := 12, ground := Ground.phase }, { on := 13, ground := Ground.phase }, { on := 14, ground := Ground.phase }], guard := none }) (v := ?_) rfl (by kernel_rfl) (by kernel_rfl) (by kernel_rfl) (fun _ _ _ h => h) (Or.inl ⟨by rfl, ?_⟩) (by assumption) ?_
    rotate_left
    · intro w hSw; (try dsimp only at hSw); first | (go_simp; done) | (go_simp; with_reducible rfl)
    try simp only [Act.put, List.setIfInBounds_toArray, List.set_cons_zero, List.set_cons_succ]
    refine wpAnyH_done (by kernel_rfl) ?_ _
    refine NoPanic.normal ?_
    have hbf := (HN.out _ hE2.now).2.2.2
    have hnq : nq = tot.length := by have := (Sl.of_own HOQ.out).len; omega
    have HNQ := Lib.hid hnq
    have HBF := Lib.hid hbf
    clear hHeld hE2 hnq hbf
    by_cases hlong : 65507 < nq
    · have hlI : (65507 : Int) < (nq : Int) := by omega
      have HLG := Lib.hid hlong; clear hlong
      go_wp2
      go_ret2
      exact .inr (.inl ⟨HR.out, by rw [← HT.out, ← HNQ.out]; exact HLG.out, rfl, HBF.out⟩)
    · have hlI : ¬ (65507 : Int) < (nq : Int) := by omega
      have HLG := Lib.hid hlong; clear hlong
      go_wp2
      go_ret2
      refine .inr (.inr ⟨HR.out, by rw [← HT.out, ← HNQ.out]; have := HLG.out; omega, Aq, nq, cq, rfl, ?_, HBF.out⟩)
      rw [← HT.out]
      exact HOQ.out
  · go_simp
    refine absK (Q := fun w' => Ever Ps w' ∧ Sn w' w'.heap.size (some ⟨wc.heap.size, 0, none⟩) 2 2 1 (u64s [a, f.ep])) ⟨hE2.alloc _, u64_lit2d wc _ a f.ep⟩ ?_
    clear hE2
    rintro wa ⟨hE2, h11⟩
    go_wp2_with fail
    clear hHeld
    refine hK.out _ _ ⟨(HN.out _ hE2.now).1, hE2⟩ (fun hHeld => ?_)
    clear hK K
    try simp only [Act.put, List.setIfInBounds_toArray, List.set_cons_zero, List.set_cons_succ]
    refine wpAnyH_ready (rs := [5]) (by kernel_rfl) (by simp) ?_
    refine (AllReadyH.cons (o := { dst := some 21, op := Op.buildSlice 37 1 #[(0, Operand.tmp 20)], type := 37, pos := "frame.go:52", after := #[{ on := 4, ground := Ground.data }], guard := none }) rfl (fun K hK => ?_) AllReadyH.nil)
    go_simp
    refine absK (Q := fun w' => Ever Ps w' ∧ Sl w' w'.heap.size (some ⟨wa.heap.size, 0, none⟩) 1 1 [4] ∧ Sn w' w'.heap.size (some ⟨wc.heap.size, 0, none⟩) 2 2 1 (u64s [a, f.ep])) ⟨hE2.alloc _, kind_lit wa _ rfl, h11.onA _⟩ ?_
    clear hE2 h11
    rintro wa2 ⟨hE2, h5, h11⟩
    go_wp2_with fail
    clear hHeld
    refine hK.out _ _ ⟨(HN.out _ hE2.now).1, hE2⟩ (fun hHeld => ?_)
    clear hK K
    try simp only [Act.put, List.setIfInBounds_toArray, List.set_cons_zero, List.set_cons_succ]
    refine wpAnyH_ready (rs := [12]) (by kernel_rfl) (by simp) ?_
    refine (AllReadyH.cons (o := { dst := some 28, op := Op.call { callee := Callee.value (Operand.func 35), args := #[Operand.tmp 21, Operand.tmp 27], argTypes := #[37, 107] }, type := 37, pos := "frame.go:52", after := #[{ on := 5, ground := Ground.data }, { on := 11, ground := Ground.data }], guard := none }) rfl (fun K hK => ?_) AllReadyH.nil)
    go_simp
    go_at_call 35
    have hlts : ∀ x ∈ [a, f.ep], x < two64 := by
      intro x hx
      simp at hx
      rcases hx with rfl | rfl
      · unfold two64; omega
      · exact HFR.out.ep
    refine (nums_any _ _ _ 1 1 2 2 [4] [a, f.ep] h5 h11 hlts (by simp) (by simp)).mono ?_
    rintro e wn ⟨An, nn, cn, rfl, hown, hbn⟩
    have hlen : ([4] ++ numsB [a, f.ep]).length ≤ 1000 := by
      have := numsB_len [a, f.ep] hlts
      rw [List.length_append]
      simp at this ⊢
      omega
    replace hE2 := hE2.next hbn
    clear h5 h11 hbn hlts
    go_wp2_with fail
    clear hHeld
    refine hK.out _ _ ⟨(HN.out _ hE2.now).1, hE2⟩ (fun hHeld => ?_)
    clear hK K
    try simp only [Act.put, List.setIfInBounds_toArray, List.set_cons_zero, List.set_cons_succ]
    refine wpAnyH_ready (rs := [13]) (by kernel_rfl) (by simp) ?_
    refine (AllReadyH.cons (o := { dst := some 29, op := Op.call { callee := Callee.value (Operand.tmp 17), args := #[Operand.tmp 18, Operand.tmp 28], argTypes := #[26, 37] }, type := 37, pos := "frame.go:52", after := #[{ on := 1, ground := Ground.data }, { on := 2, ground := Ground.data }, { on := 12, ground := Ground.data }, { on := 12, ground := Ground.chain }], guard := none }) rfl (fun K hK => ?_) AllReadyH.nil)
    go_simp
    go_at_call 54
    have hput := putAnswer_any wn f (HN.out _ hE2.now).2.1 An nn cn _ (Sl.of_own hown) hlen HBD.out.1
    rw [HV.out] at hput
    refine hput.mono ?_
    rintro e wp ⟨Ap, np, cp, rfl, hownp, hbp⟩
    have hown2 := hownp
    replace hE2 := hE2.next hbp
    clear hput hown hbp hownp
    go_wp2_with fail
    clear hHeld
    refine hK.out _ _ ⟨(HN.out _ hE2.now).1, hE2⟩ (fun hHeld => ?_)
    clear hK K
    try simp only [Act.put, List.setIfInBounds_toArray, List.set_cons_zero, List.set_cons_succ]
    refine wpAnyH_ready (rs := [14]) (by kernel_rfl) (by simp) ?_
    refine (AllReadyH.cons (o := { dst := some 30, op := Op.call { callee := Callee.value (Operand.func 34), args := #[Operand.tmp 29], argTypes := #[37] }, type := 37, pos := "frame.go:52", after := #[{ on := 13, ground := Ground.data }, { on := 13, ground := Ground.chain }], guard := none }) rfl (fun K hK => ?_) AllReadyH.nil)
    go_simp
    go_at_call 34
    have hl2 : ([4] ++ numsB [a, f.ep] ++ answerB f.m).length ≤ 1000000 := by rw [List.length_append]; have := HLN.out; omega
    refine (close_any wp Ap np cp _ (HN.out _ hE2.now).2.2.1 (Sl.of_own hown2) hl2).mono ?_
    rintro e wq ⟨Aq, nq, cq, rfl, hownq, hbq⟩
    rw [← HTE.out] at hownq
    have HZ := Lib.hid (HBZ.out _ hE2.now)
    replace hE2 := hE2.next hbq
    have HOQ := Lib.hid (own_lower hownq HZ.out)
    clear hown2 hbq hownq hl2 hlen
    go_wp2_with fail
    clear hHeld
    refine hK.out _ _ ⟨(HN.out _ hE2.now).1, hE2⟩ (fun hHeld => ?_)
    clear hK K
    try simp only [Act.put, List.setIfInBounds_toArray, List.set_cons_zero, List.set_cons_succ]
    refine wpAnyH_take (i := 15) (oi := { dst := some 6, op := Op.assign (Operand.tmp 30), type := 37, pos := "frame.go:52", after := #[{ on := 14, ground := Ground.data }, { on := 14, ground := Ground.chain }, { on := 0, ground := Ground.phase }, { on := 1, ground := Ground.phase }, { on := 2, ground := Ground.phase }, { on := 3, ground := Ground.phase }, { on := 4, ground := Ground.phase }, { on := 5, ground := Ground.phase }, { on := 6, ground := Ground.phase }, { on := 7, ground := Ground.phase }, { on := 8, ground := Ground.phase }, { on := 9, ground := Ground.phase }, { on := 10, ground := Ground.phase }, { on := 11, ground := Ground.phase }, { on := 12, ground := Ground.phase }, { on := 13, ground := Ground.phase }, { on := 14, ground := Ground.phase }], guard := none }) (v := ?_) rfl (by kernel_rfl) (by kernel_rfl) (by kernel_rfl) (fun _ _ _ h => h) (Or.inl ⟨by rfl, ?_⟩) (by assumption) ?_
    rotate_left
    · intro w hSw; (try dsimp only at hSw); first | (go_simp; done) | (go_simp; with_reducible rfl)
    try simp only [Act.put, List.setIfInBounds_toArray, List.set_cons_zero, List.set_cons_succ]
    refine wpAnyH_done (by kernel_rfl) ?_ _
    refine NoPanic.normal ?_
    have hbf := (HN.out _ hE2.now).2.2.2
    have hnq : nq = tot.length := by have := (Sl.of_own HOQ.out).len; omega
    have HNQ := Lib.hid hnq
    have HBF := Lib.hid hbf
    clear hHeld hE2 hnq hbf
    by_cases hlong : 65507 < nq
    · have hlI : (65507 : Int) < (nq : Int) := by omega
      have HLG := Lib.hid hlong; clear hlong
      go_wp2
      go_ret2
      exact .inr (.inl ⟨HR.out, by rw [← HT.out, ← HNQ.out]; exact HLG.out, rfl, HBF.out⟩)
    · have hlI : ¬ (65507 : Int) < (nq : Int) := by omega
      have HLG := Lib.hid hlong; clear hlong
      go_wp2
      go_ret2
      refine .inr (.inr ⟨HR.out, by rw [← HT.out, ← HNQ.out]; have := HLG.out; omega, Aq, nq, cq, rfl, ?_, HBF.out⟩)
      rw [← HT.out]
      exact HOQ.out

/-- Encode. -/
theorem encode_any (w : World) (ht : TabAt w) (f : Fv) (h : FrAt w f) : Calls Tryd.prog 16 #[f.v] w (EncPost w f.m) := by
  by_cases hr : RightP f.m
  · rcases hr.2.2.2 with h4 | h4 | h4
    · exact encode1_any w ht f h hr h4.1
    · rcases h4.1 with h5 | h5
      · exact encode2_any w ht f h hr h5
      · exact encode4_any w ht f h hr h5
    · exact encode3_any w ht f h hr h4.1
  · exact encode0_any w f h hr
end Go.Proofs.YtlkcnpmgafckoaaDoor
