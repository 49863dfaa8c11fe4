/-
  THE WALK of the law FrameOnce: where the table is as the program's text lays it, it returns true, whatever the two frames, and turns nothing that was there.
-/
import Derived.Test.YtlkcnpmgafckoaaDoorFrameAwake
import Derived.Test.YtlkcnpmgafckoaaDoorFrameSame
import Derived.Test.YtlkcnpmgafckoaaDoorFrameOwn
import Derived.Test.YtlkcnpmgafckoaaDoorRefSame
import Derived.Test.YtlkcnpmgafckoaaDoorFrameInj
import Derived.Deep.DeepCutAuto
namespace Go.Proofs.YtlkcnpmgafckoaaDoor
open Go.RowKit

theorem few_small' (f : Fv) : f.few.nr ≤ 40 ∧ f.few.ni ≤ 70 := by
  unfold Fv.few
  exact ⟨Nat.min_le_right _ _, Nat.min_le_right _ _⟩
theorem cells9 {w : World} {g : Nat} {k : Fv} (h : w.heap[g]? = some k.box) : w.cell? ⟨g, 0, none⟩ = some (.int .u8 (k.kd : Int)) ∧ w.cell? ⟨g, 1, none⟩ = some (.int .i64 k.ag) ∧ w.cell? ⟨g, 2, none⟩ = some (.int .u64 (k.ep : Int)) ∧ w.cell? ⟨g, 3, none⟩ = some (.int .u64 (k.ic : Int)) ∧ w.cell? ⟨g, 4, none⟩ = some (.int .u64 (k.ba : Int)) ∧ w.cell? ⟨g, 5, none⟩ = some (.int .u64 (k.cu : Int)) ∧ w.cell? ⟨g, 6, none⟩ = some (.int .u64 (k.li : Int)) ∧ w.cell? ⟨g, 7, none⟩ = some (.slice k.Ar k.nr k.cr) ∧ w.cell? ⟨g, 8, none⟩ = some (.slice k.Ai k.ni k.ci) := by
  have q : ∀ i, w.cell? ⟨g, i, none⟩ = (#[Value.int .u8 (k.kd : Int), .int .i64 k.ag, .int .u64 (k.ep : Int), .int .u64 (k.ic : Int), .int .u64 (k.ba : Int), .int .u64 (k.cu : Int), .int .u64 (k.li : Int), .slice k.Ar k.nr k.cr, .slice k.Ai k.ni k.ci] : Array Value)[i]? := fun i => cell_of_row w _ i _ _ _ h
  exact ⟨q 0, q 1, q 2, q 3, q 4, q 5, q 6, q 7, q 8⟩
theorem frz9 {w : World} {g : Nat} {k : Fv} (h : w.heap[g]? = some k.box) : w.frozen? ⟨g, 0, none⟩ = false ∧ w.frozen? ⟨g, 1, none⟩ = false ∧ w.frozen? ⟨g, 2, none⟩ = false ∧ w.frozen? ⟨g, 3, none⟩ = false ∧ w.frozen? ⟨g, 4, none⟩ = false ∧ w.frozen? ⟨g, 5, none⟩ = false ∧ w.frozen? ⟨g, 6, none⟩ = false ∧ w.frozen? ⟨g, 7, none⟩ = false ∧ w.frozen? ⟨g, 8, none⟩ = false :=
  ⟨frz_block (i := 0) h, frz_block (i := 1) h, frz_block (i := 2) h, frz_block (i := 3) h, frz_block (i := 4) h, frz_block (i := 5) h, frz_block (i := 6) h, frz_block (i := 7) h, frz_block (i := 8) h⟩
theorem set9_far {w : World} {r b : Nat} (u0 u1 u2 u3 u4 u5 u6 u7 u8 : Value) (h : r ≠ b) : (set9 w r u0 u1 u2 u3 u4 u5 u6 u7 u8).heap[b]? = w.heap[b]? := by
  unfold set9
  have e : ∀ (w : World) (i : Nat) (u : Value), (w.setCell ⟨r, i, none⟩ u).heap[b]? = w.heap[b]? := fun w i u => heap_setCell_other w ⟨r, i, none⟩ b u (Ne.symm h)
  rw [e, e, e, e, e, e, e, e, e]
/-- The two frames' variables. -/
structure OnceRel (w : World) (X Y : Nat) (k l : Fv) (wx : World) : Prop where
  f : wx.heap[X]? = some k.box
  g : wx.heap[Y]? = some l.box
  b : Below w.heap.size w wx
theorem OnceRel.on {w : World} {X Y : Nat} {k l : Fv} {wx wy : World} (h : OnceRel w X Y k l wx) (hb : Below wx.heap.size wx wy) : OnceRel w X Y k l wy :=
  ⟨(hb.block X (Array.getElem?_eq_some_iff.1 h.f).1).trans h.f, (hb.block Y (Array.getElem?_eq_some_iff.1 h.g).1).trans h.g, h.b.trans (hb.mono h.b.size)⟩

theorem OnceRel.stored {w w3 : World} {X Y : Nat} {f g : Fv} (h : OnceRel w X Y f g w3) (hXY : X ≠ Y) (hX : w.heap.size ≤ X) (hY : w.heap.size ≤ Y) (k l : Fv) : OnceRel w X Y k l (set9 (set9 w3 X (.int .u8 (k.kd : Int)) (.int .i64 k.ag) (.int .u64 (k.ep : Int)) (.int .u64 (k.ic : Int)) (.int .u64 (k.ba : Int)) (.int .u64 (k.cu : Int)) (.int .u64 (k.li : Int)) (.slice k.Ar k.nr k.cr) (.slice k.Ai k.ni k.ci)) Y (.int .u8 (l.kd : Int)) (.int .i64 l.ag) (.int .u64 (l.ep : Int)) (.int .u64 (l.ic : Int)) (.int .u64 (l.ba : Int)) (.int .u64 (l.cu : Int)) (.int .u64 (l.li : Int)) (.slice l.Ar l.nr l.cr) (.slice l.Ai l.ni l.ci)) :=
  ⟨(set9_far _ _ _ _ _ _ _ _ _ (Ne.symm hXY)).trans (set9_heap _ _ _ _ _ _ _ _ _ h.f), set9_heap _ _ _ _ _ _ _ _ _ ((set9_far _ _ _ _ _ _ _ _ _ hXY).trans h.g), set9_below _ _ _ _ _ _ _ _ _ (set9_below _ _ _ _ _ _ _ _ _ h.b hX) hY⟩
theorem OnceRel.second {w w3 : World} {X Y : Nat} {f g : Fv} (h : OnceRel w X Y f g w3) (hXY : X ≠ Y) (hY : w.heap.size ≤ Y) (l : Fv) : OnceRel w X Y f l (set9 w3 Y (.int .u8 (l.kd : Int)) (.int .i64 l.ag) (.int .u64 (l.ep : Int)) (.int .u64 (l.ic : Int)) (.int .u64 (l.ba : Int)) (.int .u64 (l.cu : Int)) (.int .u64 (l.li : Int)) (.slice l.Ar l.nr l.cr) (.slice l.Ai l.ni l.ci)) :=
  ⟨(set9_far _ _ _ _ _ _ _ _ _ (Ne.symm hXY)).trans h.f, set9_heap _ _ _ _ _ _ _ _ _ h.g, set9_below _ _ _ _ _ _ _ _ _ h.b hY⟩
theorem once_start (w : World) (f g : Fv) : OnceRel w w.heap.size (w.heap.size + 1) f g ((w.alloc f.box).alloc g.box) :=
  ⟨((below_box (w.alloc f.box) g.box).block _ (by simp)).trans (heap_alloc_new w f.box), by
    have e : (w.alloc f.box).heap.size = w.heap.size + 1 := by simp
    exact e ▸ heap_alloc_new (w.alloc f.box) g.box, (below_box w f.box).trans ((below_box (w.alloc f.box) g.box).mono (by simp))⟩
/-- What Encode answers, in one piece. -/
def EncE (w : World) (m : Fm) (e : Ending) (w' : World) : Prop :=
  ∃ (er : Nat) (A : Option Addr) (n c : Nat), e = .returned (.tuple #[.slice A n c, .int .i64 (er : Int)]) ∧ Below w.heap.size w w' ∧ (er = 1 ↔ ¬ RightP m) ∧ (er = 0 → Sl w' w'.heap.size A n c (encB m))
theorem encE_any (w : World) (ht : TabAt w) (f : Fv) (h : FrAt w f) : Calls Tryd.prog 16 #[f.v] w (EncE w f.m) :=
  (encode_any w ht f h).mono fun e w' h => by
    rcases h with ⟨h1, h2, h3⟩ | ⟨h1, _, h2, h3⟩ | ⟨h1, _, A, n, c, h2, h3, h4⟩
    · exact ⟨1, none, 0, 0, h2, h3, ⟨fun _ => h1, fun _ => rfl⟩, fun h => absurd h (by omega)⟩
    · exact ⟨6, none, 0, 0, h2, h3, ⟨fun h => absurd h (by omega), fun h => absurd h1 h⟩, fun h => absurd h (by omega)⟩
    · exact ⟨0, A, n, c, h2, h4, ⟨fun h => absurd h (by omega), fun h => absurd h1 h⟩, fun _ => Sl.of_own h3⟩
theorem once_err {e : Nat} {p : Prop} (h : e = 1 ↔ ¬ p) : ((e : Int) != 1) = decP p := by
  refine eq_decP ?_
  rw [bne_iff_ne]
  exact ⟨fun g => Classical.byContradiction fun q => g (by have := h.2 q; omega), fun g q => h.1 (by omega) g⟩
theorem once_bytes {a b : Fm} (ha : RightP a) (hb : RightP b) (oa : a.Ok) (ob : b.Ok) : sameB (encB a) (encB b) = decP (a = b) :=
  eq_decP (by rw [sameB_iff]; exact ⟨enc_inj ha hb oa ob, fun e => by rw [e]⟩)

set_option maxRecDepth 100000 in
set_option maxHeartbeats 2000000 in
theorem frameOnce_law (w : World) (ht : TabAt w) (f : Fv) (h : FrAt w f) (g : Fv) (h' : FrAt w g) (s : Bool) :
    Calls Tryd.prog 9 #[f.v, g.v, .bool s] w (Yes w) := by
  have HT := Lib.hid ht
  have HV : Hid (f.v = .agg #[.int .u8 (f.kd : Int), .int .i64 f.ag, .int .u64 (f.ep : Int), .int .u64 (f.ic : Int), .int .u64 (f.ba : Int), .int .u64 (f.cu : Int), .int .u64 (f.li : Int), .slice f.Ar f.nr f.cr, .slice f.Ai f.ni f.ci]) := rfl
  have HVG : Hid (g.v = .agg #[.int .u8 (g.kd : Int), .int .i64 g.ag, .int .u64 (g.ep : Int), .int .u64 (g.ic : Int), .int .u64 (g.ba : Int), .int .u64 (g.cu : Int), .int .u64 (g.li : Int), .slice g.Ar g.nr g.cr, .slice g.Ai g.ni g.ci]) := rfl
  have HSK := Lib.hid (few_small' f)
  have HSL := Lib.hid (few_small' g)
  have HFK := Lib.hid h.few
  have HFL := Lib.hid h'.few
  have HFF : Hid (∀ W, Below w.heap.size w W → Calls Tryd.prog 11 #[f.v] W (Says W f.few.v)) := fun W hb => few_any W f (h.on hb)
  have HFG : Hid (∀ W, Below w.heap.size w W → Calls Tryd.prog 11 #[g.v] W (Says W g.few.v)) := fun W hb => few_any W g (h'.on hb)
  obtain ⟨k, hk⟩ : ∃ k, k = f.few := ⟨_, rfl⟩
  obtain ⟨l, hl⟩ : ∃ l, l = g.few := ⟨_, rfl⟩
  rw [← hk] at HSK HFK HFF
  rw [← hl] at HSL HFL HFG
  have HVK : Hid (k.v = .agg #[.int .u8 (k.kd : Int), .int .i64 k.ag, .int .u64 (k.ep : Int), .int .u64 (k.ic : Int), .int .u64 (k.ba : Int), .int .u64 (k.cu : Int), .int .u64 (k.li : Int), .slice k.Ar k.nr k.cr, .slice k.Ai k.ni k.ci]) := rfl
  have HVL : Hid (l.v = .agg #[.int .u8 (l.kd : Int), .int .i64 l.ag, .int .u64 (l.ep : Int), .int .u64 (l.ic : Int), .int .u64 (l.ba : Int), .int .u64 (l.cu : Int), .int .u64 (l.li : Int), .slice l.Ar l.nr l.cr, .slice l.Ai l.ni l.ci]) := rfl
  rw [HV.out, HVK.out] at HFF
  rw [HVG.out, HVL.out] at HFG
  rw [HV.out, HVG.out]
  clear ht h h' hk hl
  go_enter Tryd.func9, Tryd.ntmps9
  go_wp2_with fail
  refine (awake5_any _ ((HT.out.alloc _).alloc _)).mono ?_
  rintro e w1 ⟨rfl, hbel⟩
  have HR1 := Lib.hid ((once_start w f g).on hbel)
  clear hbel
  go_upto_region 3 with fail
  obtain ⟨q0, q1, q2, q3, q4, q5, q6, q7, q8⟩ := cells9 HR1.out.f
  obtain ⟨p0, p1, p2, p3, p4, p5, p6, p7, p8⟩ := cells9 HR1.out.g
  have HRd : Hid (OnceRel w w.heap.size (w.heap.size + 1) f g w1.drew) := HR1.out.on (below_drewN (Below.refl _ _) 1)
  go_cut [] (fun wx => OnceRel w w.heap.size (w.heap.size + 1) k l wx)
  case first =>
    go_region_with (first
      | (go_at_call 11
         refine (HFG.out _ HR2.out.b).mono ?_
         rintro e w3 ⟨rfl, hb3⟩
         have HR3 := Lib.hid (HR2.out.on hb3)
         obtain ⟨s0, s1, s2, s3, s4, s5, s6, s7, s8⟩ := cells9 HR3.out.f
         obtain ⟨t0, t1, t2, t3, t4, t5, t6, t7, t8⟩ := cells9 HR3.out.g
         obtain ⟨f0, f1, f2, f3, f4, f5, f6, f7, f8⟩ := frz9 HR3.out.f
         obtain ⟨e0, e1, e2, e3, e4, e5, e6, e7, e8⟩ := frz9 HR3.out.g
         clear hb3)
      | (go_at_call 11
         refine (HFF.out _ HRd.out.b).mono ?_
         rintro e w2 ⟨rfl, hb2⟩
         have HR2 := Lib.hid (HRd.out.on hb2)
         obtain ⟨r0, r1, r2, r3, r4, r5, r6, r7, r8⟩ := cells9 HR2.out.g
         clear hb2))
    all_goals (go_wp2_with fail; go_meet; exact HR3.out.stored (by omega) (by omega) (by omega) k l)
  case rest =>
    have HC := Lib.hid hcut
    clear hcut q0 q1 q2 q3 q4 q5 q6 q7 q8 p0 p1 p2 p3 p4 p5 p6 p7 p8 HRd HR1
    go_upto_if 17 with fail
    obtain ⟨m, hm⟩ : ∃ m, m = bif s then k else l := ⟨_, rfl⟩
    have HFM : Hid (FrAt w m) := by rw [hm]; (cases s; exact HFL.out; exact HFK.out)
    have HSM : Hid (m.nr ≤ 40 ∧ m.ni ≤ 70) := by rw [hm]; (cases s; exact HSL.out; exact HSK.out)
    go_cut [] (fun wx => OnceRel w w.heap.size (w.heap.size + 1) k m wx)
    case first =>
      cases s with
      | true =>
        have hm' : m = k := hm
        clear hm
        subst hm'
        obtain ⟨q0, q1, q2, q3, q4, q5, q6, q7, q8⟩ := cells9 HC.out.f
        obtain ⟨p0, p1, p2, p3, p4, p5, p6, p7, p8⟩ := cells9 HC.out.g
        obtain ⟨e0, e1, e2, e3, e4, e5, e6, e7, e8⟩ := frz9 HC.out.g
        go_wp2_with fail
        go_meet
        exact HC.out.second (by omega) (by omega) _
      | false =>
        have hm' : m = l := hm
        clear hm
        subst hm'
        go_wp2_with fail
        go_meet
        exact HC.out
    case rest =>
      have HD := Lib.hid hcut
      clear hcut HC hm HSL HFL HFF HFG
      have HVM : Hid (m.v = .agg #[.int .u8 (m.kd : Int), .int .i64 m.ag, .int .u64 (m.ep : Int), .int .u64 (m.ic : Int), .int .u64 (m.ba : Int), .int .u64 (m.cu : Int), .int .u64 (m.li : Int), .slice m.Ar m.nr m.cr, .slice m.Ai m.ni m.ci]) := rfl
      obtain ⟨q0, q1, q2, q3, q4, q5, q6, q7, q8⟩ := cells9 HD.out.f
      go_wp2_with fail
      have hc := encE_any _ (HT.out.below HD.out.b) k (HFK.out.on HD.out.b)
      rw [HVK.out] at hc
      refine hc.mono ?_
      rintro e w4 ⟨e1, A1, n1, c1, rfl, hb4, hr1, hs1⟩
      have HD4 := Lib.hid (HD.out.on hb4)
      have HR1 := Lib.hid hr1
      have HS1 := Lib.hid hs1
      obtain ⟨p0, p1, p2, p3, p4, p5, p6, p7, p8⟩ := cells9 HD4.out.g
      clear hc q0 q1 q2 q3 q4 q5 q6 q7 q8 hr1 hs1 hb4
      go_wp2_with fail
      have hc := encE_any _ (HT.out.below HD4.out.b) m (HFM.out.on HD4.out.b)
      rw [HVM.out] at hc
      refine hc.mono ?_
      rintro e w5 ⟨e2, A2, n2, c2, rfl, hb5, hr2, hs2⟩
      have HD5 := Lib.hid (HD4.out.on hb5)
      have HR2 := Lib.hid hr2
      have HS2 := Lib.hid hs2
      have HB5 := Lib.hid hb5
      clear hc p0 p1 p2 p3 p4 p5 p6 p7 p8 hr2 hs2 hb5
      obtain ⟨b1, HB1⟩ : ∃ b, Hid (b = decP (RightP k.m)) := ⟨_, rfl⟩
      obtain ⟨b2, HB2⟩ : ∃ b, Hid (b = decP (RightP m.m)) := ⟨_, rfl⟩
      have y1 : ((e1 : Int) != 1) = b1 := by
        rw [HB1.out]
        exact once_err HR1.out
      have y2 : ((e2 : Int) != 1) = b2 := by
        rw [HB2.out]
        exact once_err HR2.out
      have z1 : (b1 == b1) = true := by simp
      have z2 : (b2 == b2) = true := by simp
      by_cases h1 : e1 = 0
      · have x1 : ((e1 : Int) != 0) = false := by simp; omega
        by_cases h2 : e2 = 0
        · have x2 : ((e2 : Int) != 0) = false := by simp; omega
          have hsl1 := (HS1.out h1).on HB5.out (Nat.le_refl _)
          have hsl2 := HS2.out h2
          have hri1 : RightP k.m := Classical.byContradiction fun h => by have := HR1.out.2 h; omega
          have hri2 : RightP m.m := Classical.byContradiction fun h => by have := HR2.out.2 h; omega
          obtain ⟨bb, HBB⟩ : ∃ b, Hid (decP (k.m = m.m) = b) := ⟨_, rfl⟩
          have HSB : Hid (sameB (encB k.m) (encB m.m) = bb) := (once_bytes hri1 hri2 HFK.out.ok HFM.out.ok).trans HBB.out
          have hbb : (bb == bb) = true := by simp
          have hE : Ever (fun w' => ((w'.cell? ⟨w.heap.size, 0, none⟩ = some (.int .u8 (k.kd : Int)) ∧ w'.cell? ⟨w.heap.size, 1, none⟩ = some (.int .i64 k.ag) ∧ w'.cell? ⟨w.heap.size, 2, none⟩ = some (.int .u64 (k.ep : Int)) ∧ w'.cell? ⟨w.heap.size, 3, none⟩ = some (.int .u64 (k.ic : Int)) ∧ w'.cell? ⟨w.heap.size, 4, none⟩ = some (.int .u64 (k.ba : Int)) ∧ w'.cell? ⟨w.heap.size, 5, none⟩ = some (.int .u64 (k.cu : Int)) ∧ w'.cell? ⟨w.heap.size, 6, none⟩ = some (.int .u64 (k.li : Int)) ∧ w'.cell? ⟨w.heap.size, 7, none⟩ = some (.slice k.Ar k.nr k.cr) ∧ w'.cell? ⟨w.heap.size, 8, none⟩ = some (.slice k.Ai k.ni k.ci)) ∧ (w'.cell? ⟨w.heap.size + 1, 0, none⟩ = some (.int .u8 (m.kd : Int)) ∧ w'.cell? ⟨w.heap.size + 1, 1, none⟩ = some (.int .i64 m.ag) ∧ w'.cell? ⟨w.heap.size + 1, 2, none⟩ = some (.int .u64 (m.ep : Int)) ∧ w'.cell? ⟨w.heap.size + 1, 3, none⟩ = some (.int .u64 (m.ic : Int)) ∧ w'.cell? ⟨w.heap.size + 1, 4, none⟩ = some (.int .u64 (m.ba : Int)) ∧ w'.cell? ⟨w.heap.size + 1, 5, none⟩ = some (.int .u64 (m.cu : Int)) ∧ w'.cell? ⟨w.heap.size + 1, 6, none⟩ = some (.int .u64 (m.li : Int)) ∧ w'.cell? ⟨w.heap.size + 1, 7, none⟩ = some (.slice m.Ar m.nr m.cr) ∧ w'.cell? ⟨w.heap.size + 1, 8, none⟩ = some (.slice m.Ai m.ni m.ci))) ∧ OnceRel w w.heap.size (w.heap.size + 1) k m w' ∧ Sl w' w'.heap.size A1 n1 c1 (encB k.m) ∧ Sl w' w'.heap.size A2 n2 c2 (encB m.m)) w5 := fun w' hb => by
            have hx := HD5.out.on hb
            exact ⟨⟨cells9 hx.f, cells9 hx.g⟩, hx, hsl1.on hb (Nat.le_refl _), hsl2.on hb (Nat.le_refl _)⟩
          obtain ⟨X, hX⟩ : ∃ X, X = w.heap.size := ⟨_, rfl⟩
          obtain ⟨Y, hY⟩ : ∃ Y, Y = w.heap.size + 1 := ⟨_, rfl⟩
          obtain ⟨Ps, HP⟩ : ∃ Ps : World → Prop, Hid (Ps = fun w' => ((w'.cell? ⟨w.heap.size, 0, none⟩ = some (.int .u8 (k.kd : Int)) ∧ w'.cell? ⟨w.heap.size, 1, none⟩ = some (.int .i64 k.ag) ∧ w'.cell? ⟨w.heap.size, 2, none⟩ = some (.int .u64 (k.ep : Int)) ∧ w'.cell? ⟨w.heap.size, 3, none⟩ = some (.int .u64 (k.ic : Int)) ∧ w'.cell? ⟨w.heap.size, 4, none⟩ = some (.int .u64 (k.ba : Int)) ∧ w'.cell? ⟨w.heap.size, 5, none⟩ = some (.int .u64 (k.cu : Int)) ∧ w'.cell? ⟨w.heap.size, 6, none⟩ = some (.int .u64 (k.li : Int)) ∧ w'.cell? ⟨w.heap.size, 7, none⟩ = some (.slice k.Ar k.nr k.cr) ∧ w'.cell? ⟨w.heap.size, 8, none⟩ = some (.slice k.Ai k.ni k.ci)) ∧ (w'.cell? ⟨w.heap.size + 1, 0, none⟩ = some (.int .u8 (m.kd : Int)) ∧ w'.cell? ⟨w.heap.size + 1, 1, none⟩ = some (.int .i64 m.ag) ∧ w'.cell? ⟨w.heap.size + 1, 2, none⟩ = some (.int .u64 (m.ep : Int)) ∧ w'.cell? ⟨w.heap.size + 1, 3, none⟩ = some (.int .u64 (m.ic : Int)) ∧ w'.cell? ⟨w.heap.size + 1, 4, none⟩ = some (.int .u64 (m.ba : Int)) ∧ w'.cell? ⟨w.heap.size + 1, 5, none⟩ = some (.int .u64 (m.cu : Int)) ∧ w'.cell? ⟨w.heap.size + 1, 6, none⟩ = some (.int .u64 (m.li : Int)) ∧ w'.cell? ⟨w.heap.size + 1, 7, none⟩ = some (.slice m.Ar m.nr m.cr) ∧ w'.cell? ⟨w.heap.size + 1, 8, none⟩ = some (.slice m.Ai m.ni m.ci))) ∧ OnceRel w w.heap.size (w.heap.size + 1) k m w' ∧ Sl w' w'.heap.size A1 n1 c1 (encB k.m) ∧ Sl w' w'.heap.size A2 n2 c2 (encB m.m)) := ⟨_, rfl⟩
          have HN : Hid (∀ w', Ps w' → ((w'.cell? ⟨X, 0, none⟩ = some (.int .u8 (k.kd : Int)) ∧ w'.cell? ⟨X, 1, none⟩ = some (.int .i64 k.ag) ∧ w'.cell? ⟨X, 2, none⟩ = some (.int .u64 (k.ep : Int)) ∧ w'.cell? ⟨X, 3, none⟩ = some (.int .u64 (k.ic : Int)) ∧ w'.cell? ⟨X, 4, none⟩ = some (.int .u64 (k.ba : Int)) ∧ w'.cell? ⟨X, 5, none⟩ = some (.int .u64 (k.cu : Int)) ∧ w'.cell? ⟨X, 6, none⟩ = some (.int .u64 (k.li : Int)) ∧ w'.cell? ⟨X, 7, none⟩ = some (.slice k.Ar k.nr k.cr) ∧ w'.cell? ⟨X, 8, none⟩ = some (.slice k.Ai k.ni k.ci)) ∧ (w'.cell? ⟨Y, 0, none⟩ = some (.int .u8 (m.kd : Int)) ∧ w'.cell? ⟨Y, 1, none⟩ = some (.int .i64 m.ag) ∧ w'.cell? ⟨Y, 2, none⟩ = some (.int .u64 (m.ep : Int)) ∧ w'.cell? ⟨Y, 3, none⟩ = some (.int .u64 (m.ic : Int)) ∧ w'.cell? ⟨Y, 4, none⟩ = some (.int .u64 (m.ba : Int)) ∧ w'.cell? ⟨Y, 5, none⟩ = some (.int .u64 (m.cu : Int)) ∧ w'.cell? ⟨Y, 6, none⟩ = some (.int .u64 (m.li : Int)) ∧ w'.cell? ⟨Y, 7, none⟩ = some (.slice m.Ar m.nr m.cr) ∧ w'.cell? ⟨Y, 8, none⟩ = some (.slice m.Ai m.ni m.ci))) ∧ OnceRel w w.heap.size (w.heap.size + 1) k m w' ∧ Sl w' w'.heap.size A1 n1 c1 (encB k.m) ∧ Sl w' w'.heap.size A2 n2 c2 (encB m.m)) := by rw [HP.out, hX, hY]; exact fun _ h => h
          replace hE : Ever Ps w5 := by rw [HP.out]; exact hE
          rw [← hY, ← hX]
          have HXY := Lib.hid hX
          have HYY := Lib.hid hY
          clear HP h1 h2 hsl1 hsl2 hri1 hri2 y1 y2 z1 z2 HB1 HB2 HR1 HR2 HS1 HS2 HD4 HD hX hY
          go_upto_region 10 with fail
          have hE2 := hE.drewN 1
          clear hE
          refine wp_region_noPanic ?_
          refine wp_region_held_drew (S := (fun w' => ((w'.cell? ⟨X, 0, none⟩ = some (.int .u8 (k.kd : Int)) ∧ w'.cell? ⟨X, 1, none⟩ = some (.int .i64 k.ag) ∧ w'.cell? ⟨X, 2, none⟩ = some (.int .u64 (k.ep : Int)) ∧ w'.cell? ⟨X, 3, none⟩ = some (.int .u64 (k.ic : Int)) ∧ w'.cell? ⟨X, 4, none⟩ = some (.int .u64 (k.ba : Int)) ∧ w'.cell? ⟨X, 5, none⟩ = some (.int .u64 (k.cu : Int)) ∧ w'.cell? ⟨X, 6, none⟩ = some (.int .u64 (k.li : Int)) ∧ w'.cell? ⟨X, 7, none⟩ = some (.slice k.Ar k.nr k.cr) ∧ w'.cell? ⟨X, 8, none⟩ = some (.slice k.Ai k.ni k.ci)) ∧ (w'.cell? ⟨Y, 0, none⟩ = some (.int .u8 (m.kd : Int)) ∧ w'.cell? ⟨Y, 1, none⟩ = some (.int .i64 m.ag) ∧ w'.cell? ⟨Y, 2, none⟩ = some (.int .u64 (m.ep : Int)) ∧ w'.cell? ⟨Y, 3, none⟩ = some (.int .u64 (m.ic : Int)) ∧ w'.cell? ⟨Y, 4, none⟩ = some (.int .u64 (m.ba : Int)) ∧ w'.cell? ⟨Y, 5, none⟩ = some (.int .u64 (m.cu : Int)) ∧ w'.cell? ⟨Y, 6, none⟩ = some (.int .u64 (m.li : Int)) ∧ w'.cell? ⟨Y, 7, none⟩ = some (.slice m.Ar m.nr m.cr) ∧ w'.cell? ⟨Y, 8, none⟩ = some (.slice m.Ai m.ni m.ci))) ∧ Ever Ps w')) (by kernel_rfl) ⟨(HN.out _ hE2.now).1, hE2⟩ (fun hHeld => ?_)
          refine wpAnyH_take (i := 0) (oi := { dst := some 47, op := Op.move (Operand.tmp 7), type := 37, pos := "law.go:149", after := #[], guard := none }) (v := ?_) rfl (by kernel_rfl) (by kernel_rfl) (by kernel_rfl) (fun _ _ _ h => h) (Or.inl ⟨by rfl, ?_⟩) (by assumption) ?_
          rotate_left
          · intro w hSw; (try dsimp only at hSw); first | (go_simp; done) | (go_simp; with_reducible rfl)
          try simp only [Act.put, List.setIfInBounds_toArray, List.set_cons_zero, List.set_cons_succ]
          refine wpAnyH_take (i := 1) (oi := { dst := some 48, op := Op.move (Operand.tmp 9), type := 37, pos := "law.go:149", after := #[], guard := none }) (v := ?_) rfl (by kernel_rfl) (by kernel_rfl) (by kernel_rfl) (fun _ _ _ h => h) (Or.inl ⟨by rfl, ?_⟩) (by assumption) ?_
          rotate_left
          · intro w hSw; (try dsimp only at hSw); first | (go_simp; done) | (go_simp; with_reducible rfl)
          try simp only [Act.put, List.setIfInBounds_toArray, List.set_cons_zero, List.set_cons_succ]
          refine wpAnyH_take (i := 3) (oi := { dst := some 50, op := Op.load 26 (Operand.tmp 3), type := 26, pos := "law.go:149", after := #[], guard := none }) (v := ?_) rfl (by kernel_rfl) (by kernel_rfl) (by kernel_rfl) (fun _ _ _ h => h) (Or.inl ⟨by rfl, ?_⟩) (by assumption) ?_
          rotate_left
          · intro w hSw; (try dsimp only at hSw); first | (go_simp; done) | (go_simp; with_reducible rfl)
          try simp only [Act.put, List.setIfInBounds_toArray, List.set_cons_zero, List.set_cons_succ]
          refine wpAnyH_take (i := 4) (oi := { dst := some 51, op := Op.load 26 (Operand.tmp 4), type := 26, pos := "law.go:149", after := #[], guard := none }) (v := ?_) rfl (by kernel_rfl) (by kernel_rfl) (by kernel_rfl) (fun _ _ _ h => h) (Or.inl ⟨by rfl, ?_⟩) (by assumption) ?_
          rotate_left
          · intro w hSw; (try dsimp only at hSw); first | (go_simp; done) | (go_simp; with_reducible rfl)
          try simp only [Act.put, List.setIfInBounds_toArray, List.set_cons_zero, List.set_cons_succ]
          refine wpAnyH_ready (rs := [2]) (by kernel_rfl) (by simp) ?_
          refine AllReadyH.cons (o := { dst := some 49, op := Op.call { callee := Callee.value (Operand.func 18), args := #[Operand.tmp 47, Operand.tmp 48], argTypes := #[37, 37] }, type := 4, pos := "law.go:149", after := #[{ on := 0, ground := Ground.data }, { on := 1, ground := Ground.data }], guard := none }) rfl (fun K hK => ?_) AllReadyH.nil
          go_simp
          go_at_call 18
          refine (same_any _ _ A1 A2 n1 c1 n2 c2 _ _ (HN.out _ hE2.now).2.2.1 (HN.out _ hE2.now).2.2.2).mono ?_
          rintro e wa ⟨rfl, qd, hwa⟩
          rw [HSB.out]
          replace hE2 := hE2.next (w2 := wa) (by rw [hwa]; exact below_drewN (Below.refl _ _) qd)
          clear hwa
          go_wp2_with fail
          clear hHeld
          refine hK.out _ _ ⟨(HN.out _ hE2.now).1, hE2⟩ (fun hHeld => ?_)
          clear hK K
          try simp only [Act.put, List.setIfInBounds_toArray, List.set_cons_zero, List.set_cons_succ]
          refine wpAnyH_ready (rs := [5]) (by kernel_rfl) (by simp) ?_
          refine AllReadyH.cons (o := { dst := some 52, op := Op.call { callee := Callee.value (Operand.func 15), args := #[Operand.tmp 50, Operand.tmp 51], argTypes := #[26, 26] }, type := 4, pos := "law.go:149", after := #[{ on := 3, ground := Ground.data }, { on := 4, ground := Ground.data }, { on := 2, ground := Ground.chain }], guard := none }) rfl (fun K hK => ?_) AllReadyH.nil
          go_simp
          go_at_call 15
          have hcs := sameF_any _ k m (HFK.out.on (HN.out _ hE2.now).2.1.b) (HFM.out.on (HN.out _ hE2.now).2.1.b)
          rw [HVK.out, HVM.out, HBB.out] at hcs
          refine hcs.mono ?_
          rintro e ws ⟨rfl, hbs⟩
          replace hE2 := hE2.next hbs
          clear hbs hcs
          go_wp2_with fail
          clear hHeld
          refine hK.out _ _ ⟨(HN.out _ hE2.now).1, hE2⟩ (fun hHeld => ?_)
          clear hK K
          try simp only [Act.put, List.setIfInBounds_toArray, List.set_cons_zero, List.set_cons_succ]
          refine wpAnyH_take (i := 6) (oi := { dst := some 53, op := Op.binOp BinOp.eql 4 (Operand.tmp 49) (Operand.tmp 52) 4, type := 4, pos := "law.go:149", after := #[{ on := 2, ground := Ground.data }, { on := 5, ground := Ground.data }], guard := none }) (v := ?_) rfl (by kernel_rfl) (by kernel_rfl) (by kernel_rfl) (fun _ _ _ h => h) (Or.inl ⟨by rfl, ?_⟩) (by assumption) ?_
          rotate_left
          · intro w hSw; (try dsimp only at hSw); first | (go_simp; done) | (go_simp; with_reducible rfl)
          try simp only [Act.put, List.setIfInBounds_toArray, List.set_cons_zero, List.set_cons_succ]
          refine wpAnyH_take (i := 7) (oi := { dst := some 54, op := Op.move (Operand.tmp 53), type := 4, pos := "law.go:149", after := #[{ on := 6, ground := Ground.data }, { on := 5, ground := Ground.chain }], guard := none }) (v := ?_) rfl (by kernel_rfl) (by kernel_rfl) (by kernel_rfl) (fun _ _ _ h => h) (Or.inl ⟨by rfl, ?_⟩) (by assumption) ?_
          rotate_left
          · intro w hSw; (try dsimp only at hSw); first | (go_simp; done) | (go_simp; with_reducible rfl)
          try simp only [Act.put, List.setIfInBounds_toArray, List.set_cons_zero, List.set_cons_succ]
          refine wpAnyH_take (i := 8) (oi := { dst := some 55, op := Op.load 26 (Operand.tmp 3), type := 26, pos := "law.go:149", after := #[{ on := 7, ground := Ground.guard }], guard := some (7, true) }) (v := ?_) rfl (by kernel_rfl) (by kernel_rfl) (by kernel_rfl) (fun _ _ _ h => h) (Or.inl ⟨by rfl, ?_⟩) (by assumption) ?_
          rotate_left
          · intro w hSw; (try dsimp only at hSw); first | (go_simp; done) | (go_simp; with_reducible rfl)
          try simp only [Act.put, List.setIfInBounds_toArray, List.set_cons_zero, List.set_cons_succ]
          refine wpAnyH_take (i := 9) (oi := { dst := some 56, op := Op.load 26 (Operand.tmp 4), type := 26, pos := "law.go:149", after := #[{ on := 7, ground := Ground.guard }], guard := some (7, true) }) (v := ?_) rfl (by kernel_rfl) (by kernel_rfl) (by kernel_rfl) (fun _ _ _ h => h) (Or.inl ⟨by rfl, ?_⟩) (by assumption) ?_
          rotate_left
          · intro w hSw; (try dsimp only at hSw); first | (go_simp; done) | (go_simp; with_reducible rfl)
          try simp only [Act.put, List.setIfInBounds_toArray, List.set_cons_zero, List.set_cons_succ]
          refine wpAnyH_take (i := 11) (oi := { dst := some 58, op := Op.load 26 (Operand.tmp 3), type := 26, pos := "law.go:149", after := #[{ on := 7, ground := Ground.guard }], guard := some (7, true) }) (v := ?_) rfl (by kernel_rfl) (by kernel_rfl) (by kernel_rfl) (fun _ _ _ h => h) (Or.inl ⟨by rfl, ?_⟩) (by assumption) ?_
          rotate_left
          · intro w hSw; (try dsimp only at hSw); first | (go_simp; done) | (go_simp; with_reducible rfl)
          try simp only [Act.put, List.setIfInBounds_toArray, List.set_cons_zero, List.set_cons_succ]
          refine wpAnyH_take (i := 13) (oi := { dst := some 60, op := Op.load 26 (Operand.tmp 4), type := 26, pos := "law.go:149", after := #[{ on := 7, ground := Ground.guard }], guard := some (7, true) }) (v := ?_) rfl (by kernel_rfl) (by kernel_rfl) (by kernel_rfl) (fun _ _ _ h => h) (Or.inl ⟨by rfl, ?_⟩) (by assumption) ?_
          rotate_left
          · intro w hSw; (try dsimp only at hSw); first | (go_simp; done) | (go_simp; with_reducible rfl)
          try simp only [Act.put, List.setIfInBounds_toArray, List.set_cons_zero, List.set_cons_succ]
          refine wpAnyH_ready (rs := [10]) (by kernel_rfl) (by simp) ?_
          refine AllReadyH.cons (o := { dst := some 57, op := Op.call { callee := Callee.value (Operand.func 15), args := #[Operand.tmp 55, Operand.tmp 56], argTypes := #[26, 26] }, type := 4, pos := "law.go:149", after := #[{ on := 8, ground := Ground.data }, { on := 9, ground := Ground.data }, { on := 7, ground := Ground.chain }, { on := 7, ground := Ground.guard }], guard := some (7, true) }) rfl (fun K hK => ?_) AllReadyH.nil
          go_simp
          go_at_call 15
          have hcs := sameF_any _ k m (HFK.out.on (HN.out _ hE2.now).2.1.b) (HFM.out.on (HN.out _ hE2.now).2.1.b)
          rw [HVK.out, HVM.out, HBB.out] at hcs
          refine hcs.mono ?_
          rintro e ws ⟨rfl, hbs⟩
          replace hE2 := hE2.next hbs
          clear hbs hcs
          go_wp2_with fail
          clear hHeld
          refine hK.out _ _ ⟨(HN.out _ hE2.now).1, hE2⟩ (fun hHeld => ?_)
          clear hK K
          try simp only [Act.put, List.setIfInBounds_toArray, List.set_cons_zero, List.set_cons_succ]
          refine wpAnyH_ready (rs := [12]) (by kernel_rfl) (by simp) ?_
          refine AllReadyH.cons (o := { dst := some 59, op := Op.call { callee := Callee.value (Operand.func 14), args := #[Operand.tmp 58], argTypes := #[26] }, type := 33, pos := "law.go:149", after := #[{ on := 11, ground := Ground.data }, { on := 10, ground := Ground.chain }, { on := 7, ground := Ground.guard }], guard := some (7, true) }) rfl (fun K hK => ?_) AllReadyH.nil
          go_simp
          go_at_call 14
          have hco := own_any _ k (HFK.out.on (HN.out _ hE2.now).2.1.b) HSK.out.1 HSK.out.2
          rw [HVK.out] at hco
          refine hco.mono ?_
          rintro e wo ⟨k', rfl, hfo, hmo, hno, hio, hbo⟩
          replace hE2 := hE2.next hbo
          clear hbo hco hno hio
          go_wp2_with fail
          clear hHeld
          refine hK.out _ _ ⟨(HN.out _ hE2.now).1, hE2⟩ (fun hHeld => ?_)
          clear hK K
          try simp only [Act.put, List.setIfInBounds_toArray, List.set_cons_zero, List.set_cons_succ]
          refine wpAnyH_ready (rs := [14]) (by kernel_rfl) (by simp) ?_
          refine AllReadyH.cons (o := { dst := some 61, op := Op.call { callee := Callee.value (Operand.func 14), args := #[Operand.tmp 60], argTypes := #[26] }, type := 33, pos := "law.go:149", after := #[{ on := 13, ground := Ground.data }, { on := 12, ground := Ground.chain }, { on := 7, ground := Ground.guard }], guard := some (7, true) }) rfl (fun K hK => ?_) AllReadyH.nil
          go_simp
          go_at_call 14
          have hco := own_any _ m (HFM.out.on (HN.out _ hE2.now).2.1.b) HSM.out.1 HSM.out.2
          rw [HVM.out] at hco
          refine hco.mono ?_
          rintro e wo ⟨m', rfl, hfo2, hmo2, hno2, hio2, hbo2⟩
          replace hfo := hfo.on hbo2
          replace hE2 := hE2.next hbo2
          clear hbo2 hco hno2 hio2
          go_wp2_with fail
          clear hHeld
          refine hK.out _ _ ⟨(HN.out _ hE2.now).1, hE2⟩ (fun hHeld => ?_)
          clear hK K
          try simp only [Act.put, List.setIfInBounds_toArray, List.set_cons_zero, List.set_cons_succ]
          refine wpAnyH_ready (rs := [15]) (by kernel_rfl) (by simp) ?_
          refine AllReadyH.cons (o := { dst := some 62, op := Op.call { callee := Callee.value (Operand.func 23), args := #[Operand.tmp 59, Operand.tmp 61], argTypes := #[33, 33] }, type := 4, pos := "law.go:149", after := #[{ on := 12, ground := Ground.data }, { on := 14, ground := Ground.data }, { on := 14, ground := Ground.chain }, { on := 7, ground := Ground.guard }], guard := some (7, true) }) rfl (fun K hK => ?_) AllReadyH.nil
          go_simp
          go_at_call 23
          refine (refSameF_any _ k' m' hfo hfo2).mono ?_
          rintro e wr ⟨rfl, hbr⟩
          rw [hmo, hmo2, HBB.out]
          replace hE2 := hE2.next hbr
          clear hbr hfo hfo2 hmo hmo2
          go_wp2_with fail
          clear hHeld
          refine hK.out _ _ ⟨(HN.out _ hE2.now).1, hE2⟩ (fun hHeld => ?_)
          clear hK K
          try simp only [Act.put, List.setIfInBounds_toArray, List.set_cons_zero, List.set_cons_succ]
          refine wpAnyH_take (i := 16) (oi := { dst := some 63, op := Op.binOp BinOp.eql 4 (Operand.tmp 57) (Operand.tmp 62) 4, type := 4, pos := "law.go:149", after := #[{ on := 10, ground := Ground.data }, { on := 15, ground := Ground.data }, { on := 7, ground := Ground.guard }], guard := some (7, true) }) (v := ?_) rfl (by kernel_rfl) (by kernel_rfl) (by kernel_rfl) (fun _ _ _ h => h) (Or.inl ⟨by rfl, ?_⟩) (by assumption) ?_
          rotate_left
          · intro w hSw; (try dsimp only at hSw); first | (go_simp; done) | (go_simp; with_reducible rfl)
          try simp only [Act.put, List.setIfInBounds_toArray, List.set_cons_zero, List.set_cons_succ]
          refine wpAnyH_take (i := 17) (oi := { dst := some 64, op := Op.pick (Operand.tmp 54) (Operand.tmp 63) (Operand.const (Value.bool false)), type := 4, pos := "law.go:149", after := #[{ on := 7, ground := Ground.data }, { on := 16, ground := Ground.data }], guard := none }) (v := ?_) rfl (by kernel_rfl) (by kernel_rfl) (by kernel_rfl) (fun _ _ _ h => h) (Or.inl ⟨by rfl, ?_⟩) (by assumption) ?_
          rotate_left
          · intro w hSw; (try dsimp only at hSw); first | (go_simp; done) | (go_simp; with_reducible rfl)
          try simp only [Act.put, List.setIfInBounds_toArray, List.set_cons_zero, List.set_cons_succ]
          refine wpAnyH_take (i := 18) (oi := { dst := some 6, op := Op.assign (Operand.tmp 64), type := 4, pos := "law.go:149", after := #[{ on := 17, ground := Ground.data }, { on := 15, ground := Ground.chain }, { on := 0, ground := Ground.phase }, { on := 1, ground := Ground.phase }, { on := 2, ground := Ground.phase }, { on := 3, ground := Ground.phase }, { on := 4, ground := Ground.phase }, { on := 5, ground := Ground.phase }, { on := 6, ground := Ground.phase }, { on := 7, ground := Ground.phase }, { on := 8, ground := Ground.phase }, { on := 9, ground := Ground.phase }, { on := 10, ground := Ground.phase }, { on := 11, ground := Ground.phase }, { on := 12, ground := Ground.phase }, { on := 13, ground := Ground.phase }, { on := 14, ground := Ground.phase }, { on := 15, ground := Ground.phase }, { on := 16, ground := Ground.phase }, { on := 17, ground := Ground.phase }], guard := none }) (v := ?_) rfl (by kernel_rfl) (by kernel_rfl) (by kernel_rfl) (fun _ _ _ h => h) (Or.inl ⟨by rfl, ?_⟩) (by assumption) ?_
          rotate_left
          · intro w hSw; (try dsimp only at hSw); first | (go_simp; done) | (go_simp; with_reducible rfl)
          try simp only [Act.put, List.setIfInBounds_toArray, List.set_cons_zero, List.set_cons_succ]
          refine wpAnyH_done (by kernel_rfl) ?_ _
          refine NoPanic.normal ?_
          have HBX := Lib.hid (HN.out _ hE2.now).2.1.b
          clear hE2
          go_wp2
          go_ret
          exact ⟨rfl, HBX.out⟩
        · have x2 : ((e2 : Int) != 0) = true := by simp; omega
          clear h1 h2
          obtain ⟨q0, q1, q2, q3, q4, q5, q6, q7, q8⟩ := cells9 HD5.out.f
          go_wp2_with fail
          have hc := rightF_any _ k (HFK.out.on HD5.out.b)
          rw [HVK.out, ← HB1.out] at hc
          refine hc.mono ?_
          rintro e w6 ⟨rfl, hb6⟩
          have HD6 := Lib.hid (HD5.out.on hb6)
          obtain ⟨p0, p1, p2, p3, p4, p5, p6, p7, p8⟩ := cells9 HD6.out.g
          clear hc hb6 q0 q1 q2 q3 q4 q5 q6 q7 q8
          go_wp2_with fail
          have hc := rightF_any _ m (HFM.out.on HD6.out.b)
          rw [HVM.out, ← HB2.out] at hc
          refine hc.mono ?_
          rintro e w7 ⟨rfl, hb7⟩
          have HD7 := Lib.hid (HD6.out.on hb7)
          clear hc hb7 p0 p1 p2 p3 p4 p5 p6 p7 p8
          go_wp2
          go_ret
          exact ⟨rfl, HD7.out.b⟩
      · have x1 : ((e1 : Int) != 0) = true := by simp; omega
        clear h1
        obtain ⟨q0, q1, q2, q3, q4, q5, q6, q7, q8⟩ := cells9 HD5.out.f
        go_wp2_with fail
        have hc := rightF_any _ k (HFK.out.on HD5.out.b)
        rw [HVK.out, ← HB1.out] at hc
        refine hc.mono ?_
        rintro e w6 ⟨rfl, hb6⟩
        have HD6 := Lib.hid (HD5.out.on hb6)
        obtain ⟨p0, p1, p2, p3, p4, p5, p6, p7, p8⟩ := cells9 HD6.out.g
        clear hc hb6 q0 q1 q2 q3 q4 q5 q6 q7 q8
        go_wp2_with fail
        have hc := rightF_any _ m (HFM.out.on HD6.out.b)
        rw [HVM.out, ← HB2.out] at hc
        refine hc.mono ?_
        rintro e w7 ⟨rfl, hb7⟩
        have HD7 := Lib.hid (HD6.out.on hb7)
        clear hc hb7 p0 p1 p2 p3 p4 p5 p6 p7 p8
        go_wp2
        go_ret
        exact ⟨rfl, HD7.out.b⟩
end Go.Proofs.YtlkcnpmgafckoaaDoor
