/-
  WALK of SharePlans.
-/
import Derived.Test.YtfmfamnngfanfaaPlanRef
namespace Go.Proofs.Ytfmfamnngfanfaa
open Go.RowKit Go.Sort

set_option maxRecDepth 100000 in
set_option maxHeartbeats 4000000 in
theorem rplan_no (w : World) (cap : Int) (Aw : Option Addr) (nw cw : Nat) (W : List Int) (Aq : Option Addr) (nq cq : Nat) (Q : List Ic) (cls size : Int) (hw : Is w w.heap.size Aw nw cw W) (hq : Iss w w.heap.size Aq nq cq Q) (hc : qcnt Q ≤ 1000000) (hf : fitsB cap W nq nw Q cls size = false) :
    Calls Try.prog 16 #[.int .i64 cap, .slice Aw nw cw, .slice Aq nq cq, .int .i64 cls, .int .i64 size] w (fun e w' => e = .returned (.tuple #[.slice none 0 0, .bool false]) ∧ w = w') := by
  have HFT := Lib.hid hf
  have HW := Lib.hid hw
  have HQ := Lib.hid hq
  clear hf hw hq
  go_enter Try.func16, Try.ntmps16
  go_wp2_with fail
  refine (fits_any w cap Aw nw cw W Aq nq cq Q cls size HW.out HQ.out hc).mono ?_
  rintro e w1 ⟨rfl, rfl⟩
  rw [HFT.out]
  go_wp2_with fail
  go_ret2
  exact ⟨rfl, rfl⟩
theorem eqIn_eqV (a b : Nat × Nat) (w : World) : (Op.equalIn 10000 33 (.agg #[.int .i64 (a.1 : Int), .int .i64 (a.2 : Int)]) (.agg #[.int .i64 (b.1 : Int), .int .i64 (b.2 : Int)])).run Try.prog w = .ok (decide (a = b)) w := by
  have hS : Try.prog.underlying 33 = some (.struct (Try.prog.fieldsOf 33)) := by kernel_rfl
  have hp : Try.prog.stoodInHeld 33 = false := by kernel_rfl
  have u3 := Try.underlying3
  have a3 := Try.isAgg3
  have z3 := Try.sizeOf3
  rw [show (10000 : Nat) = 9999 + 1 from rfl, run_equalIn_agg w 9999 33 _ _ hS hp]
  simp only [Program.fieldsOf, Try.underlying33]
  go_simp
  obtain ⟨a1, a2⟩ := a
  obtain ⟨b1, b2⟩ := b
  by_cases h1 : a1 = b1 <;> by_cases h2 : a2 = b2 <;> simp [h1, h2] <;> omega
theorem guard_eqV : Try.prog.eqGuardType Try.prog.depth 33 = false := by kernel_rfl
theorem vvsAt2 {out : List (Nat × Nat)} {j t : Nat} {x : Nat × Nat} (h : out[j]? = some x) (ht : t < 2) : (vvs out)[j * 2 + t]? = some ([Value.int .i64 (x.1 : Int), Value.int .i64 (x.2 : Int)].getD t undef) := by
  induction out generalizing j with
  | nil => simp at h
  | cons a out ih =>
    unfold vvs at *
    rw [List.flatMap_cons]
    rcases j with _ | j
    · simp at h
      subst h
      rcases t with _ | _ | t
      · rfl
      · rfl
      · omega
    · have := ih (j := j) (by simpa using h)
      rw [List.getElem?_append_right (by simp; omega)]
      rw [← this]
      congr 1
      simp
      omega
/-! ### alike lists -/
theorem qcnt_sum {w : World} {Q : List Ic} (h : ∀ x ∈ Q, Is w w.heap.size x.A x.n x.c x.L) : qcnt Q = ((Q.map (·.L)).map List.length).sum := by
  induction Q with
  | nil => rfl
  | cons x Q ih =>
    have h1 := (h x List.mem_cons_self).len
    simp only [qcnt, List.map_cons, List.sum_cons, ih (fun y hy => h y (List.mem_cons_of_mem _ hy)), h1]
theorem qcnt_few2 {Q : List Ic} (L : List (List Int)) (w : World) (h : ∀ x ∈ Q, Is w w.heap.size x.A x.n x.c x.L) (e : Q.map (·.L) = L) (hl : L.length ≤ 10) (h30 : ∀ l ∈ L, l.length ≤ 30) : qcnt Q ≤ 300 := by
  have h1 : ∀ x ∈ Q, x.n ≤ 30 := fun x hx => by
    have := (h x hx).len
    have h2 := h30 x.L (by rw [← e]; exact List.mem_map_of_mem hx)
    omega
  have h2 := qcnt_few h1
  have h3 := congrArg List.length e
  simp at h3
  omega
theorem bndQ_same {w w2 : World} {Q R : List Ic} (hq : ∀ x ∈ Q, Is w w.heap.size x.A x.n x.c x.L) (hr : ∀ x ∈ R, Is w2 w2.heap.size x.A x.n x.c x.L) (e : Q.map (·.L) = R.map (·.L)) : bndQ Q = bndQ R := by
  have h1 : ∀ Z : List Ic, Z.all (fun x => x.L.all okS) = (Z.map (·.L)).all (fun l => l.all okS) := fun Z => by rw [List.all_map]; rfl
  unfold bndQ
  rw [h1, h1, e, qcnt_sum hq, qcnt_sum hr, e]
theorem stTo_same {Q R : List Ic} (e : Q.map (·.L) = R.map (·.L)) (cls : Nat) (size : Int) : ∀ k, stTo Q cls size k = stTo R cls size k
  | 0 => rfl
  | k + 1 => by
    have h1 : (Q.getD k default).L = (R.getD k default).L := by
      have h2 := congrArg (·[k]?) e
      simp only [List.getElem?_map] at h2
      rw [List.getD_eq_getElem?_getD, List.getD_eq_getElem?_getD]
      cases hq : Q[k]? <;> cases hr : R[k]? <;> simp [hq, hr] at h2 ⊢
      exact h2
    rw [stTo, stTo, stTo_same e cls size k]
    unfold szs
    rw [h1]
theorem fewL_fewL {Q R : List Ic} (h : R.map (·.L) = fewL Q Q.length) : fewL R R.length = fewL Q Q.length := by
  have h1 : fewL R R.length = ((R.map (·.L)).take 10).map (·.take 30) := by
    unfold fewL
    rw [List.take_of_length_le (Nat.le_refl _), ← List.map_take, List.map_map]
    rfl
  rw [h1, h]
  unfold fewL
  rw [List.take_of_length_le (by simp; omega)]
  rw [List.map_map]
  congr 1
  funext x
  simp [List.take_take]
theorem fewL_len (Q : List Ic) : (fewL Q Q.length).length ≤ 10 := by unfold fewL; simp; omega
theorem fewL_30 (Q : List Ic) : ∀ l ∈ fewL Q Q.length, l.length ≤ 30 := by
  unfold fewL
  intro l hl
  obtain ⟨x, _, rfl⟩ := List.mem_map.1 hl
  simp
  omega
def VicRel (w : World) (n gk : Nat) (vi : Value) (wr : World) : Prop := ∃ k, gk + k = n ∧ vi = .int .i64 (k : Int) ∧ RowKit.Below w.heap.size w wr
set_option maxRecDepth 100000 in
set_option maxHeartbeats 8000000 in
theorem sharePlans_law (w : World) (cap : Int) (_hcap : -9223372036854775808 ≤ cap ∧ cap ≤ 9223372036854775807) (Aw : Option Addr) (nw cw : Nat) (W : List Int) (hW : Is w w.heap.size Aw nw cw W) (Aq : Option Addr) (nq cq : Nat) (Q : List Ic) (hQ : Iss w w.heap.size Aq nq cq Q) (cls : Int) (_hcls : -9223372036854775808 ≤ cls ∧ cls ≤ 9223372036854775807) (size : Int) (_hsize : -9223372036854775808 ≤ size ∧ size ≤ 9223372036854775807) :
    Calls Try.prog 3 #[.int .i64 cap, .slice Aw nw cw, .slice Aq nq cq, .int .i64 cls, .int .i64 size] w (Says w (.bool true)) := by
  have HW := Lib.hid hW
  have HQ := Lib.hid hQ
  clear hW hQ
  go_enter Try.func3, Try.ntmps3
  go_wp2_with fail
  refine (awake8_any w).mono ?_
  rintro e w1 ⟨rfl, hb1⟩
  have HB1 := Lib.hid hb1
  clear hb1
  go_wp2_with fail
  refine (few8_any w1 Aq nq cq Q (HQ.out.on HB1.out (Nat.le_refl _))).mono ?_
  rintro e w2 ⟨A1, n1, c1, R1, rfl, hi1, he1, hb2⟩
  have HI1 := Lib.hid hi1
  have HE1 := Lib.hid he1
  have HB2 := Lib.hid (HB1.out.trans (hb2.mono HB1.out.size))
  clear hi1 he1 hb2
  go_wp2_with fail
  refine (few8_any w2 A1 n1 c1 R1 HI1.out).mono ?_
  rintro e w3 ⟨A2, n2, c2, R2', rfl, hi2, he2, hb3⟩
  have HI2 := Lib.hid hi2
  have HE2 : Hid (R2'.map (·.L) = R1.map (·.L)) := Lib.hid (by rw [he2, fewL_fewL HE1.out, HE1.out])
  have HI13 := Lib.hid (HI1.out.on hb3 (Nat.le_refl _))
  have HB3 := Lib.hid (HB2.out.trans (hb3.mono HB2.out.size))
  have HW3 := Lib.hid (HW.out.on HB3.out (Nat.le_refl _))
  have hq1 : qcnt R1 ≤ 300 := qcnt_few2 _ w3 HI13.out.each HE1.out (fewL_len Q) (fewL_30 Q)
  have hq2 : qcnt R2' ≤ 300 := qcnt_few2 _ w3 HI2.out.each (HE2.out.trans HE1.out) (fewL_len Q) (fewL_30 Q)
  have hn12 : n1 = n2 := by have h1 := HI13.out.len; have h2 := HI2.out.len; have h3 := congrArg List.length HE2.out; simp at h3; omega
  have hfs : fitsB cap W n2 nw R2' cls size = fitsB cap W n1 nw R1 cls size := by
    unfold fitsB
    rw [bndQ_same HI2.out.each HI13.out.each HE2.out, hn12]
  have HFS := Lib.hid hfs
  have hn1m : n1 ≤ 10 := by have h1 := HI13.out.len; have h2 := congrArg List.length HE1.out; have h3 := fewL_len Q; simp at h2; omega
  obtain rfl : n1 = n2 := hn12
  clear hi2 he2 hb3 hfs
  cases hf : fitsB cap W n1 nw R1 cls size
  · have hp1 := plan_no w3 cap Aw nw cw W A1 n1 c1 R1 cls size HW3.out HI13.out (by omega) hf
    have HP1 := Lib.hid hp1
    have HF2 : Hid (fitsB cap W n1 nw R2' cls size = false) := Lib.hid (by rw [HFS.out, hf])
    clear hf hp1
    go_wp2_with fail
    refine HP1.out.mono ?_
    rintro e w4 ⟨rfl, rfl⟩
    go_wp2_with fail
    refine (rplan_no w3 cap Aw nw cw W A2 n1 c2 R2' cls size HW3.out HI2.out (by omega) HF2.out).mono ?_
    rintro e w4 ⟨rfl, rfl⟩
    go_wp2_with fail
    go_loopg [55] 0 (fun gk vi wr => VicRel w3 0 gk vi wr)
    case atStart => exact ⟨0, rfl, rfl, RowKit.Below.refl _ _⟩
    case round =>
      obtain ⟨i0', hg0, rfl, hb0⟩ := hrel
      obtain rfl : i0' = 0 := by omega
      have HBZ := Lib.hid (HB3.out.trans (hb0.mono HB3.out.size))
      have HJ1 := Lib.hid (HI13.out.on hb0 (Nat.le_refl _))
      have HJ2 := Lib.hid (HI2.out.on hb0 (Nat.le_refl _))
      clear hb0
      obtain ⟨wz, rfl⟩ : ∃ y, y = wr := ⟨_, rfl⟩
      go_wp2_with fail
      go_loopg [70] n1 (fun gk vi wr => VicRel wz n1 gk vi wr)
      case atStart => exact ⟨0, rfl, rfl, RowKit.Below.refl _ _⟩
      case round =>
        obtain ⟨i, hgi, rfl, hbi⟩ := hrel
        have HBI := Lib.hid hbi
        clear hbi
        by_cases hin : i < n1
        · obtain ⟨b1, o1, x1, rfl, _, hx1, hc1, hxi1⟩ := (HJ1.out.on HBI.out (Nat.le_refl _)).at_ hin
          obtain ⟨b2, o2, x2, rfl, _, hx2, hc2, hxi2⟩ := (HJ2.out.on HBI.out (Nat.le_refl _)).at_ hin
          have hxx : x2.L = x1.L := by
            have h1 := congrArg (·[i]?) HE2.out
            simp only [List.getElem?_map, hx1, hx2, Option.map_some, Option.some.injEq] at h1
            exact h1
          have hnn : x2.n = x1.n := by have h1 := hxi1.len; have h2 := hxi2.len; rw [hxx] at h2; omega
          have HXI1 := Lib.hid hxi1
          have HXI2 : Hid (Is wr wr.heap.size x2.A x1.n x2.c x1.L) := Lib.hid (by rw [← hxx, ← hnn]; exact hxi2)
          rw [hnn] at hc2
          have HXX := Lib.hid hxx
          have hxm : x1.n ≤ 9223372036854775807 := Nat.le_trans hxi1.sn.le hxi1.sn.max
          clear hx1 hx2 hxi1 hxi2 hxx hnn
          obtain ⟨g0, rfl⟩ : ∃ x, x = gk := ⟨_, rfl⟩
          obtain ⟨wo, rfl⟩ : ∃ y, y = wr := ⟨_, rfl⟩
          go_wp2_with fail
          go_loopg [78] x1.n (fun gk vi wr => VicRel wo x1.n gk vi wr)
          case atStart => exact ⟨0, rfl, rfl, RowKit.Below.refl _ _⟩
          case round =>
            obtain ⟨j, hgj, rfl, hbj⟩ := hrel
            have HBJ := Lib.hid hbj
            have HWZ := Lib.hid (HBI.out.trans (hbj.mono HBI.out.size))
            by_cases hjn : j < x1.n
            · obtain ⟨b3, o3, y3, hA3, _, hy3, hc3, _⟩ := (HXI1.out.on hbj (Nat.le_refl _)).at_ hjn
              obtain ⟨b4, o4, y4, hA4, _, hy4, hc4, _⟩ := (HXI2.out.on hbj (Nat.le_refl _)).at_ hjn
              rw [hy3] at hy4
              injection hy4 with hy4
              subst hy4
              have hk1 := (hbj.cell (p := ⟨b1, o1 + i, none⟩) (World.block_lt_of_cell? wo _ hc1)).trans hc1
              have hk2 := (hbj.cell (p := ⟨b2, o2 + i, none⟩) (World.block_lt_of_cell? wo _ hc2)).trans hc2
              rw [hA3] at hk1
              rw [hA4] at hk2
              have hne : (y3 != y3) = false := by simp
              clear hy3 hbj
              go_wp2_with fail
              go_quiet (fail)
              go_wp2_with fail
              go_roundg (gk - 1)
              case measure => omega
              case rel => exact ⟨j + 1, by omega, by go_num, below_drewN HBJ.out _⟩
            · clear hbj
              go_wp2_with fail
              go_roundg (g0 - 1)
              case measure => omega
              case rel => exact ⟨i + 1, by omega, by go_num, HWZ.out⟩
        · have HBF := Lib.hid (HBZ.out.trans (HBI.out.mono HBZ.out.size))
          have HWF := Lib.hid (HW.out.on HBF.out (Nat.le_refl _))
          have hrr : (rightW W == rightW W) = true := by simp
          go_wp2_with fail
          refine (shRight_any wr Aw nw cw W HWF.out).mono ?_
          rintro e w5 ⟨rfl, rfl⟩
          go_wp2_with fail
          refine (refRight8_any wr Aw nw cw W HWF.out).mono ?_
          rintro e w5 ⟨rfl, rfl⟩
          go_wp2_with fail
          go_ret
          exact ⟨by first | rfl | (rw [hrr]), HBF.out⟩
  · obtain ⟨f1, f2, f3, f4, f5, f6, f7, f8, f9⟩ := (fits_iff _ _ _ _ _ _ _).1 hf
    obtain ⟨clN, rfl⟩ := Int.eq_ofNat_of_zero_le f3
    subst f2
    have hA1 : Asks w3 cap Aw n1 cw W A1 n1 c1 R1 clN size := ⟨HW3.out, HI13.out, f1, rfl, by omega, ⟨f5, f6⟩, ⟨f7, f8⟩, f9, by omega⟩
    have hp1 := plan_ok w3 cap Aw n1 cw W A1 n1 c1 R1 clN size hA1
    have HP1 := Lib.hid hp1
    have HF9 : Hid (bndQ R2' = true) := Lib.hid (by rw [bndQ_same HI2.out.each HI13.out.each HE2.out]; exact f9)
    have HF1 := Lib.hid f1
    have HST := Lib.hid (stTo_same HE2.out clN size n1)
    clear hf hA1 hp1 f1 f9
    go_wp2_with fail
    refine HP1.out.mono ?_
    rintro e w4 ⟨out1, Av, nv, cv, hgo1, rfl, hown1, hb4⟩
    have HGO1 := Lib.hid hgo1
    have HOW1 := Lib.hid (Sn.of_own hown1)
    have HB4 := Lib.hid (HB3.out.trans (hb4.mono HB3.out.size))
    have HI14 := Lib.hid (HI13.out.on hb4 (Nat.le_refl _))
    have HI24 := Lib.hid (HI2.out.on hb4 (Nat.le_refl _))
    have hp2 := rplan_ok w4 cap Aw n1 cw W A2 n1 c2 R2' clN size ⟨HW.out.on HB4.out (Nat.le_refl _), HI24.out, HF1.out, rfl, by omega, ⟨f5, f6⟩, ⟨f7, f8⟩, HF9.out, by omega⟩ (by omega)
    have HP2 := Lib.hid hp2
    clear hgo1 hown1 hb4 hp2
    go_wp2_with fail
    refine HP2.out.mono ?_
    rintro e w5 ⟨out2, Au, nu, cu, hgo2, rfl, hown2, hb5⟩
    rw [HST.out] at hgo2
    have hoo : out1 = out2 := HGO1.out.uniq hgo2
    subst hoo
    have HV1 := Lib.hid (HOW1.out.on hb5 (Nat.le_refl _))
    have HV2 := Lib.hid (Sn.of_own hown2)
    have HB5 := Lib.hid (HB4.out.trans (hb5.mono HB4.out.size))
    have HI15 := Lib.hid (HI14.out.on hb5 (Nat.le_refl _))
    have HI25 := Lib.hid (HI24.out.on hb5 (Nat.le_refl _))
    have hnv1 : out1.length = nv := by have := HV1.out.len; rw [vvs_len] at this; omega
    have hnu1 : out1.length = nu := by have := HV2.out.len; rw [vvs_len] at this; omega
    obtain rfl : nv = nu := by omega
    have hnvm : nv ≤ 9223372036854775807 := Nat.le_trans HV1.out.le HV1.out.max
    have hne : ((nv : Int) != (nv : Int)) = false := by simp
    clear hgo2 hown2 hb5 hnu1
    go_wp2_with fail
    go_loopg [55] nv (fun gk vi wr => VicRel w5 nv gk vi wr)
    case atStart => exact ⟨0, rfl, rfl, RowKit.Below.refl _ _⟩
    case round =>
      obtain ⟨q, hgq, rfl, hbq⟩ := hrel
      have HBQ := Lib.hid hbq
      by_cases hqn : q < nv
      · obtain ⟨v, hv⟩ : ∃ v, out1[q]? = some v := ⟨_, List.getElem?_eq_getElem (by omega)⟩
        obtain ⟨b1, o1, rfl, _, hd1⟩ := (HV1.out.on hbq (Nat.le_refl _)).cell (by omega)
        obtain ⟨b2, o2, rfl, _, hd2⟩ := (HV2.out.on hbq (Nat.le_refl _)).cell (by omega)
        have hg := fun t ht => vvsAt2 (t := t) hv ht
        have k10 := hd1 _ _ (hg 0 (by omega)); have k11 := hd1 _ _ (hg 1 (by omega))
        have k20 := hd2 _ _ (hg 0 (by omega)); have k21 := hd2 _ _ (hg 1 (by omega))
        rw [Nat.add_zero] at k10 k20
        rw [← Nat.add_assoc] at k11 k21
        have he := eqIn_eqV v v
        have hG := guard_eqV
        have hdv : decide (v = v) = true := by simp
        clear hv hd1 hd2 hg hbq
        go_wp2_with fail
        go_quiet (fail)
        go_wp2_with fail
        go_roundg (gk - 1)
        case measure => omega
        case rel => exact ⟨q + 1, by omega, by go_num, below_drewN HBQ.out _⟩
      · have HBZ := Lib.hid (HB5.out.trans (hbq.mono HB5.out.size))
        have HJ1 := Lib.hid (HI15.out.on hbq (Nat.le_refl _))
        have HJ2 := Lib.hid (HI25.out.on hbq (Nat.le_refl _))
        clear hbq
        obtain ⟨wz, rfl⟩ : ∃ y, y = wr := ⟨_, rfl⟩
        go_wp2_with fail
        go_loopg [70] n1 (fun gk vi wr => VicRel wz n1 gk vi wr)
        case atStart => exact ⟨0, rfl, rfl, RowKit.Below.refl _ _⟩
        case round =>
          obtain ⟨i, hgi, rfl, hbi⟩ := hrel
          have HBI := Lib.hid hbi
          clear hbi
          by_cases hin : i < n1
          · obtain ⟨b1, o1, x1, rfl, _, hx1, hc1, hxi1⟩ := (HJ1.out.on HBI.out (Nat.le_refl _)).at_ hin
            obtain ⟨b2, o2, x2, rfl, _, hx2, hc2, hxi2⟩ := (HJ2.out.on HBI.out (Nat.le_refl _)).at_ hin
            have hxx : x2.L = x1.L := by
              have h1 := congrArg (·[i]?) HE2.out
              simp only [List.getElem?_map, hx1, hx2, Option.map_some, Option.some.injEq] at h1
              exact h1
            have hnn : x2.n = x1.n := by have h1 := hxi1.len; have h2 := hxi2.len; rw [hxx] at h2; omega
            have HXI1 := Lib.hid hxi1
            have HXI2 : Hid (Is wr wr.heap.size x2.A x1.n x2.c x1.L) := Lib.hid (by rw [← hxx, ← hnn]; exact hxi2)
            rw [hnn] at hc2
            have HXX := Lib.hid hxx
            have hxm : x1.n ≤ 9223372036854775807 := Nat.le_trans hxi1.sn.le hxi1.sn.max
            clear hx1 hx2 hxi1 hxi2 hxx hnn
            obtain ⟨g0, rfl⟩ : ∃ x, x = gk := ⟨_, rfl⟩
            obtain ⟨wo, rfl⟩ : ∃ y, y = wr := ⟨_, rfl⟩
            go_wp2_with fail
            go_loopg [78] x1.n (fun gk vi wr => VicRel wo x1.n gk vi wr)
            case atStart => exact ⟨0, rfl, rfl, RowKit.Below.refl _ _⟩
            case round =>
              obtain ⟨j, hgj, rfl, hbj⟩ := hrel
              have HBJ := Lib.hid hbj
              have HWZ := Lib.hid (HBI.out.trans (hbj.mono HBI.out.size))
              by_cases hjn : j < x1.n
              · obtain ⟨b3, o3, y3, hA3, _, hy3, hc3, _⟩ := (HXI1.out.on hbj (Nat.le_refl _)).at_ hjn
                obtain ⟨b4, o4, y4, hA4, _, hy4, hc4, _⟩ := (HXI2.out.on hbj (Nat.le_refl _)).at_ hjn
                rw [hy3] at hy4
                injection hy4 with hy4
                subst hy4
                have hk1 := (hbj.cell (p := ⟨b1, o1 + i, none⟩) (World.block_lt_of_cell? wo _ hc1)).trans hc1
                have hk2 := (hbj.cell (p := ⟨b2, o2 + i, none⟩) (World.block_lt_of_cell? wo _ hc2)).trans hc2
                rw [hA3] at hk1
                rw [hA4] at hk2
                have hne : (y3 != y3) = false := by simp
                clear hy3 hbj
                go_wp2_with fail
                go_quiet (fail)
                go_wp2_with fail
                go_roundg (gk - 1)
                case measure => omega
                case rel => exact ⟨j + 1, by omega, by go_num, below_drewN HBJ.out _⟩
              · clear hbj
                go_wp2_with fail
                go_roundg (g0 - 1)
                case measure => omega
                case rel => exact ⟨i + 1, by omega, by go_num, HWZ.out⟩
          · have HBF := Lib.hid (HBZ.out.trans (HBI.out.mono HBZ.out.size))
            have HWF := Lib.hid (HW.out.on HBF.out (Nat.le_refl _))
            have hrr : (rightW W == rightW W) = true := by simp
            go_wp2_with fail
            refine (shRight_any wr Aw n1 cw W HWF.out).mono ?_
            rintro e w5 ⟨rfl, rfl⟩
            go_wp2_with fail
            refine (refRight8_any wr Aw n1 cw W HWF.out).mono ?_
            rintro e w5 ⟨rfl, rfl⟩
            go_wp2_with fail
            go_ret
            exact ⟨by first | rfl | (rw [hrr]), HBF.out⟩
end Go.Proofs.Ytfmfamnngfanfaa
