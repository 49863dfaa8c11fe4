/-
  THE WALK of ShareEnough.
-/
import Derived.Test.YtjmdjnldkecoeaaLawCalm
namespace Go.Proofs.Ytjmdjnldkecoeaa
open Go.RowKit Go.Sort

/-- What is left of each class is the end of what it had. -/
def Dr (Q : List Ic) (cls : Nat) (size : Int) (st : List Cs) : Prop := ∀ (k p : Nat) (S : List Int), st[k]? = some (p, S) → S = (szs Q cls size k).drop p
/-- A victim's size. -/
def vsz (Q : List Ic) (cls : Nat) (size : Int) (v : Nat × Nat) : Int := (szs Q cls size v.1).getD v.2 0
theorem Dr.start (Q : List Ic) (cls : Nat) (size : Int) (n : Nat) : Dr Q cls size (stTo Q cls size n) := fun k p S h => by
  have hk : k < n := by have := (List.getElem?_eq_some_iff.1 h).1; rw [stTo_len] at this; exact this
  rw [stTo_at n k hk] at h
  injection h with h
  injection h with e1 e2
  subst e1 e2
  rfl
theorem Dr.step {Q : List Ic} {cls : Nat} {size s : Int} {st : List Cs} {k p : Nat} {T : List Int} (h : Dr Q cls size st) (hk : st[k]? = some (p, s :: T)) :
    Dr Q cls size (st.set k (p + 1, T)) ∧ vsz Q cls size (k, p) = s ∧ p < (szs Q cls size k).length := by
  have e := h k p _ hk
  have hlt : p < (szs Q cls size k).length := by
    apply Classical.byContradiction
    intro hn
    rw [List.drop_eq_nil_of_le (by omega)] at e
    cases e
  have e2 : s = (szs Q cls size k)[p] ∧ T = (szs Q cls size k).drop (p + 1) := by
    rw [List.drop_eq_getElem_cons hlt] at e
    injection e with a b
    exact ⟨a, b⟩
  refine ⟨fun j q S hj => ?_, ?_, hlt⟩
  · by_cases hjk : k = j
    · subst hjk
      rw [List.getElem?_set_self (List.getElem?_eq_some_iff.1 hk).1] at hj
      injection hj with hj
      injection hj with a b
      subst a b
      exact e2.2
    · rw [List.getElem?_set_ne hjk] at hj
      exact h j q S hj
  · unfold vsz
    simp only [List.getD_eq_getElem?_getD, List.getElem?_eq_getElem hlt, Option.getD_some]
    exact e2.1.symm
theorem Goes.left {Q : List Ic} {cls : Nat} {size cap : Int} {W : List Int} {st : List Cs} {o : Int} {out : List (Nat × Nat)} (h : Goes cap W st o out) (hd : Dr Q cls size st) :
    (∀ j, j < out.length → 0 < o - isum ((out.take j).map (vsz Q cls size))) ∧ o - isum (out.map (vsz Q cls size)) ≤ 0 ∧ ∀ v ∈ out, v.2 < (szs Q cls size v.1).length ∧ v.1 < st.length := by
  induction h with
  | done h0 => exact ⟨fun j hj => by simp at hj, by simp [isum]; omega, fun v hv => by cases hv⟩
  | @step st o s k p T out h0 hb hk hg ih =>
    obtain ⟨d1, d2, d3⟩ := hd.step hk
    obtain ⟨i1, i2, i3⟩ := ih d1
    refine ⟨fun j hj => ?_, ?_, fun v hv => ?_⟩
    · rcases j with _ | j
      · simp [isum]; exact h0
      · have := i1 j (by simpa using hj)
        rw [List.take_succ_cons, List.map_cons, isum_cons, d2]
        omega
    · rw [List.map_cons, isum_cons, d2]
      omega
    · rcases List.mem_cons.1 hv with rfl | hv
      · exact ⟨d3, (List.getElem?_eq_some_iff.1 hk).1⟩
      · have := i3 v hv
        rw [List.length_set] at this
        exact this
theorem vsz_take {Q : List Ic} {cls : Nat} {size : Int} {out : List (Nat × Nat)} {j : Nat} {v : Nat × Nat} (h : out[j]? = some v) : isum ((out.take (j + 1)).map (vsz Q cls size)) = isum ((out.take j).map (vsz Q cls size)) + vsz Q cls size v := by
  rw [List.take_add_one, h, List.map_append, isum_app]
  simp [isum]
/-- A victim is one of those that were queued, or who comes. -/
theorem vsz_two {Q : List Ic} {cls : Nat} {size : Int} {v : Nat × Nat} {x : Ic} (hx : Q[v.1]? = some x) (hl : x.L.length = x.n) (h : v.2 < (szs Q cls size v.1).length) : (v.2 < x.n ∧ x.L[v.2]? = some (vsz Q cls size v)) ∨ (x.n ≤ v.2 ∧ v.1 = cls ∧ v.2 = x.n ∧ vsz Q cls size v = size) := by
  have e : szs Q cls size v.1 = if v.1 = cls then x.L ++ [size] else x.L := by
    unfold szs
    simp [List.getD_eq_getElem?_getD, hx]
  unfold vsz
  rw [e] at h ⊢
  by_cases hc : v.1 = cls
  · rw [if_pos hc] at h ⊢
    simp at h
    by_cases hp : v.2 < x.n
    · refine .inl ⟨hp, ?_⟩
      simp [List.getD_eq_getElem?_getD, List.getElem?_append_left (show v.2 < x.L.length by omega), show v.2 < x.L.length by omega]
    · refine .inr ⟨by omega, hc, by omega, ?_⟩
      have : v.2 = x.L.length := by omega
      simp [List.getD_eq_getElem?_getD, this]
  · rw [if_neg hc] at h ⊢
    refine .inl ⟨by omega, ?_⟩
    simp [List.getD_eq_getElem?_getD, h]
def NRel (w w3 : World) (tot : Int) (vs : Nat × Nat → Int) (out : List (Nat × Nat)) (nv gk : Nat) (vl vi : Value) (wr : World) : Prop :=
  ∃ (j : Nat) (lf : Int), gk + j = nv ∧ vl = .int .i64 lf ∧ vi = .int .i64 (j : Int) ∧ lf = tot - isum ((out.take j).map vs) ∧ -1000000 ≤ lf ∧ lf ≤ tot ∧ RowKit.Below w.heap.size w wr ∧ RowKit.Below w3.heap.size w3 wr
set_option maxRecDepth 100000 in
set_option maxHeartbeats 4000000 in
theorem shareEnough_law (w : World) (cap : Int) (_hcap : -9223372036854775808 ≤ cap ∧ cap ≤ 9223372036854775807) (Au : Option Addr) (nu cu : Nat) (U : List Nat) (hu : Us .u16 65536 w w.heap.size Au nu cu U)
    (Ap : Option Addr) (np cp : Nat) (P : List Uc) (hp : Uqs w w.heap.size Ap np cp P) (cl : Int) (hcl : 0 ≤ cl ∧ cl ≤ 255) (sz0 : Int) (hsz : 0 ≤ sz0 ∧ sz0 ≤ 65535) :
    Calls Try.prog 4 #[.int .i64 cap, .slice Au nu cu, .slice Ap np cp, .int .u8 cl, .int .u16 sz0] w (Says w (.bool true)) := by
  obtain ⟨cl, rfl⟩ := Int.eq_ofNat_of_zero_le hcl.1
  obtain ⟨sz0, rfl⟩ := Int.eq_ofNat_of_zero_le hsz.1
  have HU := Lib.hid hu
  have HP := Lib.hid hp
  clear hu hp
  go_enter Try.func4, Try.ntmps4
  go_wp2_with fail
  refine (awake8_any _).mono ?_
  rintro e w1 ⟨rfl, hb1⟩
  go_wp2_with fail
  refine (small_any w1 cap Au nu cu U (HU.out.on hb1 (Nat.le_refl _)) Ap np cp P (HP.out.on hb1 (Nat.le_refl _)) cl sz0 (by omega) (by omega)).mono ?_
  rintro e w2 ⟨room, A, n, c, Aq, nq, cq, R, cls, sz, rfl, hm⟩
  have HB2 := Lib.hid (hb1.trans (hm.bel.mono hb1.size))
  have HA := Lib.hid hm.asks
  have hlen := hm.len
  subst hlen
  have hszl := hm.szLt
  have hcls := hm.clsLt
  have hroom := hm.roomIn
  have HFEW := Lib.hid hm.each
  clear hm hb1
  obtain ⟨W, HW⟩ : ∃ W, Hid (W = wOf U) := ⟨_, rfl⟩
  rw [← HW.out] at HA
  have hn8 : nq ≤ 8 := HA.out.can.nq
  go_wp2_with fail
  refine (plan_ok w2 room A nq c W Aq nq cq R cls sz HA.out).mono ?_
  rintro e w3 ⟨out, Av, nv, cv, hgo, rfl, hown, hb3⟩
  have HGO := Lib.hid hgo
  have HV : Hid (Sn w3 w3.heap.size Av nv cv 2 (vvs out)) := Sn.of_own hown
  have HB3 := Lib.hid (HB2.out.trans (hb3.mono HB2.out.size))
  have HQI := Lib.hid (HA.out.qi.on hb3 (Nat.le_refl _))
  have hnv : nv ≤ 9223372036854775807 := Nat.le_trans HV.out.le HV.out.max
  obtain ⟨hs1, hs2, hs3, hs4⟩ := HA.out.can.sum
  have HS2 := Lib.hid hs2
  obtain ⟨T, HT⟩ : ∃ T, Hid (T = isum (qsum R)) := ⟨_, rfl⟩
  rw [← HT.out] at hs1 hs3 hs4
  have hOL : out.length = nv := by have := HV.out.len; rw [vvs_len] at this; omega
  have HOL := Lib.hid hOL
  have HLF := Lib.hid (hgo.left (Dr.start R cls sz nq))
  have HS1 := Lib.hid hs1
  clear hgo hown hb3 hs2 hs1 hOL
  go_wp2_with fail
  refine (total_any w3 Aq nq cq R HQI.out HS2.out).mono ?_
  rintro e w4 ⟨rfl, rfl⟩
  rw [← HT.out]
  go_wp2_with fail
  go_loopg [19, 55] nv (fun gk vl vi wr => NRel w w3 (T + sz) (vsz R cls sz) out nv gk vl vi wr)
  case atStart => exact ⟨0, T + sz, by omega, rfl, rfl, by simp [isum], by omega, by omega, HB3.out, RowKit.Below.refl _ _⟩
  case round =>
    obtain ⟨j, lf, hgk, rfl, rfl, hlf, hlf0, hlf1, hbel, hbw⟩ := hrel
    have HL := Lib.hid hlf
    have HBEL := Lib.hid hbel
    have HBW := Lib.hid hbw
    clear hlf hbel hbw
    by_cases hj : j < nv
    · obtain ⟨vb, vo, v, rfl, _, hv, hv0, hv1⟩ := vic_at (HV.out.on HBW.out (Nat.le_refl _)) hj
      obtain ⟨hvl, hvc⟩ := HLF.out.2.2 v (List.mem_of_getElem? hv)
      rw [stTo_len] at hvc
      have hpos := HLF.out.1 j (by have := HOL.out; omega)
      rw [HS1.out] at hpos
      have hlfp : room < lf := by rw [HL.out]; omega
      have HTK := Lib.hid (vsz_take (Q := R) (cls := cls) (size := sz) hv)
      have HNX : Hid (j + 1 < nv → room < lf - vsz R cls sz v) := fun hj2 => by
        have := HLF.out.1 (j + 1) (by have := HOL.out; omega)
        rw [HS1.out, HTK.out] at this
        rw [HL.out]
        omega
      obtain ⟨qb, qo, x, rfl, hqb, hx, hxc, hxi⟩ := (HQI.out.on HBW.out (Nat.le_refl _)).at_ hvc
      have htwo := vsz_two hx hxi.len hvl
      obtain ⟨y, HY⟩ : ∃ y, Hid (y = vsz R cls sz v) := ⟨_, rfl⟩
      rw [← HY.out] at HTK HNX htwo
      have hfx := HFEW.out x (List.mem_of_getElem? hx)
      have hx30 := hfx.2
      obtain ⟨v1, v2⟩ := v
      simp only at hv0 hv1 hvc hxc htwo
      have hv1I : (v1 : Int) < (nq : Int) := by omega
      have hyb : 0 ≤ y ∧ y ≤ 65535 := by
        rcases htwo with ⟨_, hxy⟩ | ⟨_, _, _, hy⟩
        · exact hfx.1 y (List.mem_of_getElem? hxy)
        · omega
      have HXI := Lib.hid hxi
      clear hv hx hxi hfx hpos hvl
      rcases htwo with ⟨hp, hxy⟩ | ⟨hp, hc, he, hy⟩
      · obtain ⟨xb, xo, y2, hxA, hxb, hxy2, hxyc, _⟩ := HXI.out.at_ hp
        rw [hxy] at hxy2
        injection hxy2 with hxy2
        subst hxy2
        obtain ⟨xA, xn, xc, xL⟩ := x
        simp only at hxA hxc hp hx30
        subst hxA
        have hpI : (v2 : Int) < (xn : Int) := by omega
        clear hxy
        go_wp2_with fail
        go_quiet (fail)
        go_wp2_with fail
        go_quiet (fail)
        go_wp2_with fail
        go_roundg (gk - 1)
        case measure => omega
        case rel =>
          refine ⟨j + 1, lf - y, by omega, rfl, by go_num, by rw [HTK.out, HL.out]; omega, by omega, by omega, ?_, ?_⟩
          · first | exact below_drewN (HBEL.out.alloc HBEL.out.size _) _ | exact (below_drewN (below_drewN HBEL.out _) _).alloc HBEL.out.size _ | exact (below_drewN HBEL.out _).alloc HBEL.out.size _
          · first | exact below_drewN (HBW.out.alloc HBW.out.size _) _ | exact (below_drewN (below_drewN HBW.out _) _).alloc HBW.out.size _ | exact (below_drewN HBW.out _).alloc HBW.out.size _
      · subst hc he
        have hpI : ¬ (x.n : Int) < (x.n : Int) := by omega
        have hxnI : (x.n : Int) ≤ 30 := by omega
        have d1 : ((v1 : Int) != (v1 : Int)) = false := by simp
        have d2 : ((x.n : Int) != (x.n : Int)) = false := by simp
        have HY2 := Lib.hid hy
        have HTK2 : Hid (isum ((out.take (j + 1)).map (vsz R v1 sz)) = isum ((out.take j).map (vsz R v1 sz)) + sz) := by show _ = _; rw [HTK.out, hy]
        clear hy hp HTK
        have HTK := HTK2
        by_cases hlast : j + 1 < nv
        · have hnx := HNX.out hlast
          rw [HY2.out] at hnx
          have d3 : ((j : Int) != (nv : Int) - 1) = true := by simp; omega
          have d4 : decide (lf - (sz : Int) ≤ room) = false := by simp; omega
          clear hpI
          go_wp2_with fail
          go_quiet (fail)
          go_wp2_with fail
          go_quiet (fail)
          go_wp2_with fail
          go_roundg (gk - 1)
          case measure => omega
          case rel =>
            refine ⟨j + 1, lf - sz, by omega, rfl, by go_num, by rw [HTK.out, HL.out]; omega, by omega, by omega, ?_, ?_⟩
            · first | exact below_drewN (HBEL.out.alloc HBEL.out.size _) _ | exact (below_drewN (below_drewN HBEL.out _) _).alloc HBEL.out.size _ | exact (below_drewN HBEL.out _).alloc HBEL.out.size _
            · first | exact below_drewN (HBW.out.alloc HBW.out.size _) _ | exact (below_drewN (below_drewN HBW.out _) _).alloc HBW.out.size _ | exact (below_drewN HBW.out _).alloc HBW.out.size _
        · have d3 : ((j : Int) != (nv : Int) - 1) = false := by simp; omega
          clear hpI
          go_wp2_with fail
          go_quiet (fail)
          go_wp2_with fail
          go_quiet (fail)
          go_wp2_with fail
          go_roundg (gk - 1)
          case measure => omega
          case rel =>
            refine ⟨j + 1, lf - sz, by omega, rfl, by go_num, by rw [HTK.out, HL.out]; omega, by omega, by omega, ?_, ?_⟩
            · first | exact below_drewN (HBEL.out.alloc HBEL.out.size _) _ | exact (below_drewN (below_drewN HBEL.out _) _).alloc HBEL.out.size _ | exact (below_drewN HBEL.out _).alloc HBEL.out.size _
            · first | exact below_drewN (HBW.out.alloc HBW.out.size _) _ | exact (below_drewN (below_drewN HBW.out _) _).alloc HBW.out.size _ | exact (below_drewN HBW.out _).alloc HBW.out.size _
    · obtain rfl : j = nv := by omega
      have hend := HLF.out.2.1
      rw [HS1.out] at hend
      have htk : out.take j = out := List.take_of_length_le (by have := HOL.out; omega)
      have hl2 := HL.out
      rw [htk] at hl2
      have hle : lf ≤ room := by omega
      have HN0 : Hid (0 < j → room < T + sz) := fun h => by
        have := HLF.out.1 0 (by have := HOL.out; omega)
        rw [HS1.out] at this
        simp [isum] at this
        omega
      have HZ0 : Hid (j = 0 → T + sz ≤ room) := fun h => by
        subst h
        have h3 : out = [] := List.eq_nil_of_length_eq_zero HOL.out
        rw [h3] at hl2
        simp [isum] at hl2
        omega
      clear hend htk hl2
      rcases Nat.eq_zero_or_pos j with h0 | h0
      · subst h0
        have hz := HZ0.out rfl
        go_wp2_with fail
        go_ret
        exact ⟨rfl, HBEL.out⟩
      · have hz := HN0.out h0
        have d5 : ((j : Int) == 0) = false := by simp; omega
        have d6 : decide (T + (sz : Int) ≤ room) = false := by simp; omega
        go_wp2_with fail
        go_ret
        refine ⟨?_, HBEL.out⟩
        first | rfl | (simp [d5, d6]; done) | (trace_state; simp)
end Go.Proofs.Ytjmdjnldkecoeaa
