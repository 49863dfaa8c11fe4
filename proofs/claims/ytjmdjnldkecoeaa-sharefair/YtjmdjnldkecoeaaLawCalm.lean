/-
  THE WALK of ShareCalm.
-/
import Derived.Test.YtjmdjnldkecoeaaShareFacts
namespace Go.Proofs.Ytjmdjnldkecoeaa
open Go.RowKit Go.Sort

theorem vvs_at {L : List (Nat × Nat)} {j : Nat} {v : Nat × Nat} (h : L[j]? = some v) : (vvs L)[j * 2]? = some (.int .i64 (v.1 : Int)) ∧ (vvs L)[j * 2 + 1]? = some (.int .i64 (v.2 : Int)) := by
  induction L generalizing j with
  | nil => simp at h
  | cons a L ih =>
    have hc : vvs (a :: L) = [.int .i64 (a.1 : Int), .int .i64 (a.2 : Int)] ++ vvs L := rfl
    rw [hc]
    rcases j with _ | j
    · simp at h
      subst h
      exact ⟨rfl, rfl⟩
    · have := ih (j := j) (by simpa using h)
      rw [List.getElem?_append_right (by simp; omega), List.getElem?_append_right (by simp; omega)]
      simp only [List.length_cons, List.length_nil]
      rw [show (j + 1) * 2 - (0 + 1 + 1) = j * 2 from by omega, show (j + 1) * 2 + 1 - (0 + 1 + 1) = j * 2 + 1 from by omega]
      exact this
/-- A victim's two cells. -/
theorem vic_at {w : World} {B : Nat} {A : Option Addr} {n c j : Nat} {out : List (Nat × Nat)} (h : Sn w B A n c 2 (vvs out)) (hj : j < n) : ∃ b o v, A = some ⟨b, o, none⟩ ∧ b < B ∧ out[j]? = some v ∧ w.cell? ⟨b, o + j * 2, none⟩ = some (.int .i64 (v.1 : Int)) ∧ w.cell? ⟨b, o + j * 2 + 1, none⟩ = some (.int .i64 (v.2 : Int)) := by
  have hl : j < out.length := by have := h.len; rw [vvs_len] at this; omega
  have hr := List.getElem?_eq_getElem hl
  obtain ⟨b, o, e, hb, hc⟩ := h.cell (by omega)
  obtain ⟨h0, h1⟩ := vvs_at hr
  exact ⟨b, o, out[j], e, hb, hr, hc _ _ h0, by rw [Nat.add_assoc]; exact hc _ _ h1⟩
theorem szs_sum {R : List Ic} {cls k : Nat} {size : Int} {x : Ic} (hx : R[k]? = some x) : isum (szs R cls size k) = isum x.L + if k = cls then size else 0 := by
  unfold szs
  simp only [List.getD_eq_getElem?_getD, hx, Option.getD_some]
  split
  · rw [isum_app]; simp [isum]
  · omega
def CRel (w w3 : World) (room : Int) (W : List Int) (R : List Ic) (cls sz n gk : Nat) (vc vi : Value) (wr : World) : Prop :=
  ∃ (k : Nat) (calm : Bool), gk + k = n ∧ vc = .bool calm ∧ vi = .int .i64 (k : Int) ∧ (calm = true → ∀ j, j < k → cexc room W j (szs R cls sz j) ≤ 0) ∧ RowKit.Below w.heap.size w wr ∧ RowKit.Below w3.heap.size w3 wr
def CIn (w w3 : World) (nv gk : Nat) (vi : Value) (wr : World) : Prop :=
  ∃ (j : Nat), gk + j = nv ∧ vi = .int .i64 (j : Int) ∧ RowKit.Below w.heap.size w wr ∧ RowKit.Below w3.heap.size w3 wr
set_option maxRecDepth 100000 in
set_option maxHeartbeats 4000000 in
theorem shareCalm_law (w : World) (cap : Int) (_hcap : -9223372036854775808 ≤ cap ∧ cap ≤ 9223372036854775807) (Au : Option Addr) (nu cu : Nat) (U : List Nat) (hu : Us .u16 65536 w w.heap.size Au nu cu U)
    (Ap : Option Addr) (np cp : Nat) (P : List Uc) (hp : Uqs w w.heap.size Ap np cp P) (cl : Int) (hcl : 0 ≤ cl ∧ cl ≤ 255) (sz0 : Int) (hsz : 0 ≤ sz0 ∧ sz0 ≤ 65535) :
    Calls Try.prog 7 #[.int .i64 cap, .slice Au nu cu, .slice Ap np cp, .int .u8 cl, .int .u16 sz0] w (Says w (.bool true)) := by
  obtain ⟨cl, rfl⟩ := Int.eq_ofNat_of_zero_le hcl.1
  obtain ⟨sz0, rfl⟩ := Int.eq_ofNat_of_zero_le hsz.1
  have HU := Lib.hid hu
  have HP := Lib.hid hp
  clear hu hp
  go_enter Try.func7, Try.ntmps7
  go_wp2_with fail
  refine (awake8_any _).mono ?_
  rintro e w1 ⟨rfl, hb1⟩
  go_wp2_with fail
  refine (small_any w1 cap Au nu cu U (HU.out.on hb1 (Nat.le_refl _)) Ap np cp P (HP.out.on hb1 (Nat.le_refl _)) cl sz0 (by omega) (by omega)).mono ?_
  rintro e w2 ⟨room, A, n, c, Aq, nq, cq, R, cls, sz, rfl, hm⟩
  have HB2 := Lib.hid (hb1.trans (hm.bel.mono hb1.size))
  have HA := Lib.hid hm.asks
  have hlen := hm.len
  subst hlen
  have hszl := hm.szLt
  have hcls := hm.clsLt
  have hroom := hm.roomIn
  have HFEW := Lib.hid hm.each
  clear hm hb1
  obtain ⟨W, HW⟩ : ∃ W, Hid (W = wOf U) := ⟨_, rfl⟩
  rw [← HW.out] at HA
  have hn8 : nq ≤ 8 := HA.out.can.nq
  go_wp2_with fail
  refine (plan_ok w2 room A nq c W Aq nq cq R cls sz HA.out).mono ?_
  rintro e w3 ⟨out, Av, nv, cv, hgo, rfl, hown, hb3⟩
  have HGO := Lib.hid hgo
  have HV : Hid (Sn w3 w3.heap.size Av nv cv 2 (vvs out)) := Sn.of_own hown
  have HB3 := Lib.hid (HB2.out.trans (hb3.mono HB2.out.size))
  have HWI := Lib.hid (HA.out.wi.on hb3 (Nat.le_refl _))
  have HQI := Lib.hid (HA.out.qi.on hb3 (Nat.le_refl _))
  have hnv : nv ≤ 9223372036854775807 := Nat.le_trans HV.out.le HV.out.max
  clear hgo hown hb3
  go_wp2_with fail
  go_loopg [18, 50] nq (fun gk vc vi wr => CRel w w3 room W R cls sz nq gk vc vi wr)
  case atStart => exact ⟨0, true, by omega, rfl, rfl, fun _ j hj => absurd hj (by omega), HB3.out, RowKit.Below.refl _ _⟩
  case round =>
    obtain ⟨k, calm, hgk, rfl, rfl, hcalm, hbel, hbw⟩ := hrel
    have HCALM := Lib.hid hcalm
    have HBEL := Lib.hid hbel
    have HBW := Lib.hid hbw
    clear hcalm hbel hbw
    by_cases hlt : k < nq
    · obtain ⟨qb, qo, x, rfl, _, hx, hxc, hxi⟩ := (HQI.out.on HBW.out (Nat.le_refl _)).at_ hlt
      have hfx := HFEW.out x (List.mem_of_getElem? hx)
      have hsm := isum_le (S := x.L) (fun s hs => by have := hfx.1 s hs; omega)
      have hxl := hxi.len
      have HXI := Lib.hid hxi
      have HSM : Hid (Small x.L) := ⟨fun s hs => (hfx.1 s hs).1, by omega⟩
      obtain ⟨s, HS⟩ : ∃ s, Hid (s = isum x.L) := ⟨_, rfl⟩
      have hs1 : 0 ≤ s ∧ s ≤ 31457280 := by rw [HS.out]; omega
      have HSZ := Lib.hid (szs_sum (cls := cls) (size := sz) hx)
      obtain ⟨X, HX⟩ : ∃ X, Hid (X = cexc room W k (szs R cls sz k)) := ⟨_, rfl⟩
      clear hx hxi hfx hsm hxl
      by_cases hk : k = cls
      · subst hk
        have hkI : ((k : Int) == (k : Int)) = true := by simp
        have HEX : Hid (excW room W k (s + sz) = X) := by
          show _ = _
          rw [HX.out]
          unfold cexc
          rw [HSZ.out, ← HS.out]
          congr 1
          split <;> omega
        have HCS := HGO.out.calm HA.out.fit k
        have hcallE := refExc_any wr room A nq c W k (s + sz) (HWI.out.on HBW.out (Nat.le_refl _)) (by omega) (by omega)
        rw [HEX.out] at hcallE
        have HCE := Lib.hid hcallE
        clear hcallE
        have HNE : Hid (X ≤ 0 → ∀ v ∈ out, v.1 ≠ k) := fun hX => HCS (fun q T hq => by
          rw [stTo_at nq k hlt] at hq
          injection hq with hq
          injection hq with _ hq
          rw [← hq, ← HX.out]
          omega)
        clear HCS
        go_wp2_with fail
        refine (refSum_any wr x.A x.n x.c x.L HXI.out HSM.out).mono ?_
        rintro e w4 ⟨rfl, rfl⟩
        rw [← HS.out]
        go_wp2_with fail
        refine HCE.out.mono ?_
        rintro e w5 ⟨rfl, hb5⟩
        have HB5 := Lib.hid (HBEL.out.trans (hb5.mono HBEL.out.size))
        have HW5 := Lib.hid (HBW.out.trans (hb5.mono HBW.out.size))
        clear hb5
        by_cases hX : 0 < X
        · go_wp2_with fail
          go_roundg (gk - 1)
          case measure => omega
          case rel => exact ⟨k + 1, false, by omega, rfl, by go_num, fun h => (by cases h), HB5.out, HW5.out⟩
        · have HN := Lib.hid (HNE.out (by omega))
          obtain ⟨g2, rfl⟩ : ∃ y, y = gk := ⟨_, rfl⟩
          go_wp2_with fail
          go_loopg [72] nv (fun gk vi wr => CIn w w3 nv gk vi wr)
          case atStart => exact ⟨0, by omega, rfl, HB5.out, HW5.out⟩
          case round =>
            obtain ⟨j, hgj, rfl, hbel, hbw⟩ := hrel
            have HBJ := Lib.hid hbel
            have HWJ := Lib.hid hbw
            clear hbel hbw
            by_cases hj : j < nv
            · obtain ⟨vb, vo, v, rfl, _, hv, hv0, hv1⟩ := vic_at (HV.out.on HWJ.out (Nat.le_refl _)) hj
              have hne := HN.out v (List.mem_of_getElem? hv)
              have hneI : ((v.1 : Int) == (k : Int)) = false := by simp; omega
              clear hv
              go_wp2_with fail
              go_roundg (gk - 1)
              case measure => omega
              case rel => exact ⟨j + 1, by omega, by go_num, HBJ.out.alloc HBJ.out.size _, HWJ.out.alloc HWJ.out.size _⟩
            · go_wp2_with fail
              go_roundg (g2 - 1)
              case measure => omega
              case rel =>
                refine ⟨k + 1, calm, by omega, rfl, by go_num, fun h i hi => ?_, HBJ.out, HWJ.out⟩
                by_cases e : i = k
                · subst e; rw [← HX.out]; omega
                · exact HCALM.out h i (by omega)
      · have hkI : ((k : Int) == (cls : Int)) = false := by simp; omega
        have HEX : Hid (excW room W k s = X) := by
          show _ = _
          rw [HX.out]
          unfold cexc
          rw [HSZ.out, ← HS.out]
          congr 1
          split <;> omega
        have HCS := HGO.out.calm HA.out.fit k
        have hcallE := refExc_any wr room A nq c W k s (HWI.out.on HBW.out (Nat.le_refl _)) (by omega) (by omega)
        rw [HEX.out] at hcallE
        have HCE := Lib.hid hcallE
        clear hcallE
        have HNE : Hid (X ≤ 0 → ∀ v ∈ out, v.1 ≠ k) := fun hX => HCS (fun q T hq => by
          rw [stTo_at nq k hlt] at hq
          injection hq with hq
          injection hq with _ hq
          rw [← hq, ← HX.out]
          omega)
        clear HCS
        go_wp2_with fail
        refine (refSum_any wr x.A x.n x.c x.L HXI.out HSM.out).mono ?_
        rintro e w4 ⟨rfl, rfl⟩
        rw [← HS.out]
        go_wp2_with fail
        refine HCE.out.mono ?_
        rintro e w5 ⟨rfl, hb5⟩
        have HB5 := Lib.hid (HBEL.out.trans (hb5.mono HBEL.out.size))
        have HW5 := Lib.hid (HBW.out.trans (hb5.mono HBW.out.size))
        clear hb5
        by_cases hX : 0 < X
        · go_wp2_with fail
          go_roundg (gk - 1)
          case measure => omega
          case rel => exact ⟨k + 1, false, by omega, rfl, by go_num, fun h => (by cases h), HB5.out, HW5.out⟩
        · have HN := Lib.hid (HNE.out (by omega))
          obtain ⟨g2, rfl⟩ : ∃ y, y = gk := ⟨_, rfl⟩
          go_wp2_with fail
          go_loopg [72] nv (fun gk vi wr => CIn w w3 nv gk vi wr)
          case atStart => exact ⟨0, by omega, rfl, HB5.out, HW5.out⟩
          case round =>
            obtain ⟨j, hgj, rfl, hbel, hbw⟩ := hrel
            have HBJ := Lib.hid hbel
            have HWJ := Lib.hid hbw
            clear hbel hbw
            by_cases hj : j < nv
            · obtain ⟨vb, vo, v, rfl, _, hv, hv0, hv1⟩ := vic_at (HV.out.on HWJ.out (Nat.le_refl _)) hj
              have hne := HN.out v (List.mem_of_getElem? hv)
              have hneI : ((v.1 : Int) == (k : Int)) = false := by simp; omega
              clear hv
              go_wp2_with fail
              go_roundg (gk - 1)
              case measure => omega
              case rel => exact ⟨j + 1, by omega, by go_num, HBJ.out.alloc HBJ.out.size _, HWJ.out.alloc HWJ.out.size _⟩
            · go_wp2_with fail
              go_roundg (g2 - 1)
              case measure => omega
              case rel =>
                refine ⟨k + 1, calm, by omega, rfl, by go_num, fun h i hi => ?_, HBJ.out, HWJ.out⟩
                by_cases e : i = k
                · subst e; rw [← HX.out]; omega
                · exact HCALM.out h i (by omega)
    · have hk : nq ≤ k := by omega
      have HNO : Hid (calm = true → nv = 0) := fun h => by
        have h1 := HGO.out.none_ HA.out.fit (fun i q T hq => by
          have hi : i < nq := by have := (List.getElem?_eq_some_iff.1 hq).1; rw [stTo_len] at this; exact this
          rw [stTo_at nq i hi] at hq
          injection hq with hq
          injection hq with _ hq
          rw [← hq]
          exact HCALM.out h i (by omega))
        have h2 := HV.out.len
        rw [h1] at h2
        simp [vvs] at h2
        omega
      cases calm
      · go_wp2_with fail
        go_ret
        exact ⟨rfl, HBEL.out⟩
      · have h0 := HNO.out rfl
        subst h0
        go_wp2_with fail
        go_ret
        exact ⟨rfl, HBEL.out⟩
end Go.Proofs.Ytjmdjnldkecoeaa
