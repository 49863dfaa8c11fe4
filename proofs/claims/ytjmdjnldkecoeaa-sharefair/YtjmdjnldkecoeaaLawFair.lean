/-
  THE WALK of ShareFair.
-/
import Derived.Test.YtjmdjnldkecoeaaShareQuiet
import Derived.Test.YtjmdjnldkecoeaaLawExcess
namespace Go.Proofs.Ytjmdjnldkecoeaa
open Go.RowKit Go.Sort

def bOf (st : List Cs) : List Int := st.map fun x => isum x.2
def pOf (st : List Cs) : List Int := st.map fun x => (x.1 : Int)
/-- The sums of the first k, of the queued alone. -/
def bTo (R : List Ic) (k : Nat) : List Int := ((R.take k).map fun x => isum x.L) ++ List.replicate (R.length - k) 0
theorem bTo_step {R : List Ic} {k : Nat} {x : Ic} (hx : R[k]? = some x) : (bTo R k).set k (isum x.L) = bTo R (k + 1) := by
  have hl := (List.getElem?_eq_some_iff.1 hx).1
  unfold bTo
  rw [List.take_add_one, hx, show R.length - k = (R.length - (k + 1)) + 1 from by omega, List.replicate_succ]
  have hk : ((R.take k).map fun x => isum x.L).length = k := by simp; omega
  rw [List.set_append_right _ _ (by omega), hk]
  simp
theorem bTo_all (R : List Ic) : bTo R R.length = R.map fun x => isum x.L := by
  unfold bTo
  simp
theorem bTo_done {R : List Ic} {cls : Nat} {size : Int} {x : Ic} (hx : R[cls]? = some x) : (R.map fun x => isum x.L).set cls (isum x.L + size) = bOf (stTo R cls size R.length) := by
  have hl := (List.getElem?_eq_some_iff.1 hx).1
  apply List.ext_getElem?
  intro j
  unfold bOf
  by_cases hj : j < R.length
  · have h1 : (stTo R cls size R.length)[j]? = some (0, szs R cls size j) := stTo_at _ _ hj
    have h2 : R[j]? = some R[j] := List.getElem?_eq_getElem hj
    rw [List.getElem?_map, h1]
    simp only [Option.map_some]
    rw [szs_sum h2]
    by_cases e : cls = j
    · subst e
      rw [List.getElem?_set_self (by simpa using hl), if_pos rfl]
      rw [hx] at h2
      injection h2 with h2
      rw [h2]
    · rw [List.getElem?_set_ne e, List.getElem?_map, h2, if_neg (fun k => e k.symm)]
      simp
  · rw [List.getElem?_eq_none (by simp; omega), List.getElem?_eq_none (by simp [stTo_len]; omega)]
theorem pOf_start (R : List Ic) (cls : Nat) (size : Int) : ∀ n, pOf (stTo R cls size n) = List.replicate n 0
  | 0 => rfl
  | n + 1 => by
    have ih := pOf_start R cls size n
    unfold pOf at *
    rw [stTo, List.map_append, ih, List.replicate_succ']
    rfl
theorem bOf_set (st : List Cs) (k : Nat) (x : Cs) : bOf (st.set k x) = (bOf st).set k (isum x.2) := by unfold bOf; rw [List.map_set]
theorem pOf_set (st : List Cs) (k : Nat) (x : Cs) : pOf (st.set k x) = (pOf st).set k (x.1 : Int) := by unfold pOf; rw [List.map_set]
theorem ivs_set (L : List Int) (k : Nat) (v : Int) : (ivs L).set k (.int .i64 v) = ivs (L.set k v) := by unfold ivs iv; rw [List.map_set]
theorem zeros_ivs (n : Nat) : (madeCells (Value.int .i64 0).cells (n * 1)).toList = ivs (List.replicate n 0) := by
  have h1 : (Value.int .i64 0).cells = #[Value.int .i64 0] := rfl
  rw [h1, Nat.mul_one, toList_madeCells_one]
  simp [ivs, iv]
/-- A row of numbers of the call's own, at its own block. -/
abbrev Row (w : World) (base g K : Nat) (L : List Int) : Prop := w.ownsRow base 3 1 (.slice (some ⟨g, 0, none⟩) K K) K (ivs L)
theorem Row.len {w : World} {base g K : Nat} {L : List Int} (h : Row w base g K L) : L.length = K := by have := h.1; rw [ivs_len] at this; omega
theorem Row.at_ {w : World} {base g K j : Nat} {L : List Int} {x : Int} (h : Row w base g K L) (hx : L[j]? = some x) : w.cell? ⟨g, j, none⟩ = some (.int .i64 x) := by
  have hj := (List.getElem?_eq_some_iff.1 hx).1
  have := h.len
  rw [h.cellAt j (by omega)]
  exact ivs_at hx
theorem Row.set {w : World} {base g K : Nat} {L : List Int} (h : Row w base g K L) (j : Nat) (v : Int) : Row (w.setCell ⟨g, j, none⟩ (.int .i64 v)) base g K (L.set j v) := by
  have := (h.stored j (.int .i64 v)).1
  rw [ivs_set] at this
  exact this
theorem Row.other {w : World} {base g K : Nat} {L : List Int} (h : Row w base g K L) {p : Addr} (hp : p.block ≠ g) (v : Value) : Row (w.setCell p v) base g K L :=
  own_same h (fun b hb => by simp [Value.ownBlock] at hb; subst hb; exact RowKit.Below.heap_setCell w p v g (fun e => hp e.symm))
theorem Row.below {w w' : World} {base g K : Nat} {L : List Int} (h : Row w base g K L) (hb : RowKit.Below w.heap.size w w') : Row w' base g K L :=
  own_same h (fun b hb2 => hb.block b (h.lt b hb2).2)
/-- Between the victims. -/
structure FR (w w3 wr : World) (room : Int) (W : List Int) (R : List Ic) (cls sz K bb nb : Nat) (st : List Cs) (o : Int) (rest : List (Nat × Nat)) : Prop where
  go : Goes room W st o rest
  fit : Fit room W st o
  dr : Dr R cls sz st
  by_ : Row wr w3.heap.size bb K (bOf st)
  nx : Row wr w3.heap.size nb K (pOf st)
  bel : RowKit.Below w.heap.size w wr
  bw : RowKit.Below w3.heap.size w3 wr
theorem FR.below {w w3 wr wq : World} {room : Int} {W : List Int} {R : List Ic} {cls sz K bb nb : Nat} {st : List Cs} {o : Int} {rest : List (Nat × Nat)} (h : FR w w3 wr room W R cls sz K bb nb st o rest) (hb : RowKit.Below wr.heap.size wr wq) : FR w w3 wq room W R cls sz K bb nb st o rest :=
  ⟨h.go, h.fit, h.dr, h.by_.below hb, h.nx.below hb, h.bel.trans (hb.mono h.bel.size), h.bw.trans (hb.mono h.bw.size)⟩
def FIn (w w3 : World) (room : Int) (W : List Int) (R : List Ic) (cls sz K bb nb : Nat) (st : List Cs) (o : Int) (rest : List (Nat × Nat)) (N kk p gk : Nat) (vi : Value) (wq : World) : Prop :=
  ∃ i, gk + i = K ∧ vi = .int .i64 (i : Int) ∧ FR w w3 wq room W R cls sz K bb nb st o rest ∧ wq.cell? ⟨N, 0, none⟩ = some (.int .i64 (kk : Int)) ∧ wq.cell? ⟨N, 1, none⟩ = some (.int .i64 (p : Int))
def F1Rel (w w3 : World) (R : List Ic) (K bb nb gk : Nat) (vi : Value) (wr : World) : Prop :=
  ∃ k, gk + k = K ∧ vi = .int .i64 (k : Int) ∧ Row wr w3.heap.size bb K (bTo R k) ∧ Row wr w3.heap.size nb K (List.replicate K 0) ∧ RowKit.Below w.heap.size w wr ∧ RowKit.Below w3.heap.size w3 wr
def FRel (w w3 : World) (room : Int) (W : List Int) (R : List Ic) (cls sz K bb nb : Nat) (out : List (Nat × Nat)) (nv gk : Nat) (vi : Value) (wr : World) : Prop :=
  ∃ (j : Nat) (st : List Cs) (o : Int), gk + j = nv ∧ vi = .int .i64 (j : Int) ∧ FR w w3 wr room W R cls sz K bb nb st o (out.drop j)
set_option maxRecDepth 100000 in
set_option maxHeartbeats 8000000 in
theorem shareFair_law (w : World) (cap : Int) (_hcap : -9223372036854775808 ≤ cap ∧ cap ≤ 9223372036854775807) (Au : Option Addr) (nu cu : Nat) (U : List Nat) (hu : Us .u16 65536 w w.heap.size Au nu cu U)
    (Ap : Option Addr) (np cp : Nat) (P : List Uc) (hp : Uqs w w.heap.size Ap np cp P) (cl : Int) (hcl : 0 ≤ cl ∧ cl ≤ 255) (sz0 : Int) (hsz : 0 ≤ sz0 ∧ sz0 ≤ 65535) :
    Calls Try.prog 5 #[.int .i64 cap, .slice Au nu cu, .slice Ap np cp, .int .u8 cl, .int .u16 sz0] w (Says w (.bool true)) := by
  obtain ⟨cl, rfl⟩ := Int.eq_ofNat_of_zero_le hcl.1
  obtain ⟨sz0, rfl⟩ := Int.eq_ofNat_of_zero_le hsz.1
  have HU := Lib.hid hu
  have HP := Lib.hid hp
  clear hu hp
  go_enter Try.func5, Try.ntmps5
  go_wp2_with fail
  refine (awake8_any _).mono ?_
  rintro e w1 ⟨rfl, hb1⟩
  go_wp2_with fail
  refine (small_any w1 cap Au nu cu U (HU.out.on hb1 (Nat.le_refl _)) Ap np cp P (HP.out.on hb1 (Nat.le_refl _)) cl sz0 (by omega) (by omega)).mono ?_
  rintro e w2 ⟨room, A, n, c, Aq, nq, cq, R, cls, sz, rfl, hm⟩
  have HB2 := Lib.hid (hb1.trans (hm.bel.mono hb1.size))
  have HA := Lib.hid hm.asks
  have hlen := hm.len
  subst hlen
  have hszl := hm.szLt
  have hcls := hm.clsLt
  have hroom := hm.roomIn
  have HFEW := Lib.hid hm.each
  clear hm hb1
  obtain ⟨W, HW⟩ : ∃ W, Hid (W = wOf U) := ⟨_, rfl⟩
  rw [← HW.out] at HA
  have hn8 : nq ≤ 8 := HA.out.can.nq
  go_wp2_with fail
  refine (plan_ok w2 room A nq c W Aq nq cq R cls sz HA.out).mono ?_
  rintro e w3 ⟨out, Av, nv, cv, hgo, rfl, hown, hb3⟩
  have HGO := Lib.hid hgo
  have HV : Hid (Sn w3 w3.heap.size Av nv cv 2 (vvs out)) := Sn.of_own hown
  have HB3 := Lib.hid (HB2.out.trans (hb3.mono HB2.out.size))
  have HQI := Lib.hid (HA.out.qi.on hb3 (Nat.le_refl _))
  have hnv : nv ≤ 9223372036854775807 := Nat.le_trans HV.out.le HV.out.max
  have hOL : out.length = nv := by have := HV.out.len; rw [vvs_len] at this; omega
  have HOL := Lib.hid hOL
  have HRL := Lib.hid HQI.out.len
  have HFIT := Lib.hid HA.out.fit
  obtain ⟨i0, hi0, hz0, hz1, hz2⟩ := info_parts int_info
  have hwz := HB3.out.size
  have hb3' := Lib.hid hb3
  clear hgo hown hb3 hOL
  go_wp2_with (first | (at_make; refine wpList_make_full _ rfl _ _ 22 rfl w3.heap.size 3 i0 _ 1 Try.underlying22 hi0 hz0 hz1 .i64 .i64 _ _ nq rfl rfl rfl rfl (by rw [hz2]; omega) (by unfold maxLen; omega) (Nat.le_refl _) ?_; intro w4 h4 h5; have HO4 := Lib.hid h4; have HG4 := Lib.hid h5; clear h4 h5) | (at_make; refine wpList_make_full _ rfl _ _ 22 rfl w3.heap.size 3 i0 _ 1 Try.underlying22 hi0 hz0 hz1 .i64 .i64 _ _ nq rfl rfl rfl rfl (by rw [hz2]; omega) (by unfold maxLen; omega) HG4.out.size ?_; intro w5 h4 h5; have HO5 := Lib.hid h4; have HG5 := Lib.hid h5; clear h4 h5))
  have HY : Hid (Row w5 w3.heap.size w3.heap.size nq (bTo R 0)) := by
    have h := HO4.out.kept HG5.out (by simp [Value.ownBlock])
    rw [zeros_ivs] at h
    unfold bTo
    rw [HRL.out]
    exact h
  have HX : Hid (Row w5 w3.heap.size w4.heap.size nq (List.replicate nq 0)) := by
    have h := HO5.out
    rw [zeros_ivs] at h
    exact h
  have hne : w3.heap.size ≠ w4.heap.size := by have h9 : w3.heap.size < w4.heap.size := (HO4.out.lt w3.heap.size rfl).2; omega
  have HW5 : Hid (RowKit.Below w3.heap.size w3 w5) := ((RowKit.Below.refl _ _).grown HG4.out (Nat.le_refl _) (fun _ h => by cases h)).grown HG5.out HG4.out.size (fun _ h => by cases h)
  have HB5 : Hid (RowKit.Below w.heap.size w w5) := HB3.out.trans (HW5.out.mono hwz)
  have h4z := HG4.out.size
  clear HO4 HO5 HG4 HG5
  obtain ⟨nb, HNB⟩ : ∃ nb, Hid (nb = w4.heap.size) := ⟨_, rfl⟩
  obtain ⟨bb, HBB⟩ : ∃ bb, Hid (bb = w3.heap.size) := ⟨_, rfl⟩
  have hbb : w3.heap.size ≤ bb := by rw [HBB.out]; exact Nat.le_refl _
  have hnb : w3.heap.size ≤ nb := by rw [HNB.out]; exact h4z
  have hne2 : bb ≠ nb := by rw [HNB.out, HBB.out]; exact hne
  have HY2 : Hid (Row w5 w3.heap.size bb nq (bTo R 0)) := by show Row _ _ _ _ _; rw [HBB.out]; exact HY.out
  have HX2 : Hid (Row w5 w3.heap.size nb nq (List.replicate nq 0)) := by show Row _ _ _ _ _; rw [HNB.out]; exact HX.out
  rw [← HNB.out, ← HBB.out]
  clear HY HX hne h4z
  go_loopg [60] nq (fun gk vi wr => F1Rel w w3 R nq bb nb gk vi wr)
  case atStart => exact ⟨0, by omega, rfl, HY2.out, HX2.out, HB5.out, HW5.out⟩
  case round =>
    clear HY2 HX2 HB5 HW5
    obtain ⟨k, hgk, rfl, hy, hx2, hbel, hbw⟩ := hrel
    have HY := Lib.hid hy
    have HX := Lib.hid hx2
    have HBEL := Lib.hid hbel
    have HBW := Lib.hid hbw
    clear hy hx2 hbel hbw
    by_cases hlt : k < nq
    · obtain ⟨qb, qo, x, rfl, hqb, hx, hxc, hxi⟩ := (HQI.out.on HBW.out (Nat.le_refl _)).at_ hlt
      have hfx := HFEW.out x (List.mem_of_getElem? hx)
      have hsm := isum_le (S := x.L) (fun s hs => by have := hfx.1 s hs; omega)
      have hxl := hxi.len
      have HXI := Lib.hid hxi
      have HSM : Hid (Small x.L) := ⟨fun s hs => (hfx.1 s hs).1, by omega⟩
      have HST := Lib.hid (bTo_step hx)
      have hyl := HY.out.len
      obtain ⟨z, hz⟩ : ∃ z, (bTo R k)[k]? = some z := ⟨(bTo R k)[k], List.getElem?_eq_getElem (by omega)⟩
      have hyc := HY.out.at_ hz
      have hyf := HY.out.frozenAt k
      have HSB : Hid (RowKit.Below w.heap.size w (wr.setCell ⟨bb, k, none⟩ (.int .i64 (isum x.L)))) := HBEL.out.setCell (by show _ ≤ bb; omega) _
      have HSW : Hid (RowKit.Below w3.heap.size w3 (wr.setCell ⟨bb, k, none⟩ (.int .i64 (isum x.L)))) := HBW.out.setCell (by show _ ≤ bb; omega) _
      clear hx hxi hfx hsm hxl hyl hz
      go_wp2_with fail
      refine (refSum_any wr x.A x.n x.c x.L HXI.out HSM.out).mono ?_
      rintro e w6 ⟨rfl, rfl⟩
      go_wp2_with fail
      go_roundg (gk - 1)
      case measure => omega
      case rel => exact ⟨k + 1, by omega, by go_num, by rw [← HST.out]; exact HY.out.set k _, HX.out.other hne2 _, HSB.out, HSW.out⟩
    · obtain rfl : k = nq := by omega
      obtain ⟨xc, hxcls⟩ : ∃ x, R[cls]? = some x := ⟨R[cls]'(by have := HRL.out; omega), List.getElem?_eq_getElem _⟩
      have hall : bTo R k = R.map fun x => isum x.L := by rw [← HRL.out]; exact bTo_all R
      have hz : (R.map fun x => isum x.L)[cls]? = some (isum xc.L) := by simp [hxcls]
      have HY1 : Hid (Row wr w3.heap.size bb k (R.map fun x => isum x.L)) := by
        have h := HY.out
        rw [hall] at h
        exact h
      have hyc := HY1.out.at_ hz
      have hyf := HY1.out.frozenAt cls
      have hfx := HFEW.out xc (List.mem_of_getElem? hxcls)
      have hsm := isum_le (S := xc.L) (fun s hs => by have := hfx.1 s hs; omega)
      have hxl : xc.L.length = xc.n := (HQI.out.each xc (List.mem_of_getElem? hxcls)).len
      have HDONE : Hid ((R.map fun x => isum x.L).set cls (isum xc.L + sz) = bOf (stTo R cls sz k)) := by
        show _ = _
        rw [bTo_done hxcls, HRL.out]
      obtain ⟨s0, HS0⟩ : ∃ s0, Hid (s0 = isum xc.L) := ⟨_, rfl⟩
      rw [← HS0.out] at hyc hsm HDONE
      have hs0b : 0 ≤ s0 ∧ s0 ≤ 31457280 := by omega
      have HFR : Hid (FR w w3 (wr.setCell ⟨bb, cls, none⟩ (.int .i64 (s0 + sz))) room W R cls sz k bb nb (stTo R cls sz k) (ssum (stTo R cls sz k) - room) out) :=
        ⟨HGO.out, HFIT.out, Dr.start _ _ _ _, by rw [← HDONE.out]; exact HY1.out.set cls _, by rw [pOf_start]; exact HX.out.other hne2 _, HBEL.out.setCell (by show _ ≤ bb; omega) _, HBW.out.setCell (by show _ ≤ bb; omega) _⟩
      clear hall hz hfx hsm hxl hxcls HY HX HY1 HBEL HBW
      go_wp2_with fail
      go_loopg [81] nv (fun gk vi wr => FRel w w3 room W R cls sz k bb nb out nv gk vi wr)
      case atStart => exact ⟨0, _, _, by omega, rfl, HFR.out⟩
      case round =>
        clear HFR
        obtain ⟨j, st, o, hgj, rfl, hfr⟩ := hrel
        have HFR := Lib.hid hfr
        clear hfr
        by_cases hj : j < nv
        · obtain ⟨vb, vo, v, rfl, hvb, hv, hv0, hv1⟩ := vic_at (HV.out.on HFR.out.bw (Nat.le_refl _)) hj
          have hgo := HFR.out.go
          have hjl : j < out.length := by have := HOL.out; omega
          rw [List.drop_eq_getElem_cons hjl] at hgo
          have hve : out[j] = v := by rw [List.getElem?_eq_getElem hjl] at hv; injection hv
          rw [hve] at hgo
          obtain ⟨kk, p⟩ := v
          obtain ⟨s, T, h0, hbest, hk, hrest⟩ : ∃ (s : Int) (T : List Int), 0 < o ∧ Best room W st kk ∧ st[kk]? = some (p, s :: T) ∧ Goes room W (st.set kk (p + 1, T)) (o - s) (out.drop (j + 1)) := by
            cases hgo with
            | step a b c d => exact ⟨_, _, a, b, c, d⟩
          simp only at hv0 hv1
          have hpos := hbest.pos HFR.out.fit h0 hk
          have hstl : st.length = k := by rw [HFR.out.fit.len, HA.out.wi.len]
          have hkl : kk < k := by have := (List.getElem?_eq_some_iff.1 hk).1; omega
          obtain ⟨dr2, dvs, dpl⟩ := HFR.out.dr.step hk
          have hmem := List.mem_of_getElem? hk
          have hea := HFR.out.fit.ok.each _ hmem
          have hsb := hea s List.mem_cons_self
          have hone := HFR.out.fit.ok.one hmem
          have htb := isum_nn (L := T) (fun y hy => (hea y (List.mem_cons_of_mem _ hy)).1)
          simp only [isum_cons] at hone
          obtain ⟨wk, hwk⟩ : ∃ y, W[kk]? = some y := ⟨W[kk]'(by rw [HA.out.wi.len]; exact hkl), List.getElem?_eq_getElem _⟩
          have hf := right_facts HA.out.rw_
          have hwkb := hf.2.2.1 wk (List.mem_of_getElem? hwk)
          have hS1 := hf.2.2.2.2
          have hS0 := isum_nn hf.2.2.2.1.nn
          have HSS := Lib.hid hf.2.2.2.1
          obtain ⟨M, HM⟩ : ∃ M, Hid (M = cexc room W kk (s :: T)) := ⟨_, rfl⟩
          obtain ⟨t0, HT0⟩ : ∃ t0, Hid (t0 = isum T) := ⟨_, rfl⟩
          obtain ⟨b0, HB0⟩ : ∃ b0, Hid (b0 = isum (s :: T)) := ⟨_, rfl⟩
          have HEX : Hid (excW room W kk b0 = M) := by show _ = _; rw [HM.out, HB0.out]; rfl
          have hbt : b0 - s = t0 := by rw [HB0.out, HT0.out, isum_cons]; omega
          have hMe : M = b0 * isum W - room * wk := by rw [HM.out, cexc_is HA.out.rw_ hwk, HB0.out]
          have HEX2 : Hid (excW room W kk t0 = M - s * isum W) := by
            show _ = _
            rw [excW_at HA.out.rw_ hwk, hMe, ← hbt, Int.sub_mul]
            omega
          rw [← HM.out] at hpos
          rw [← HT0.out] at hone htb
          have hb0b : 0 ≤ b0 ∧ b0 ≤ 104857600000 := by omega
          have hby : (bOf st)[kk]? = some b0 := by unfold bOf; simp [hk, HB0.out]
          have hpy : (pOf st)[kk]? = some (p : Int) := by unfold pOf; simp [hk]
          have hyc := HFR.out.by_.at_ hby
          have hnc := HFR.out.nx.at_ hpy
          have hbbz : bb < wr.heap.size := (HFR.out.by_.lt bb rfl).2
          have hnbz : nb < wr.heap.size := (HFR.out.nx.lt nb rfl).2
          have HBT := Lib.hid hbt
          have HBEST := Lib.hid hbest
          have HDR2 := Lib.hid dr2
          have HREST := Lib.hid hrest
          have HK := Lib.hid hk
          have m1 := mul_in (x := s) (m := isum W) (X := 1048576) (M := 8000) (by omega) ⟨hS0, hS1⟩ (by omega)
          have HME := Lib.hid hMe
          have d1 : ((p : Int) != (p : Int)) = false := by simp
          have d2 : decide (M ≤ 0) = false := by simp; omega
          have hkkI : (kk : Int) < (k : Int) := by omega
          obtain ⟨N, HN⟩ : ∃ N, Hid (N = wr.heap.size) := ⟨_, rfl⟩
          have HWA : Hid (Is (wr.alloc (.cells #[.int .i64 (kk : Int), .int .i64 (p : Int)] 34)) (wr.alloc (.cells #[.int .i64 (kk : Int), .int .i64 (p : Int)] 34)).heap.size A k c W) := (HA.out.wi.on (hb3'.out.trans (HFR.out.bw.mono hb3'.out.size)) (Nat.le_refl _)).on (below_box wr _) (Nat.le_refl _)
          clear hgo hv hve hbest hk hrest dr2 hmem hea hwk hf hMe hbt hby hpy
          go_wp2_with fail
          go_quiet (first | (go_at_call 22; exact Calls.quiet_of (HEX.out ▸ refExc_q _ room A k c W kk b0 (HWA.out.drewN _) (by omega) (by omega))))
          go_wp2_with fail
          go_quiet (fail)
          go_wp2_with fail
          rw [← HN.out]
          have HC0 : Hid ((wr.alloc (.cells #[.int .i64 (kk : Int), .int .i64 (p : Int)] 34)).cell? ⟨N, 0, none⟩ = some (.int .i64 (kk : Int))) := cell_last wr _ _ N 0 HN.out.symm
          have HC1 : Hid ((wr.alloc (.cells #[.int .i64 (kk : Int), .int .i64 (p : Int)] 34)).cell? ⟨N, 1, none⟩ = some (.int .i64 (p : Int))) := cell_last wr _ _ N 1 HN.out.symm
          have hNb : N ≠ bb := by rw [HN.out]; omega
          have hNn : N ≠ nb := by rw [HN.out]; omega
          obtain ⟨wa, rfl⟩ : ∃ y, y = wr := ⟨_, rfl⟩
          obtain ⟨g3, rfl⟩ : ∃ y, y = gk := ⟨_, rfl⟩
          go_loopg [109] k (fun gk vi wq => FIn w w3 room W R cls sz k bb nb st o (out.drop j) N kk p gk vi wq)
          case atStart => exact ⟨0, by omega, rfl, HFR.out.below (by first | exact below_drewN (below_box _ _) _ | exact below_box _ _ | exact below_drewN (below_drewN (below_box _ _) _) _ | (trace_state; fail)), HC0.out, HC1.out⟩
          case round =>
            clear HFR HC0 HC1 HWA hyc hnc hbbz hnbz hv0 hv1 hvb
            obtain ⟨i, hgi, rfl, hfr, hn0, hn1⟩ := hrel
            have HFR := Lib.hid hfr
            clear hfr
            have hNz : N < wr.heap.size := World.block_lt_of_cell? wr _ hn0
            have HWR := Lib.hid (HA.out.wi.on (hb3'.out.trans (HFR.out.bw.mono hb3'.out.size)) (Nat.le_refl _))
            by_cases hi : i < k
            · obtain ⟨q, S, hS⟩ : ∃ (q : Nat) (S : List Int), st[i]? = some (q, S) := ⟨st[i].1, st[i].2, List.getElem?_eq_getElem (by omega)⟩
              have hbi : (bOf st)[i]? = some (isum S) := by unfold bOf; simp [hS]
              have hyi := HFR.out.by_.at_ hbi
              have hbb2 := HFR.out.fit.ok.one (List.mem_of_getElem? hS)
              simp only at hbb2
              have hX : excW room W i (isum S) < M ∨ (excW room W i (isum S) = M ∧ kk ≤ i) := by
                have hbs := HBEST.out.best p (s :: T) HK.out i q S hS
                rw [← HM.out] at hbs
                by_cases he : S = []
                · subst he
                  obtain ⟨y, hy⟩ : ∃ y, W[i]? = some y := ⟨W[i]'(by rw [HA.out.wi.len]; exact hi), List.getElem?_eq_getElem _⟩
                  have hyb := (right_facts HA.out.rw_).2.2.1 y (List.mem_of_getElem? hy)
                  rw [excW_at HA.out.rw_ hy]
                  have e0 : isum ([] : List Int) = 0 := rfl
                  have := Int.mul_nonneg (show 0 ≤ room by omega) (show 0 ≤ y by omega)
                  rw [e0]
                  exact .inl (by omega)
                · exact hbs he
              have hcl2 := refExc_any wr room A k c W i (isum S) HWR.out (by omega) (by omega)
              generalize excW room W i (isum S) = X at *
              have HCL := Lib.hid hcl2
              clear hcl2 hbi hS
              generalize isum S = bi at *
              have d3 : decide (M < X) = false := by simp; omega
              rcases hX with hX | ⟨hX, hki⟩
              · have d4 : (X == M) = false := by simp; omega
                go_wp2_with fail
                refine HCL.out.mono ?_
                rintro e w7 ⟨rfl, hb7⟩
                have HFR7 := Lib.hid (HFR.out.below hb7)
                have HN0 := Lib.hid (ever_cell hn0 _ hb7)
                have HN1 := Lib.hid (ever_cell hn1 _ hb7)
                clear hb7
                go_wp2_with fail
                go_roundg (gk - 1)
                case measure => omega
                case rel => exact ⟨i + 1, by omega, by go_num, HFR7.out, HN0.out, HN1.out⟩
              · have d4 : (X == M) = true := by simp; omega
                have d5 : decide ((i : Int) < (kk : Int)) = false := by simp; omega
                have hkiI : ¬ (i : Int) < (kk : Int) := by omega
                go_wp2_with fail
                refine HCL.out.mono ?_
                rintro e w7 ⟨rfl, hb7⟩
                have HFR7 := Lib.hid (HFR.out.below hb7)
                have hn07 := ever_cell hn0 _ hb7
                have hn17 := ever_cell hn1 _ hb7
                clear hb7
                go_wp2_with fail
                go_roundg (gk - 1)
                case measure => omega
                case rel => exact ⟨i + 1, by omega, by go_num, HFR7.out, hn07, hn17⟩
            · obtain rfl : k = i := by omega
              have hby2 : (bOf st)[kk]? = some b0 := by unfold bOf; simp [HK.out, HB0.out]
              have hpy2 : (pOf st)[kk]? = some (p : Int) := by unfold pOf; simp [HK.out]
              have hyc := HFR.out.by_.at_ hby2
              have hyf := HFR.out.by_.frozenAt kk
              have hnc := HFR.out.nx.at_ hpy2
              have hnf := HFR.out.nx.frozenAt kk
              obtain ⟨qb, qo, x, rfl, hqb, hx, hxc, hxi⟩ := (HQI.out.on HFR.out.bw (Nat.le_refl _)).at_ hkl
              have htwo := vsz_two (v := (kk, p)) (size := (sz : Int)) (cls := cls) hx hxi.len dpl
              rw [dvs] at htwo
              simp only at htwo
              have hfx := HFEW.out x (List.mem_of_getElem? hx)
              have hx30 := hfx.2
              have HXI := Lib.hid hxi
              clear hby2 hpy2 hx hfx hxi
              rcases htwo with ⟨hp, hxy⟩ | ⟨hp, hc, he, hy⟩
              · obtain ⟨xb, xo, y2, hxA, hxb, hxy2, hxyc, _⟩ := HXI.out.at_ hp
                rw [hxy] at hxy2
                injection hxy2 with hxy2
                subst hxy2
                obtain ⟨xA, xn, xc, xL⟩ := x
                simp only at hxA hxc hp hx30
                subst hxA
                have hpI : (p : Int) < (xn : Int) := by omega
                clear hxy
                go_wp2_with fail
                go_quiet (fail)
                obtain ⟨q1, rfl⟩ : ∃ y, y = nq := ⟨_, rfl⟩
                go_wp2_with fail
                go_quiet (fail)
                obtain ⟨q2, rfl⟩ : ∃ y, y = nq := ⟨_, rfl⟩
                go_wp2_with fail
                have hw9 : ∀ q : Nat, FR w w3 (((wr.drewN q).setCell ⟨bb, kk, none⟩ (.int .i64 (b0 - s))).setCell ⟨nb, kk, none⟩ (.int .i64 ((p : Int) + 1))) room W R cls sz k bb nb (st.set kk (p + 1, T)) (o - s) (out.drop (j + 1)) := fun q => by
                  have hf0 := HFR.out.below (below_drewN (RowKit.Below.refl _ wr) q)
                  refine ⟨HREST.out, HFR.out.fit.step HK.out, HDR2.out, ?_, ?_, ?_, ?_⟩
                  · rw [bOf_set, ← HT0.out, ← HBT.out]; exact (hf0.by_.set kk _).other (fun e => hne2 e.symm) _
                  · rw [pOf_set]; exact (hf0.nx.other hne2 _).set kk _
                  · exact (hf0.bel.setCell (by show _ ≤ bb; omega) _).setCell (by show _ ≤ nb; omega) _
                  · exact (hf0.bw.setCell (by show _ ≤ bb; omega) _).setCell (by show _ ≤ nb; omega) _
                have hn9 : ∀ q : Nat, (((wr.drewN q).setCell ⟨bb, kk, none⟩ (.int .i64 (b0 - s))).setCell ⟨nb, kk, none⟩ (.int .i64 ((p : Int) + 1))).cell? ⟨N, 0, none⟩ = some (.int .i64 (kk : Int)) := fun q => by
                  rw [World.cell?_setCell_far _ _ _ _ (fun e => hNn e.symm), World.cell?_setCell_far _ _ _ _ (fun e => hNb e.symm)]
                  exact hn0
                have HFR2 := Lib.hid (hw9 (q1 + q2))
                have hn91 := hn9 (q1 + q2)
                clear hw9 hn9 hn0 hn1 HFR hyc hyf hnc hnf hxc
                generalize (((wr.drewN (q1 + q2)).setCell ⟨bb, kk, none⟩ (.int .i64 (b0 - s))).setCell ⟨nb, kk, none⟩ (.int .i64 ((p : Int) + 1))) = w9 at *
                have HIS := Lib.hid (HA.out.wi.on (hb3'.out.trans (HFR2.out.bw.mono hb3'.out.size)) (Nat.le_refl _))
                have hyc2 := HFR2.out.by_.at_ (j := kk) (x := t0) (by rw [bOf_set, ← HT0.out]; rw [List.getElem?_set_self (by unfold bOf; simp; omega)])
                have hkw : W.length = k := HA.out.wi.len
                go_quiet (first | (go_at_call 23; exact Calls.quiet_of (HEX2.out ▸ exc_q _ room A k c W kk t0 (HIS.out.drewN _) (by omega) (by omega))) | (go_at_call 21; exact Calls.quiet_of_same ((refSum_any _ _ k c W (HIS.out.drewN _) HSS.out).mono fun _ _ h => ⟨h.1, h.2.symm⟩)))
                have d9 : decide (M - s * isum W ≤ -s * isum W) = false := by rw [Int.neg_mul]; simp; omega
                have m3 : ¬ (M - s * isum W ≤ -s * isum W) := by rw [Int.neg_mul]; omega
                have m2 : -(1048576 * 8000) ≤ -s * isum W ∧ -s * isum W ≤ 1048576 * 8000 := by rw [Int.neg_mul]; omega
                have d10 : wrap64 (-s * isum W) = -s * isum W := w64 (by omega)
                go_wp2_with fail
                go_roundg (g3 - 1)
                case measure => omega
                case rel => exact ⟨j + 1, _, _, by omega, by go_num, HFR2.out.below (below_drewN (RowKit.Below.refl _ _) _)⟩
              · obtain ⟨xA, xn, xc, xL⟩ := x
                simp only at hxc hp hx30 he hc
                have HC := Lib.hid hc
                clear hc
                subst hy
                have hpI : ¬ (p : Int) < (xn : Int) := by omega
                have HE := Lib.hid he
                have hpb : (p : Int) ≤ 30 := by omega
                clear he hp
                go_wp2_with fail
                go_quiet (fail)
                obtain ⟨q1, rfl⟩ : ∃ y, y = nq := ⟨_, rfl⟩
                go_wp2_with fail
                have hw9 : ∀ q : Nat, FR w w3 (((wr.drewN q).setCell ⟨bb, kk, none⟩ (.int .i64 (b0 - (sz : Int)))).setCell ⟨nb, kk, none⟩ (.int .i64 ((p : Int) + 1))) room W R cls sz k bb nb (st.set kk (p + 1, T)) (o - (sz : Int)) (out.drop (j + 1)) := fun q => by
                  have hf0 := HFR.out.below (below_drewN (RowKit.Below.refl _ wr) q)
                  refine ⟨HREST.out, HFR.out.fit.step HK.out, HDR2.out, ?_, ?_, ?_, ?_⟩
                  · rw [bOf_set, ← HT0.out, ← HBT.out]; exact (hf0.by_.set kk _).other (fun e => hne2 e.symm) _
                  · rw [pOf_set]; exact (hf0.nx.other hne2 _).set kk _
                  · exact (hf0.bel.setCell (by show _ ≤ bb; omega) _).setCell (by show _ ≤ nb; omega) _
                  · exact (hf0.bw.setCell (by show _ ≤ bb; omega) _).setCell (by show _ ≤ nb; omega) _
                have hn9 : ∀ q : Nat, (((wr.drewN q).setCell ⟨bb, kk, none⟩ (.int .i64 (b0 - (sz : Int)))).setCell ⟨nb, kk, none⟩ (.int .i64 ((p : Int) + 1))).cell? ⟨N, 0, none⟩ = some (.int .i64 (kk : Int)) := fun q => by
                  rw [World.cell?_setCell_far _ _ _ _ (fun e => hNn e.symm), World.cell?_setCell_far _ _ _ _ (fun e => hNb e.symm)]
                  exact hn0
                have HFR2 := Lib.hid (hw9 q1)
                have hn91 := hn9 q1
                clear hw9 hn9 hn0 hn1 HFR hyc hyf hnc hnf hxc
                generalize (((wr.drewN q1).setCell ⟨bb, kk, none⟩ (.int .i64 (b0 - (sz : Int)))).setCell ⟨nb, kk, none⟩ (.int .i64 ((p : Int) + 1))) = w9 at *
                have HIS := Lib.hid (HA.out.wi.on (hb3'.out.trans (HFR2.out.bw.mono hb3'.out.size)) (Nat.le_refl _))
                have hyc2 := HFR2.out.by_.at_ (j := kk) (x := t0) (by rw [bOf_set, ← HT0.out]; rw [List.getElem?_set_self (by unfold bOf; simp; omega)])
                have hkw : W.length = k := HA.out.wi.len
                go_quiet (first | (go_at_call 23; exact Calls.quiet_of (HEX2.out ▸ exc_q _ room A k c W kk t0 (HIS.out.drewN _) (by omega) (by omega))) | (go_at_call 21; exact Calls.quiet_of_same ((refSum_any _ _ k c W (HIS.out.drewN _) HSS.out).mono fun _ _ h => ⟨h.1, h.2.symm⟩)))
                have d9 : decide (M - (sz : Int) * isum W ≤ -(sz : Int) * isum W) = false := by rw [Int.neg_mul]; simp; omega
                have m3 : ¬ (M - (sz : Int) * isum W ≤ -(sz : Int) * isum W) := by rw [Int.neg_mul]; omega
                have m2 : -(1048576 * 8000) ≤ -(sz : Int) * isum W ∧ -(sz : Int) * isum W ≤ 1048576 * 8000 := by rw [Int.neg_mul]; omega
                have d10 : wrap64 (-(sz : Int) * isum W) = -(sz : Int) * isum W := w64 (by omega)
                go_wp2_with fail
                go_roundg (g3 - 1)
                case measure => omega
                case rel => exact ⟨j + 1, _, _, by omega, by go_num, HFR2.out.below (below_drewN (RowKit.Below.refl _ _) _)⟩
        · go_wp2_with fail
          go_ret
          exact ⟨rfl, HFR.out.bel⟩
end Go.Proofs.Ytjmdjnldkecoeaa
