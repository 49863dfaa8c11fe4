/-
  WALK of BoardAgain.
-/
import Derived.Test.YtbnhemmklbbnmaaBdLot23
import Derived.Test.YtbnhemmklbbnmaaBdLot20
import Derived.Deep.CutRange
namespace Go.Proofs.Ytbnhemmklbbnmaa
open Go.RowKit Go.Sort Go.Maps

theorem Bd.toBelow {w w' : World} {S : Nat → Prop} {base bd f m last : Nat} {G : List Gp} {E : List En} {fl : List Nat} {B : Nat} (h : Bd w S base bd f m last G E fl) (ho : Only S w w') (hB : B ≤ base) (hB2 : B ≤ w.heap.size) : RowKit.Below B w w' := ho.toBelow2 (fun k hk => Nat.le_trans hB (h.lo k hk).1) hB2
def AgainRel (w : World) (base bd f m T X : Nat) (mem fl : List Nat) (gk : Nat) (v14 v15 v16 : Value) (wr : World) : Prop :=
  ∃ (now last tries gb mb : Nat) (S : Nat → Prop), gk + now = T + 2 ∧ 1 ≤ now ∧ v14 = .int .i64 (last : Int) ∧ v15 = .int .i64 (tries : Int) ∧ v16 = .int .i64 (now : Int) ∧ Bd wr S base bd f m 1 [⟨1, tries + 1, gb, mb, mem⟩] [(1, (last : Int) + (wt f m tries : Nat))] fl ∧ last < now ∧ now ≤ last + wt f m tries ∧ tries ≤ last ∧
    wr.cell? ⟨X, 0, none⟩ = some (.int .i64 (f : Int)) ∧ wr.cell? ⟨X, 1, none⟩ = some (.int .i64 (m : Int)) ∧ RowKit.Below w.heap.size w wr
theorem wt_pos {f m t : Nat} (h : Pr f m) : 1 ≤ wt f m t := by
  unfold wt
  have h1 := h.one
  have h2 := h.le
  have h3 : 1 ≤ f * 2 ^ t := Nat.mul_pos h1 (Nat.two_pow_pos t)
  omega
set_option maxRecDepth 100000 in
set_option maxHeartbeats 4000000 in
theorem boardAgain_walk (w : World) (a b ticks t8 : Nat) (ha : a < 65536) (hb : b < 65536) (hti : ticks < 65536) (ht8 : t8 < 256) (A : Option Addr) (n c : Nat) (L : List Nat) (hL : Nw w A n c L) :
    Calls Try.prog 4 #[.int .u16 (a : Int), .int .u16 (b : Int), .slice A n c, .int .u16 (ticks : Int), .int .u8 (t8 : Int)] w (Says w (.bool true)) := by
  have HLA := Lib.hid hL
  have HL0 := Lib.hid hL
  have hnc := hL.sn.le
  have hnm : c ≤ 9223372036854775807 := hL.sn.max
  have HPAR := Lib.hid (And.intro ha hb)
  clear hL ha hb
  go_enter Try.func4, Try.ntmps4
  go_wp2_with fail
  refine (awake13_any w).mono ?_
  rintro e w1 ⟨rfl, hb1⟩
  have HB1 := Lib.hid hb1
  have HL1 := Lib.hid (HLA.out.on hb1)
  clear hb1 HLA
  go_wp2_with fail
  have hpa := params13_any w1 a b HPAR.out.1 HPAR.out.2
  obtain ⟨f, HF⟩ : ∃ f, Hid (f = 1 + a % 50) := ⟨_, rfl⟩
  obtain ⟨m, HM⟩ : ∃ m, Hid (m = 1 + a % 50 + b % 500) := ⟨_, rfl⟩
  have HP : Hid (Pr f m) := ⟨by have := HF.out; omega, by have := HF.out; have := HM.out; omega, by have := HM.out; omega⟩
  have hm549 : m ≤ 549 := by have := HM.out; omega
  rw [← HM.out, ← HF.out] at hpa
  unfold prv at hpa
  have HPA := Lib.hid hpa
  clear hpa HF HM HPAR
  refine HPA.out.mono ?_
  rintro e w2 ⟨rfl, hb2⟩
  have HB2 := Lib.hid (HB1.out.trans (hb2.mono HB1.out.size))
  have HL2 := Lib.hid (HL1.out.on hb2)
  clear hb2 HL1 HB1 HPA
  go_wp2_with fail
  obtain ⟨X, HX⟩ : ∃ X, Hid (X = w2.heap.size) := ⟨_, rfl⟩
  have x0 := cell_last w2 #[.int .i64 (f : Int), .int .i64 (m : Int)] 26 X 0 HX.out.symm
  have x1 := cell_last w2 #[.int .i64 (f : Int), .int .i64 (m : Int)] 26 X 1 HX.out.symm
  have hbx := below_box w2 (.cells #[.int .i64 (f : Int), .int .i64 (m : Int)] 26)
  have hz3 : (w2.alloc (.cells #[.int .i64 (f : Int), .int .i64 (m : Int)] 26)).heap.size = X + 1 := by rw [HX.out]; simp
  have HB3 := Lib.hid (HB2.out.trans (hbx.mono HB2.out.size))
  have HL3 := Lib.hid (HL2.out.on hbx)
  rw [← HX.out]
  clear hbx HB2 HL2
  generalize w2.alloc (.cells #[.int .i64 (f : Int), .int .i64 (m : Int)] 26) = w3 at *
  refine (bnewD w3 f m HP.out).mono ?_
  rintro e w4 ⟨bd, S4, rfl, hbd4, hb4⟩
  have HBD4 := Lib.hid hbd4
  have HB4 := Lib.hid (HB3.out.trans (hb4.mono HB3.out.size))
  have HL4 := Lib.hid (HL3.out.on hb4)
  have y0 := (hb4.cell (p := ⟨X, 0, none⟩) (show X < w3.heap.size by omega)).trans x0
  have y1 := (hb4.cell (p := ⟨X, 1, none⟩) (show X < w3.heap.size by omega)).trans x1
  obtain ⟨base, HBASE⟩ : ∃ z, Hid (z = w3.heap.size) := ⟨_, rfl⟩
  rw [← HBASE.out] at HBD4
  have HXB : Hid (X < base ∧ w.heap.size ≤ base) := ⟨by have := HBASE.out; omega, by have := HBASE.out; have := HB3.out.size; omega⟩
  clear hbd4 hb4 HB3 HL3 x0 x1 hz3 HBASE HX
  obtain ⟨q, hq⟩ : ∃ q, q = min n 20 := ⟨_, rfl⟩
  go_upto_region 5 with fail
  go_cut [2] (fun v wx => v = .slice A q c ∧ w4 = wx)
  case first =>
    by_cases h : n ≤ 20
    · obtain rfl : q = n := by omega
      have hI : (q : Int) ≤ 20 := by omega
      clear hq
      go_wp2_with fail
      go_meet
      case rel => exact ⟨by congr 1; omega, rfl⟩
    · obtain rfl : q = 20 := by omega
      have hI : (20 : Int) < (n : Int) := by omega
      have hc : 20 ≤ c := by omega
      clear hq
      go_wp2_with fail
      go_meet
      case rel => exact ⟨by congr 1; omega, rfl⟩
  case rest =>
    obtain ⟨rfl, rfl⟩ := hcut
    have HL5 := Lib.hid (HL4.out.take (m := q) (by omega))
    have HL0q := Lib.hid (HL0.out.take (m := q) (by omega))
    clear HL0
    have hq20 : q ≤ 20 := by omega
    clear hq HL4
    generalize L.take q = l at *
    have HLQ : Hid (l.length = q) := by have := HL5.out.sn.len; rw [nvs_len] at this; show _ = _; omega
    by_cases hq0 : q = 0
    · subst hq0
      have hl0 : l = [] := List.eq_nil_of_length_eq_zero HLQ.out
      have hs := bsendD_none HBD4.out A 0 c l HL5.out.sn HL5.out.lt (by omega) (by rw [hl0]; rfl) 0
      have HS := Lib.hid hs
      clear hs hl0
      go_wp2_with fail
      refine HS.out.mono ?_
      rintro e w5 ⟨rfl, hb5⟩
      have HB5 := Lib.hid (HB4.out.trans (hb5.mono HB4.out.size))
      clear hb5
      go_wp2_with fail
      go_ret
      exact ⟨rfl, HB5.out⟩
    · have hne : newL [] l ≠ [] := by
        cases l with
        | nil => exact absurd HLQ.out.symm hq0
        | cons x l =>
          intro e
          have : x ∈ newL [] (x :: l) := (newL_mem [] (x :: l) x).2 ⟨List.mem_cons_self, by simp⟩
          rw [e] at this
          cases this
      have hs := bsendD_some HBD4.out A q c l HL5.out.sn HL5.out.lt hne 0 (by omega) (by omega) (by simp; omega)
      obtain ⟨mem, HMEM⟩ : ∃ z, Hid (z = newL [] l) := ⟨_, rfl⟩
      unfold BSendD at hs
      have e2 : setE (0 + 1) (0 + ((wt f m 0 : Nat) : Int)) [] = [(1, ((0 : Nat) : Int) + ((wt f m 0 : Nat) : Int))] := rfl
      rw [← HMEM.out, e2, List.nil_append] at hs
      obtain ⟨fl, HFL⟩ : ∃ z, Hid (z = sortN mem) := ⟨_, rfl⟩
      rw [← HFL.out] at hs
      have HFM : Hid ((∀ x, x ∈ fl ↔ x ∈ l) ∧ fl.length ≤ 20) := by
        refine ⟨fun x => ?_, ?_⟩
        · rw [HFL.out, sortN_mem, HMEM.out, newL_mem]
          simp
        · have h1 : fl.length = mem.length := by rw [HFL.out]; exact (List.mergeSort_perm mem _).length_eq
          have h2 := newL_len [] l
          rw [← HMEM.out] at h2
          have h3 := HLQ.out
          omega
      have HS := Lib.hid hs
      clear hs e2 hne
      go_wp2_with fail
      refine HS.out.mono ?_
      rintro e w5 ⟨rfl, S5, gb, mb, hbd5, ho5, hk5⟩
      have HBD5 := Lib.hid hbd5
      have hb5 := HBD4.out.toBelow ho5 (Nat.le_refl _) (by have := HBD4.out.lo bd HBD4.out.bdS; omega)
      have HB5 : Hid (RowKit.Below w.heap.size w w5) := HB4.out.trans (hb5.mono HXB.out.2)
      have z0 := (hb5.cell (p := ⟨X, 0, none⟩) HXB.out.1).trans y0
      have z1 := (hb5.cell (p := ⟨X, 1, none⟩) HXB.out.1).trans y1
      clear hbd5 ho5 hk5 hb5 HS y0 y1 HBD4
      go_wp2_with fail
      obtain ⟨T, hT⟩ : ∃ T, T = ticks % 2000 := ⟨_, rfl⟩
      have hTI : (ticks : Int) % 2000 = (T : Int) := by omega
      have hT2 : T < 2000 := by omega
      clear hT
      go_loopg [14, 15, 16] (T + 1) (fun gk v14 v15 v16 wr => AgainRel w base bd f m T X mem fl gk v14 v15 v16 wr)
      case atStart =>
        exact ⟨1, 0, 0, gb, mb, S5, rfl, Nat.le_refl _, rfl, rfl, rfl, HBD5.out, by omega, by have := wt_pos (t := 0) HP.out; omega, Nat.le_refl _, z0, z1, HB5.out⟩
      case round =>
        clear z0 z1 HBD5 HB5
        obtain ⟨now, last, tries, gb', mb', S, hg, hn1, rfl, rfl, rfl, hbd, hln, hnw, htl, x0, x1, hbel⟩ := hrel
        have HG := Lib.hid hg
        have HBD := Lib.hid hbd
        have HBEL := Lib.hid hbel
        have HNOW := Lib.hid (And.intro hn1 (And.intro hln (And.intro hnw htl)))
        clear hg hbd hbel
        by_cases hk : now ≤ T
        · have hkI : (now : Int) ≤ (T : Int) := by omega
          have hd := bdueD HBD.out (by omega) (by have := HFM.out.2; omega) (fun x hx => by rw [List.mem_singleton] at hx; subst hx; show tries + 1 < _; omega) (now : Int) (by omega)
          obtain ⟨dl, HDL⟩ : ∃ z, Hid (z = wt f m tries) := ⟨_, rfl⟩
          have hdl := wt_le f m tries
          rw [← HDL.out] at hd hnw hdl
          unfold BDueD at hd
          by_cases hat : now = last + dl
          · have e1 : ids (dueE (now : Int) [(1, (last : Int) + (dl : Int))]) = [1] := by
              unfold dueE
              rw [List.takeWhile_cons_of_pos (by simp; omega)]
              rfl
            have e2 : restE (now : Int) [(1, (last : Int) + (dl : Int))] = [] := by
              unfold restE
              rw [List.dropWhile_cons_of_pos (by simp; omega)]
              rfl
            have e3 : [1].foldl (dueStep f m (now : Int)) ([(⟨1, tries + 1, gb', mb', mem⟩ : Gp)], []) = ([⟨1, tries + 1 + 1, gb', mb', mem⟩], [(1, (now : Int) + ((wt f m (tries + 1) : Nat) : Int))]) := rfl
            rw [e1, e2, e3] at hd
            have HD := Lib.hid hd
            have HAT := Lib.hid hat
            clear hd e1 e2 e3 hat
            go_wp2_with fail
            refine HD.out.mono ?_
            rintro e w6 ⟨D, dn, dc, rows, S6, rfl, hb6, hdr, hrr, hrw, ho6, hk6⟩
            have hdn : dn = 1 := by
              have h1 := hdr.1
              have h2 := congrArg List.length hrw
              simp at h1 h2
              omega
            subst hdn
            have hbl := HBD.out.toBelow ho6 (Nat.le_refl _) (by have := HBD.out.lo bd HBD.out.bdS; omega)
            have z0 := (hbl.cell (p := ⟨X, 0, none⟩) HXB.out.1).trans x0
            have z1 := (hbl.cell (p := ⟨X, 1, none⟩) HXB.out.1).trans x1
            have HB6 := Lib.hid hb6
            have HBE6 : Hid (RowKit.Below w.heap.size w w6) := HBEL.out.trans (hbl.mono HXB.out.2)
            have hsub : (now : Int) - (last : Int) = (dl : Int) := by have := HAT.out; omega
            have hx6 := World.block_lt_of_cell? w6 _ z0
            have HW : Hid (Calls Try.prog 23 #[.agg #[.int .i64 (f : Int), .int .i64 (m : Int)], .int .i64 (tries : Int)] w6 (Ans w6 (.int .i64 (dl : Int)))) := by
              rw [HDL.out]
              exact wait_nat w6 f m tries HP.out (by omega)
            clear hdr hrr hrw ho6 hk6 hb6 hbl HD
            go_wp2_with fail
            refine HW.out.mono ?_
            rintro e w7 ⟨rfl, hb7⟩
            have y0 := (hb7.cell (p := ⟨X, 0, none⟩) hx6).trans z0
            have y1 := (hb7.cell (p := ⟨X, 1, none⟩) hx6).trans z1
            have HB7 := Lib.hid (HB6.out.below hb7)
            have HBE7 : Hid (RowKit.Below w.heap.size w w7) := HBE6.out.trans (hb7.mono HBE6.out.size)
            clear hb7 HW
            go_wp2_with fail
            go_roundg (gk - 1)
            case measure => have := HG.out; omega
            case rel =>
              have h1 := wt_pos (t := tries + 1) HP.out
              exact ⟨now + 1, now, tries + 1, gb', mb', S6, by have := HG.out; omega, by omega, rfl, by go_num, by go_num, HB7.out, by omega, by omega, by omega, y0, y1, HBE7.out⟩
          · have hlt : now < last + dl := by omega
            have e1 : dueE (now : Int) [(1, (last : Int) + (dl : Int))] = [] := by
              unfold dueE
              rw [List.takeWhile_cons_of_neg (by simp; omega)]
            have e2 : restE (now : Int) [(1, (last : Int) + (dl : Int))] = [(1, (last : Int) + (dl : Int))] := by
              unfold restE
              rw [List.dropWhile_cons_of_neg (by simp; omega)]
            rw [e1, e2] at hd
            have e3 : (ids []).foldl (dueStep f m (now : Int)) ([(⟨1, tries + 1, gb', mb', mem⟩ : Gp)], [(1, (last : Int) + (dl : Int))]) = ([⟨1, tries + 1, gb', mb', mem⟩], [(1, (last : Int) + (dl : Int))]) := rfl
            rw [e3] at hd
            have HD := Lib.hid hd
            clear hd e1 e2 e3 hat
            go_wp2_with fail
            refine HD.out.mono ?_
            rintro e w6 ⟨D, dn, dc, rows, S6, rfl, hb6, hdr, hrr, hrw, ho6, hk6⟩
            have hdn : dn = 0 := by
              have h1 := hdr.1
              have h2 := congrArg List.length hrw
              simp only [List.length_map, List.length_nil, ids, List.map_nil] at h1 h2
              omega
            subst hdn
            have hbl := HBD.out.toBelow ho6 (Nat.le_refl _) (by have := HBD.out.lo bd HBD.out.bdS; omega)
            have z0 := (hbl.cell (p := ⟨X, 0, none⟩) HXB.out.1).trans x0
            have z1 := (hbl.cell (p := ⟨X, 1, none⟩) HXB.out.1).trans x1
            rw [HDL.out] at hb6
            have HB6 := Lib.hid hb6
            have HBE6 : Hid (RowKit.Below w.heap.size w w6) := HBEL.out.trans (hbl.mono HXB.out.2)
            obtain ⟨u, hu⟩ : ∃ u : Nat, u = now - last := ⟨_, rfl⟩
            have hsub : (now : Int) - (last : Int) = (u : Int) := by omega
            have hge : ¬ (m : Int) ≤ (u : Int) := by omega
            clear hdr hrr hrw ho6 hk6 hb6 hbl HD hu
            go_wp2_with fail
            go_roundg (gk - 1)
            case measure => have := HG.out; omega
            case rel =>
              exact ⟨now + 1, last, tries, gb', mb', S6, by have := HG.out; omega, by omega, rfl, rfl, by go_num, HB6.out, by omega, by rw [← HDL.out]; omega, by omega, z0, z1, HBE6.out⟩
        · have hkI : ¬ (now : Int) ≤ (T : Int) := by omega
          obtain ⟨i, HI⟩ : ∃ i, Hid (i = t8 % q) := ⟨_, rfl⟩
          have hiq : i < q := by rw [HI.out]; exact Nat.mod_lt _ (by omega)
          have hiI : (t8 : Int) % (q : Int) = (i : Int) := by rw [HI.out]; rfl
          have hqn : ¬ (q : Int) = 0 := by omega
          obtain ⟨x, hx⟩ : ∃ x, l[i]? = some x := ⟨_, List.getElem?_eq_getElem (by have := HLQ.out; omega)⟩
          have hlw : Sn wr wr.heap.size A q c 1 (nvs l) := HL0q.out.sn.on HBEL.out (Nat.le_refl _)
          obtain ⟨ab, ao, rfl, hab, hcell⟩ := hlw.cell (by omega)
          have hc : wr.cell? ⟨ab, ao + i, none⟩ = some (.int .u64 (x : Int)) := hcell i (nv x) (by simp [nvs, hx])
          clear hcell hlw
          have hxl := List.mem_of_getElem? hx
          have hx64 := HL0q.out.lt x hxl
          have hxm : x ∈ mem := by rw [HMEM.out, newL_mem]; exact ⟨hxl, by simp⟩
          have hxf : x ∈ fl := (HFM.out.1 x).2 hxl
          have HX1 := Lib.hid (And.intro hx64 hxf)
          obtain ⟨y, HY⟩ : ∃ y, Hid (y = tries + 1) := ⟨_, rfl⟩
          have hyI : (tries : Int) + 1 = (y : Int) := by have := HY.out; omega
          have hyb : y ≤ 4000 := by have := HY.out; have := HG.out; have := HNOW.out; omega
          have htb : tries ≤ 4000 := by omega
          clear hln hnw htl hn1
          have HTR : Hid (Calls Try.prog 21 #[.pointer (some ⟨bd, 0, none⟩), .int .u64 (x : Int)] wr fun e w' => e = .returned (.int .i64 (y : Int)) ∧ wr = w') := by
            rw [HY.out]
            exact btriesD_yes HBD.out (g := ⟨1, tries + 1, gb', mb', mem⟩) (List.mem_singleton.2 rfl) hxm
          clear hx hxl hx64 hxm hxf HI x0 x1
          go_wp2_with fail
          refine HTR.out.mono ?_
          rintro e w6 ⟨rfl, rfl⟩
          go_wp2_with fail
          have hsn6 : Sn (wr.alloc (.cells #[.int .u64 (x : Int)] 34)) (wr.alloc (.cells #[.int .u64 (x : Int)] 34)).heap.size (some ⟨wr.heap.size, 0, none⟩) 1 1 1 (nvs [x]) := lit_nvs wr [x] 1 rfl (by unfold maxLen; omega)
          have hbx6 := below_box wr (.cells #[.int .u64 (x : Int)] 34)
          have HB6 := Lib.hid (HBD.out.below hbx6)
          have HE6 := Lib.hid (HBEL.out.trans (hbx6.mono HBEL.out.size))
          clear hbx6 HBD HBEL HTR
          generalize wr.alloc (.cells #[.int .u64 (x : Int)] 34) = w6 at *
          refine (ofA_any w6 _ 1 1 [x] hsn6 (fun y hy => by rw [List.mem_singleton] at hy; subst hy; exact HX1.out.1) (by omega)).mono ?_
          rintro e w7 ⟨Ar, rn, rc, rfl, hst, hne, hb7⟩
          have hb7' := HB6.out.below hb7
          have HE7 := Lib.hid (HE6.out.trans (hb7.mono HE6.out.size))
          have hrn : rn ≤ 1000 := by
            have h1 := hst.len
            have h2 := of_len [x]
            simp only [List.length_cons, List.length_nil] at h2
            omega
          have hokx : Okl (ofL [x]) := of_ok (fun y hy => by rw [List.mem_singleton] at hy; subst hy; exact HX1.out.1)
          have ht := btakeD hb7' (by have := HFM.out.2; omega) (by omega) Ar rn rc (ofL [x]) hst hrn hokx
          have f1 : fl.filter (inR (ofL [x])) = [x] := by
            refine inc_ext (inc_filter hb7'.inc _) (List.pairwise_singleton _ _) fun y => ?_
            rw [List.mem_filter, inR_of, decide_eq_true_iff, List.mem_singleton]
            exact ⟨fun h => h.2, fun h => ⟨by rw [h]; exact HX1.out.2, h⟩⟩
          obtain ⟨fl2, HF2⟩ : ∃ z, Hid (z = fl.filter (fun y => !inR (ofL [x]) y)) := ⟨_, rfl⟩
          have HNX : Hid (x ∉ fl2 ∧ fl2.length ≤ 20) := by
            rw [HF2.out]
            refine ⟨fun h => ?_, Nat.le_trans (List.length_filter_le _ _) HFM.out.2⟩
            have := (List.mem_filter.1 h).2
            rw [inR_of] at this
            simp at this
          obtain ⟨G2, HG2⟩ : ∃ z, Hid (z = takeG (fun y => !inR (ofL [x]) y) [(⟨1, tries + 1, gb', mb', mem⟩ : Gp)]) := ⟨_, rfl⟩
          obtain ⟨E2, HE2⟩ : ∃ z, Hid (z = takeE G2 [(1, (last : Int) + (wt f m tries : Nat))]) := ⟨_, rfl⟩
          have HT2 : Hid (∀ g ∈ G2, g.tries ≤ tries + 1) := fun g hg => by
            rw [HG2.out] at hg
            obtain ⟨z, hz, rfl, _⟩ := takeG_mem.1 hg
            rw [List.mem_singleton] at hz
            subst hz
            exact Nat.le_refl _
          unfold BTakeD at ht
          rw [f1, ← HF2.out, ← HG2.out, ← HE2.out] at ht
          have HT := Lib.hid ht
          have HB7 := Lib.hid hb7'
          clear ht f1 hst hne hb7 hb7' hrn hsn6 hokx HG2 HE2 HF2
          go_wp2_with fail
          refine HT.out.mono ?_
          rintro e w8 ⟨gA, gn, gc, S8, rfl, hgo, hb8, ho8, hk8⟩
          have hbl8 := HB7.out.toBelow ho8 (Nat.le_refl _) (by have := HB7.out.lo bd HB7.out.bdS; omega)
          have HE8 : Hid (RowKit.Below w.heap.size w w8) := HE7.out.trans (hbl8.mono HXB.out.2)
          have hbx9 := below_box w8 (.cells #[.int .u64 (x : Int)] 34)
          have hz9 : (w8.alloc (.cells #[.int .u64 (x : Int)] 34)).heap.size = w8.heap.size + 1 := by simp
          have hsn9 : Sn (w8.alloc (.cells #[.int .u64 (x : Int)] 34)) (w8.alloc (.cells #[.int .u64 (x : Int)] 34)).heap.size (some ⟨w8.heap.size, 0, none⟩) 1 1 1 (nvs [x]) := lit_nvs w8 [x] 1 rfl (by unfold maxLen; omega)
          have hgs : Sn (w8.alloc (.cells #[.int .u64 (x : Int)] 34)) (w8.alloc (.cells #[.int .u64 (x : Int)] 34)).heap.size gA gn gc 1 (nvs [x]) := ((Sn.of_own hgo).onA (.cells #[.int .u64 (x : Int)] 34)).more (by omega)
          have HB9 := Lib.hid (hb8.below hbx9)
          have HE9 := Lib.hid (HE8.out.trans (hbx9.mono HE8.out.size))
          have HQ := Lib.hid (eqn_yes _ gA (some ⟨w8.heap.size, 0, none⟩) gn gc 1 1 [x] hgs hsn9)
          clear hgo hb8 ho8 hk8 HT hbx9 hsn9 hgs hz9 hbl8
          go_wp2_with fail
          refine HQ.out.mono ?_
          rintro e w10 ⟨rfl, hb10⟩
          have HB10 := Lib.hid (HB9.out.below hb10)
          have HE10 := Lib.hid (HE9.out.trans (hb10.mono HE9.out.size))
          clear hb10 HQ
          go_wp2_with fail
          refine (bhas_of w10 _ (x : Int) 0 (btriesD_no HB10.out HNX.out.1 HX1.out.1)).mono ?_
          rintro e w11 ⟨rfl, rfl⟩
          go_wp2_with fail
          have hsn11 : Sn (w10.alloc (.cells #[.int .u64 (x : Int)] 34)) (w10.alloc (.cells #[.int .u64 (x : Int)] 34)).heap.size (some ⟨w10.heap.size, 0, none⟩) 1 1 1 (nvs [x]) := lit_nvs w10 [x] 1 rfl (by unfold maxLen; omega)
          have hbx11 := below_box w10 (.cells #[.int .u64 (x : Int)] 34)
          have HB11 := Lib.hid (HB10.out.below hbx11)
          have HE11 := Lib.hid (HE10.out.trans (hbx11.mono HE10.out.size))
          clear hbx11 HB10
          generalize w10.alloc (.cells #[.int .u64 (x : Int)] 34) = w11 at *
          refine (ofA_any w11 _ 1 1 [x] hsn11 (fun y hy => by rw [List.mem_singleton] at hy; subst hy; exact HX1.out.1) (by omega)).mono ?_
          rintro e w12 ⟨Ar2, rn2, rc2, rfl, hst, hne, hb12⟩
          have hb12' := HB11.out.below hb12
          have HE12 := Lib.hid (HE11.out.trans (hb12.mono HE11.out.size))
          have hrn : rn2 ≤ 1000 := by
            have h1 := hst.len
            have h2 := of_len [x]
            simp only [List.length_cons, List.length_nil] at h2
            omega
          have hokx : Okl (ofL [x]) := of_ok (fun y hy => by rw [List.mem_singleton] at hy; subst hy; exact HX1.out.1)
          have ht := btakeD hb12' (by have := HNX.out.2; omega) (by omega) Ar2 rn2 rc2 (ofL [x]) hst hrn hokx
          have f1 : fl2.filter (inR (ofL [x])) = [] := by
            refine List.filter_eq_nil_iff.2 fun y hy h => ?_
            rw [inR_of, decide_eq_true_iff, List.mem_singleton] at h
            exact HNX.out.1 (h ▸ hy)
          obtain ⟨fl3, HF3⟩ : ∃ z, Hid (z = fl2.filter (fun y => !inR (ofL [x]) y)) := ⟨_, rfl⟩
          have HNX3 : Hid (x ∉ fl3 ∧ fl3.length ≤ 20) := by
            rw [HF3.out]
            exact ⟨fun h => HNX.out.1 (List.mem_filter.1 h).1, Nat.le_trans (List.length_filter_le _ _) HNX.out.2⟩
          obtain ⟨G3, HG3⟩ : ∃ z, Hid (z = takeG (fun y => !inR (ofL [x]) y) G2) := ⟨_, rfl⟩
          obtain ⟨E3, HE3⟩ : ∃ z, Hid (z = takeE G3 E2) := ⟨_, rfl⟩
          have HT3 : Hid (∀ g ∈ G3, g.tries ≤ tries + 1) := fun g hg => by
            rw [HG3.out] at hg
            obtain ⟨z, hz, rfl, _⟩ := takeG_mem.1 hg
            exact HT2.out z hz
          unfold BTakeD at ht
          rw [f1, ← HF3.out, ← HG3.out, ← HE3.out] at ht
          have HT := Lib.hid ht
          have HB12 := Lib.hid hb12'
          clear ht f1 hst hne hb12 hb12' hrn hsn11 hokx HG3 HE3 HF3
          go_wp2_with fail
          refine HT.out.mono ?_
          rintro e w13 ⟨gA2, gn2, gc2, S13, rfl, hgo, hb13, ho13, hk13⟩
          have hgn : gn2 = 0 := by have := hgo.len; simp at this; omega
          subst hgn
          have hbl13 := HB12.out.toBelow ho13 (Nat.le_refl _) (by have := HB12.out.lo bd HB12.out.bdS; omega)
          have HE13 : Hid (RowKit.Below w.heap.size w w13) := HE12.out.trans (hbl13.mono HXB.out.2)
          have HB13 := Lib.hid hb13
          clear hgo hb13 ho13 hk13 hbl13 HT
          go_wp2_with fail
          have hd := bdueD HB13.out (by omega) (by have := HNX3.out.2; omega) (fun g hg => by have := HT3.out g hg; have := HNOW.out; omega) 1125899906842624 (by omega)
          have HD := Lib.hid hd
          clear hd
          refine HD.out.mono ?_
          rintro e w14 ⟨D, dn, dc, rows, S14, rfl, hb14, hdr, hrr, hrw, ho14, hk14⟩
          have hbl14 := HB13.out.toBelow ho14 (Nat.le_refl _) (by have := HB13.out.lo bd HB13.out.bdS; omega)
          have HE14 : Hid (RowKit.Below w.heap.size w w14) := HE13.out.trans (hbl14.mono HXB.out.2)
          have HDR := Lib.hid hdr
          have HRR := Lib.hid hrr
          have hnot : ∀ r ∈ rows, x ∉ r.l := fun r hr hm => by
            have h1 : r.l ∈ rows.map (·.l) := List.mem_map.2 ⟨r, hr, rfl⟩
            rw [hrw] at h1
            obtain ⟨q, _, h2⟩ := List.mem_map.1 h1
            rw [← h2, sortN_mem] at hm
            unfold memOf at hm
            cases hfd : G3.find? (fun g => g.num == q) with
            | none => rw [hfd] at hm; simp at hm
            | some g =>
              rw [hfd] at hm
              simp at hm
              exact HNX3.out.1 ((HB13.out.home x).2 ⟨g, List.mem_of_find?_eq_some hfd, hm⟩)
          have HNOT := Lib.hid hnot
          have HLEN : Hid (∀ r ∈ rows, r.l.length ≤ 20) := fun r hr => by
            have h1 : r.l ∈ rows.map (·.l) := List.mem_map.2 ⟨r, hr, rfl⟩
            rw [hrw] at h1
            obtain ⟨q, _, h2⟩ := List.mem_map.1 h1
            rw [← h2, show (sortN (memOf q G3)).length = (memOf q G3).length from (List.mergeSort_perm _ _).length_eq]
            unfold memOf
            cases hfd : G3.find? (fun g => g.num == q) with
            | none => simp
            | some g =>
              have hgm := List.mem_of_find?_eq_some hfd
              obtain ⟨_, _, _, _, hpu⟩ := HB13.out.pure
              have h3 : g.mem.length ≤ fl3.length := nodup_len (hpu.md g hgm) fun k hk => (HB13.out.home k).2 ⟨g, hgm, hk⟩
              have h4 := HNX3.out.2
              show g.mem.length ≤ 20
              omega
          have HDN : Hid (rows.length = dn ∧ dn ≤ 40000) := by
            have h1 := hdr.1
            have h2 := congrArg List.length hrw
            rw [List.length_map] at h1
            rw [List.length_map, List.length_map] at h2
            have h3 : (ids (dueE 1125899906842624 E3)).length ≤ E3.length := by
              unfold ids dueE
              rw [List.length_map]
              exact (List.takeWhile_sublist _).length_le
            obtain ⟨_, _, _, _, hpu⟩ := HB13.out.pure
            have h4 := hpu.elen
            exact ⟨by omega, by omega⟩
          have hdn : dn ≤ 40000 := HDN.out.2
          clear hdr hrr hrw hb14 ho14 hk14 hbl14 hnot HD
          go_wp2_with fail
          go_loopg [119] dn (fun gk vi wq => ∃ k : Nat, gk + k = dn ∧ vi = .int .i64 (k : Int) ∧ wq = w14)
          case atStart => exact ⟨0, by omega, rfl, rfl⟩
          case round =>
            obtain ⟨k, hg, rfl, rfl⟩ := hrel
            have HG := Lib.hid hg
            clear hg
            by_cases hk : k < dn
            · have hkI : (k : Int) < (dn : Int) := by omega
              have hk0 : (0 : Int) ≤ (k : Int) := by omega
              obtain ⟨r, hr⟩ : ∃ r, rows[k]? = some r := ⟨_, List.getElem?_eq_getElem (by have := HDN.out.1; omega)⟩
              obtain ⟨db, do_, rfl, hdb, hdc⟩ := (Sn.of_own HDR.out).cell (by omega)
              have hd0 : wr.cell? ⟨db, do_ + k, none⟩ = some (.slice r.A r.n r.c) := hdc k _ (by rw [List.getElem?_map, hr]; rfl)
              have hrm := List.mem_of_getElem? hr
              have HC := Lib.hid (contains_any wr wr.heap.size r.A r.n r.c x r.l (Sn.of_own (HRR.out r hrm)) (by
                have h1 := (HRR.out r hrm).len
                have h3 := HLEN.out r hrm
                omega))
              have hdx : decide (x ∈ r.l) = false := decide_eq_false (HNOT.out r hrm)
              rw [hdx] at HC
              clear hdc hr hrm hdx
              go_wp2_with fail
              refine HC.out.mono ?_
              rintro e w15 ⟨rfl, rfl⟩
              go_wp2_with fail
              go_roundg (gk - 1)
              case measure => have := HG.out; omega
              case rel => exact ⟨k + 1, by have := HG.out; omega, by go_num, rfl⟩
            · have hkI : ¬ (k : Int) < (dn : Int) := by omega
              go_wp2_with fail
              go_ret
              exact ⟨rfl, HE14.out⟩
theorem boardAgain_law (w : World) (x0 : Int) (h0 : 0 ≤ x0 ∧ x0 ≤ 65535) (x1 : Int) (h1 : 0 ≤ x1 ∧ x1 ≤ 65535) (A : Option Addr) (n c : Nat) (L : List Nat) (hL : Nw w A n c L) (x3 : Int) (h3 : 0 ≤ x3 ∧ x3 ≤ 65535) (x4 : Int) (h4 : 0 ≤ x4 ∧ x4 ≤ 255) :
    Calls Try.prog 4 #[.int .u16 x0, .int .u16 x1, .slice A n c, .int .u16 x3, .int .u8 x4] w (Says w (.bool true)) := by
  obtain ⟨a, rfl⟩ : ∃ k : Nat, x0 = (k : Int) := ⟨x0.toNat, by omega⟩
  obtain ⟨b, rfl⟩ : ∃ k : Nat, x1 = (k : Int) := ⟨x1.toNat, by omega⟩
  obtain ⟨t, rfl⟩ : ∃ k : Nat, x3 = (k : Int) := ⟨x3.toNat, by omega⟩
  obtain ⟨u, rfl⟩ : ∃ k : Nat, x4 = (k : Int) := ⟨x4.toNat, by omega⟩
  exact boardAgain_walk w a b t u (by omega) (by omega) (by omega) (by omega) A n c L hL
end Go.Proofs.Ytbnhemmklbbnmaa
