/-
  CONTRACT of the statements' own small, whole.
  No statement is proved here.
-/
import Derived.Test.YtjmdjnldkecoeaaShareMx
namespace Go.Proofs.Ytjmdjnldkecoeaa
open Go.RowKit Go.Sort

structure Uc where
  A : Option Addr
  n : Nat
  c : Nat
  L : List Nat
structure Uqs (w : World) (B : Nat) (A : Option Addr) (n c : Nat) (P : List Uc) : Prop where
  sn : Sn w B A n c 1 (P.map fun x => Value.slice x.A x.n x.c)
  each : ∀ x ∈ P, Us .u16 65536 w B x.A x.n x.c x.L
theorem Uqs.below {w w' : World} {B B' : Nat} {A : Option Addr} {n c : Nat} {P : List Uc} (h : Uqs w B A n c P) (hb : RowKit.Below B' w w') (hB : B ≤ B') : Uqs w' B A n c P := ⟨h.sn.below hb hB, fun x hx => (h.each x hx).below hb hB⟩
theorem Uqs.on {w w' : World} {B : Nat} {A : Option Addr} {n c : Nat} {P : List Uc} (h : Uqs w B A n c P) (hb : RowKit.Below w.heap.size w w') (hB : B ≤ w.heap.size) : Uqs w' w'.heap.size A n c P := ⟨h.sn.on hb hB, fun x hx => (h.each x hx).on hb hB⟩
theorem Uqs.at_ {w : World} {B : Nat} {A : Option Addr} {n c j : Nat} {P : List Uc} (h : Uqs w B A n c P) (hj : j < n) : ∃ b o x, A = some ⟨b, o, none⟩ ∧ b < B ∧ P[j]? = some x ∧ w.cell? ⟨b, o + j, none⟩ = some (.slice x.A x.n x.c) ∧ Us .u16 65536 w B x.A x.n x.c x.L := by
  have hl : j < P.length := by have := h.sn.len; simp at this; omega
  have hr := List.getElem?_eq_getElem hl
  obtain ⟨b, o, e, hb, hc⟩ := h.sn.cell (by omega)
  exact ⟨b, o, P[j], e, hb, hr, hc _ _ (by simp [hr]), h.each _ (List.getElem_mem hl)⟩
theorem few_start (n : Nat) : Few (List.replicate n ⟨none, 0, 0, []⟩) 0 0 := fun j x hx => by
  obtain rfl := (List.mem_replicate.1 (List.mem_of_getElem? hx)).2
  exact ⟨fun s hs => (by cases hs), by simp, fun _ => Nat.le_refl _, fun _ => rfl⟩
theorem mx_start {w : World} {base qb n : Nat} {x0 : Ic} (h0 : w.ownsRow base 3 1 (icv x0) x0.n (ivs x0.L)) (hq : w.ownsRow base 22 1 (.slice (some ⟨qb, 0, none⟩) n n) n (madeCells (Value.slice none 0 0).cells (n * 1)).toList) (hne : ∀ b, x0.blk = some b → b ≠ qb) : Mx w base qb n x0 (List.replicate n ⟨none, 0, 0, []⟩) := by
  have e : (madeCells (Value.slice none 0 0).cells (n * 1)).toList = icvs (List.replicate n ⟨none, 0, 0, []⟩) := by
    have h1 : (Value.slice none 0 0).cells = #[Value.slice none 0 0] := rfl
    rw [h1, Nat.mul_one, toList_madeCells_one]
    simp [icvs, icv]
  rw [e] at hq
  refine ⟨fun x hx => ?_, hq, fun x hx e => ?_, fun i j x y hij hx hy => ?_⟩
  · rcases List.mem_cons.1 hx with rfl | hx
    · exact h0
    · obtain rfl := (List.mem_replicate.1 hx).2
      exact World.ownsRow_nil _ _ _ _
  · rcases List.mem_cons.1 hx with rfl | hx
    · exact hne qb e rfl
    · obtain rfl := (List.mem_replicate.1 hx).2
      cases e
  · have nil : ∀ (k : Nat) (z : Ic), k ≠ 0 → (x0 :: List.replicate n ⟨none, 0, 0, []⟩)[k]? = some z → z.blk = none := fun k z hk hz => by
      rcases k with _ | k
      · omega
      · simp only [List.getElem?_cons_succ] at hz
        obtain rfl := (List.mem_replicate.1 (List.mem_of_getElem? hz)).2
        rfl
    by_cases hi : i = 0
    · have := nil j y (by omega) hy
      rw [this]
      cases x.blk <;> simp
    · exact .inl (nil i x hi hx)
/-- The same, where a block was laid ahead. -/
theorem Mx.alloc {w : World} {base qb K : Nat} {x0 : Ic} {R : List Ic} (h : Mx w base qb K x0 R) (o : Obj) : Mx (w.alloc o) base qb K x0 R := ⟨fun x hx => (h.own x hx).alloc o, h.q.alloc o, h.off, h.sep⟩
theorem Mx.put2 {w w2 : World} {base qb K i : Nat} {x0 x : Ic} {R : List Ic} {A2 : Option Addr} {c2 : Nat} {v : Int} {o : Obj} (h : Mx w base qb K x0 R) (hx : R[i]? = some x)
    (ho : w2.ownsRow base 3 1 (.slice A2 (x.n + 1) c2) (x.n + 1) (ivs x.L ++ ivs [v])) (hg : (w.alloc o).grownBy w2 (if x.n = x.c then none else (Value.slice x.A x.n x.c).ownBlock)) (hn : A2 = x.A ∨ ∃ b, A2 = some ⟨b, 0, none⟩ ∧ (w.alloc o).heap.size ≤ b) :
    w2.cell? ⟨qb, i, none⟩ = some (.slice x.A x.n x.c) ∧ w2.frozen? ⟨qb, i, none⟩ = false ∧ Mx (w2.setCell ⟨qb, i, none⟩ (.slice A2 (x.n + 1) c2)) base qb K x0 (R.set i ⟨A2, x.n + 1, c2, x.L ++ [v]⟩) := (h.alloc o).put hx ho hg hn
def S2Rel (w : World) (qb K : Nat) (x0 : Ic) (np gk : Nat) (vi : Value) (wr : World) : Prop :=
  ∃ (i : Nat) (R : List Ic), gk + i = np ∧ vi = .int .i64 (i : Int) ∧ Mx wr w.heap.size qb K x0 R ∧ Few R i 0 ∧ RowKit.Below w.heap.size w wr
def S3Rel (w : World) (qb K : Nat) (x0 : Ic) (i m gk : Nat) (vi : Value) (wr : World) : Prop :=
  ∃ (k : Nat) (R : List Ic), gk + k = m ∧ vi = .int .i64 (k : Int) ∧ Mx wr w.heap.size qb K x0 R ∧ Few R i k ∧ RowKit.Below w.heap.size w wr
theorem made_big {w wr : World} {U : List Nat} {A : Option Addr} {n c qb i : Nat} {R : List Ic} {cap : Int} {cl sz : Nat} (nd : Nat) (h : Mx wr w.heap.size qb n ⟨A, n, c, wOf U⟩ R) (hf : Few R i 0) (hb : RowKit.Below w.heap.size w wr) (hn : 0 < n) (hsz : sz < 65536) :
    Made w U (wrap64 ((sz : Int) + (wrap64 (cap.tmod 100000 + 100000)).tmod 100000)) A n c (some ⟨qb, 0, none⟩) n n R (cl % n) sz (wr.drewN nd) := by
  have hfx : ∀ x ∈ R, (∀ s ∈ x.L, 0 ≤ s ∧ s ≤ 65535) ∧ x.n ≤ 30 := fun x hx => by
    obtain ⟨j, hj, e⟩ := List.getElem_of_mem hx
    have := hf j x (by rw [List.getElem?_eq_getElem hj, e])
    exact ⟨this.1, this.2.1⟩
  have t1 := Int.tmod_lt_of_pos cap (show (0 : Int) < 100000 by omega)
  have t2 := Int.lt_tmod_of_pos cap (show (0 : Int) < 100000 by omega)
  have t3 : wrap64 (cap.tmod 100000 + 100000) = cap.tmod 100000 + 100000 := w64 (by omega)
  have t4 := Int.tmod_lt_of_pos (cap.tmod 100000 + 100000) (show (0 : Int) < 100000 by omega)
  have t5 := Int.tmod_nonneg (a := cap.tmod 100000 + 100000) 100000 (by omega)
  rw [t3, w64 (by omega)]
  exact ⟨⟨(Sn.of_own (h.own _ List.mem_cons_self)).drewN nd, wOf_rng U⟩, ⟨(Sn.of_own h.q).drewN nd, fun x hx => ⟨(Sn.of_own (h.own x (List.mem_cons_of_mem _ hx))).drewN nd, fun s hs => by have := (hfx x hx).1 s hs; unfold I64; omega⟩⟩, rfl, Nat.mod_lt _ hn, hsz, by omega, hfx, below_drewN hb nd⟩
set_option maxRecDepth 100000 in
set_option maxHeartbeats 8000000 in
theorem small_any (w : World) (cap : Int) (Au : Option Addr) (nu cu : Nat) (U : List Nat) (hu : Us .u16 65536 w w.heap.size Au nu cu U) (Ap : Option Addr) (np cp : Nat) (P : List Uc) (hp : Uqs w w.heap.size Ap np cp P) (cl sz : Nat) (hcl : cl < 256) (hsz : sz < 65536) :
    Calls Try.prog 19 #[.int .i64 cap, .slice Au nu cu, .slice Ap np cp, .int .u8 (cl : Int), .int .u16 (sz : Int)] w (SaysMade w U) := by
  obtain ⟨i0, hi0, hz0, hz1, hz2⟩ := info_parts int_info
  obtain ⟨i2, hj0, hj1, hj2, hj3⟩ := info_parts ints_info
  have H := Lib.hid hu
  have HL := Lib.hid hu.len
  have hnu : nu ≤ 9223372036854775807 := Nat.le_trans hu.sn.le hu.sn.max
  have HP := Lib.hid hp
  have hnp : np ≤ 9223372036854775807 := Nat.le_trans hp.sn.le hp.sn.max
  clear hu hp
  go_enter Try.func19, Try.ntmps19
  go_wp2_with fail
  go_loopg [15, 26] nu (fun gk vw vi wr => S1Rel w U nu gk vw vi wr)
  case atStart => exact ⟨0, none, 0, 0, by omega, rfl, rfl, World.ownsRow_nil _ _ _ _, RowKit.Below.refl _ _⟩
  case round =>
    obtain ⟨k, A, n, c, hgk, rfl, rfl, hown, hbel⟩ := hrel
    have HOWN := Lib.hid hown
    have HBEL := Lib.hid hbel
    have hn8 : n ≤ 8 := by have h1 := hown.1; rw [ivs_len] at h1; have := wTo_len U k; omega
    have HBZ := Lib.hid hbel.size
    clear hown hbel
    by_cases hlt : k < nu
    · obtain ⟨b, o, x, rfl, hb, hx, hc, hxm⟩ := (H.out.below HBEL.out (Nat.le_refl _)).at_ hlt
      have HST := Lib.hid (wTo_step hx)
      clear hx
      by_cases h8 : k < 8
      · have hmod : (x : Int) % 1000 = ((x % 1000 : Nat) : Int) := by omega
        have HMOD := Lib.hid hmod
        have hmI : (x : Int) % 1000 < 1000 := by omega
        have hm0 : 0 ≤ (x : Int) % 1000 := by omega
        clear hmod
        go_wp2_with (at_builtin; refine wpList_append_dstN _ rfl (.tmp 33) (.tmp 38) 22 22 rfl w.heap.size 3 i0 _ 1 8 Try.underlying22 hi0 hz0 hz1 hz2 rfl A n c (ivs (wTo U k)) rfl (.inr (HOWN.out.alloc _)) _ 1 (ivs [1 + (x : Int) % 1000]) rfl ((lit_sn wr 3 (ivs [1 + (x : Int) % 1000]) 1 1 rfl (by unfold maxLen; omega)).src Try.underlying22 (ivs_one [1 + (x : Int) % 1000])) (by omega) (by omega) (by have := HBZ.out; simp; omega) ?_; intro A3 c3 w3 h1 h2 h3 h4 h5 h6; have HO3 := Lib.hid (h2 (by omega)); have HB3 := Lib.hid (((HBEL.out).alloc HBZ.out _).trans h4); clear h1 h2 h3 h4 h5 h6)
        go_roundg (gk - 1)
        case measure => omega
        case rel =>
          refine ⟨k + 1, A3, n + 1, c3, by omega, by go_num, rfl, ?_, HB3.out⟩
          rw [HST.out.1 h8, ivs_app, ← HMOD.out]
          exact HO3.out
      · have h8I : ¬ (k : Int) < 8 := by omega
        go_wp2_with fail
        go_roundg (gk - 1)
        case measure => omega
        case rel => exact ⟨k + 1, A, n, c, by omega, by go_num, rfl, by rw [HST.out.2 (by omega)]; exact HOWN.out, HBEL.out⟩
    · obtain rfl : k = nu := by omega
      have HUL : Hid (wTo U k = (U.take 8).map fun x => 1 + ((x % 1000 : Nat) : Int)) := by
        show _ = _
        unfold wTo
        rw [List.take_of_length_le (l := U) (by have := HL.out; omega)]
      by_cases h0 : n = 0
      · subst h0
        have hU0 : U = [] := by
          have h3 := HOWN.out.1
          rw [HUL.out] at h3
          simp [ivs] at h3
          exact h3
        have HU0 := Lib.hid hU0
        have hs1 : (wr.alloc (.cells #[.int .i64 1] 3)).heap.size = wr.heap.size + 1 := by simp
        have HS1 := Lib.hid hs1
        clear hU0 hs1
        go_wp2_with (at_make; refine wpList_make_full _ rfl _ _ 23 rfl w.heap.size 22 i2 _ 1 Try.underlying23 hj0 hj1 hj2 .i64 .i64 _ _ 1 rfl rfl rfl rfl (by rw [hj3]; omega) (by unfold maxLen; omega) (by rw [HS1.out]; have := HBZ.out; omega) ?_; intro w4 h4 h5; have HO4 := Lib.hid h4; have HG4 := Lib.hid h5; clear h4 h5)
        have HB4 : Hid (RowKit.Below w.heap.size w w4) := (HBEL.out.alloc HBZ.out _).grown HG4.out (by rw [HS1.out]; have := HBZ.out; omega) (fun _ h => by cases h)
        have HX0 : Hid (w4.ownsRow w.heap.size 3 1 (.slice (some ⟨wr.heap.size, 0, none⟩) 1 1) 1 (ivs (wOf U))) := by
          rw [HU0.out]
          have h1 := (World.ownsRow_lit (base := w.heap.size) (e := 3) (size := 1) wr #[.int .i64 1] 1 HBZ.out (by unfold maxLen; omega) rfl)
          exact h1.kept HG4.out (by simp [Value.ownBlock])
        have HO5 : Hid (w4.ownsRow w.heap.size 22 1 (.slice (some ⟨wr.heap.size + 1, 0, none⟩) 1 1) 1 (madeCells (Value.slice none 0 0).cells (1 * 1)).toList) := by
          have h := HO4.out
          rw [HS1.out] at h
          exact h
        have hqw : w.heap.size ≤ wr.heap.size + 1 := by have := HBZ.out; omega
        have HMX : Hid (Mx w4 w.heap.size (wr.heap.size + 1) 1 ⟨some ⟨wr.heap.size, 0, none⟩, 1, 1, wOf U⟩ (List.replicate 1 ⟨none, 0, 0, []⟩)) := mx_start HX0.out HO5.out (fun b hb => by simp [Ic.blk, icv, Value.ownBlock] at hb; omega)
        have HFEW : Hid (Few (List.replicate 1 ⟨none, 0, 0, []⟩) 0 0) := few_start 1
        obtain ⟨wa, rfl⟩ : ∃ y, y = wr := ⟨_, rfl⟩
        go_loopg [50] np (fun gk vi wq => S2Rel w (wa.heap.size + 1) 1 ⟨some ⟨wa.heap.size, 0, none⟩, 1, 1, wOf U⟩ np gk vi wq)
        case atStart => exact ⟨0, _, by omega, rfl, HMX.out, HFEW.out, HB4.out⟩
        case round =>
          clear HMX HFEW HB4
          obtain ⟨i, R, hgk2, rfl, hmx, hfew, hb⟩ := hrel
          have HMX := Lib.hid hmx
          have HFEW := Lib.hid hfew
          have HB4 := Lib.hid hb
          clear hmx hfew hb
          by_cases hltp : i < np
          · obtain ⟨pb, po, x, rfl, _, hxp, hxc, hxu⟩ := (HP.out.below HB4.out (Nat.le_refl _)).at_ hltp
            have HXU0 : Hid (Us .u16 65536 w w.heap.size x.A x.n x.c x.L) := HP.out.each x (List.mem_of_getElem? hxp)
            have hxn : x.n ≤ 9223372036854775807 := Nat.le_trans hxu.sn.le hxu.sn.max
            clear hxp hxu
            obtain ⟨g2, rfl⟩ : ∃ y, y = gk := ⟨_, rfl⟩
            go_wp2_with fail
            go_loopg [57] x.n (fun gk vi wq => S3Rel w (wa.heap.size + 1) 1 ⟨some ⟨wa.heap.size, 0, none⟩, 1, 1, wOf U⟩ i x.n gk vi wq)
            case atStart => exact ⟨0, R, by omega, rfl, HMX.out, HFEW.out, HB4.out⟩
            case round =>
              clear HMX HFEW HB4
              obtain ⟨k2, R, hgk3, rfl, hmx, hfew, hb⟩ := hrel
              have HMX := Lib.hid hmx
              have HFEW := Lib.hid hfew
              have HB4 := Lib.hid hb
              clear hmx hfew hb
              by_cases hlt2 : k2 < x.n
              · obtain ⟨yb, yo, y, hyA, _, _, hyc, hyM⟩ := (HXU0.out.below HB4.out (Nat.le_refl _)).at_ hlt2
                obtain ⟨xA, xn, xc, xL⟩ := x
                simp only at hyA
                subst hyA
                by_cases hiK : i < 1
                · by_cases hk30 : k2 < 30
                  · have hR : R[i]? = some R[i]! := by rw [getElem!_pos R i (by have := HMX.out.len; omega)]; exact List.getElem?_eq_getElem _
                    obtain ⟨x1, HX1⟩ : ∃ x1, Hid (x1 = R[i]!) := ⟨_, rfl⟩
                    rw [← HX1.out] at hR
                    have HR := Lib.hid hR
                    have hqc : wr.cell? ⟨wa.heap.size + 1, i, none⟩ = some (.slice x1.A x1.n x1.c) := by
                      rw [HMX.out.q.cellAt i (by omega)]
                      simp [icvs, hR, icv]
                    have hx30 : x1.n ≤ 30 := (HFEW.out i x1 hR).2.1
                    have HOWN1 := Lib.hid (HMX.out.own x1 (List.mem_cons_of_mem _ (List.mem_of_getElem? hR)))
                    have hqz := (HMX.out.q.lt _ rfl).2
                    have HYB : Hid (0 ≤ (y : Int) ∧ (y : Int) ≤ 65535) := ⟨by omega, by omega⟩
                    clear hR
                    go_wp2_with (at_builtin; refine wpList_append_dstN _ rfl (.tmp 75) (.tmp 78) 22 22 rfl w.heap.size 3 i0 _ 1 8 Try.underlying22 hi0 hz0 hz1 hz2 rfl x1.A x1.n x1.c (ivs x1.L) rfl (.inr (HOWN1.out.alloc _)) _ 1 (ivs [(y : Int)]) rfl ((lit_sn wr 3 (ivs [(y : Int)]) 1 1 rfl (by unfold maxLen; omega)).src Try.underlying22 (ivs_one [(y : Int)])) (by omega) (by omega) (by have := HB4.out.size; simp; omega) ?_; intro A3 c3 w3 h1 h2 h3 h4 h5 h6; have hput := Mx.put2 HMX.out HR.out (h2 (by omega)) h5 h6; have hqc3 := hput.1; have hqf3 := hput.2.1; have HM3 := Lib.hid hput.2.2; have HB3 := Lib.hid ((((HB4.out).alloc HB4.out.size _).trans h4).setCell (p := ⟨wa.heap.size + 1, i, none⟩) hqw (.slice A3 (x1.n + 1) c3)); clear h1 h2 h3 h4 h5 h6 hput)
                    go_roundg (gk - 1)
                    case measure => omega
                    case rel => exact ⟨k2 + 1, R.set i ⟨A3, x1.n + 1, c3, x1.L ++ [(y : Int)]⟩, by omega, by go_num, HM3.out, HFEW.out.put HR.out hk30 HYB.out, HB3.out⟩
                  · have hkI : ¬ (k2 : Int) < 30 := by omega
                    go_wp2_with fail
                    go_roundg (gk - 1)
                    case measure => omega
                    case rel => exact ⟨k2 + 1, R, by omega, by go_num, HMX.out, HFEW.out.skip, HB4.out⟩
                · have hiI : ¬ (i : Int) < 1 := by omega
                  go_wp2_with fail
                  go_roundg (gk - 1)
                  case measure => omega
                  case rel => exact ⟨k2 + 1, R, by omega, by go_num, HMX.out, HFEW.out.skip, HB4.out⟩
              · go_wp2_with fail
                go_roundg (g2 - 1)
                case measure => omega
                case rel => exact ⟨i + 1, R, by omega, by go_num, HMX.out, HFEW.out.next, HB4.out⟩
          · go_wp2_with fail
            go_quiet (fail)
            go_wp2_with fail
            exact bodyPost_ret (v := .tuple #[.int .i64 (wrap64 ((sz : Int) + (wrap64 (cap.tmod 100000 + 100000)).tmod 100000)), .slice (some ⟨wa.heap.size, 0, none⟩) 1 1, .slice (some ⟨wa.heap.size + 1, 0, none⟩) 1 1, .int .i64 ((cl % 1 : Nat) : Int), .int .i64 (sz : Int)]) (by simp [results, Try.results19, go_sem]) rfl
              ⟨_, _, _, _, _, _, _, R, cl % 1, sz, rfl, made_big nq HMX.out HFEW.out HB4.out (by omega) hsz⟩
      · have h0I : ((n : Int) == 0) = false := by simp; omega
        go_wp2_with (at_make; refine wpList_make_full _ rfl _ _ 23 rfl w.heap.size 22 i2 _ 1 Try.underlying23 hj0 hj1 hj2 .i64 .i64 _ _ n rfl rfl rfl rfl (by rw [hj3]; omega) (by unfold maxLen; omega) (by exact HBZ.out) ?_; intro w4 h4 h5; have HO4 := Lib.hid h4; have HG4 := Lib.hid h5; clear h4 h5)
        have HB4 : Hid (RowKit.Below w.heap.size w w4) := HBEL.out.grown HG4.out HBZ.out (fun _ h => by cases h)
        have HX0 : Hid (w4.ownsRow w.heap.size 3 1 (.slice A n c) n (ivs (wOf U))) := by
          have h1 : w4.ownsRow w.heap.size 3 1 (.slice A n c) n (ivs (wTo U k)) := HOWN.out.kept HG4.out (by cases (Value.slice A n c).ownBlock <;> simp)
          have h2 : wTo U k = wOf U := by
            rw [HUL.out]
            unfold wOf
            rw [if_neg]
            intro e
            have h3 := h1.1
            rw [HUL.out, e] at h3
            simp [ivs] at h3
            omega
          rw [h2] at h1
          exact h1
        have hqw : w.heap.size ≤ wr.heap.size := HBZ.out
        have HMX : Hid (Mx w4 w.heap.size wr.heap.size n ⟨A, n, c, wOf U⟩ (List.replicate n ⟨none, 0, 0, []⟩)) := mx_start HX0.out HO4.out (fun b hb => by have := (HOWN.out.lt b hb).2; omega)
        have HFEW : Hid (Few (List.replicate n ⟨none, 0, 0, []⟩) 0 0) := few_start n
        obtain ⟨wa, rfl⟩ : ∃ y, y = wr := ⟨_, rfl⟩
        go_loopg [50] np (fun gk vi wq => S2Rel w wa.heap.size n ⟨A, n, c, wOf U⟩ np gk vi wq)
        case atStart => exact ⟨0, _, by omega, rfl, HMX.out, HFEW.out, HB4.out⟩
        case round =>
          clear HMX HFEW HB4
          obtain ⟨i, R, hgk2, rfl, hmx, hfew, hb⟩ := hrel
          have HMX := Lib.hid hmx
          have HFEW := Lib.hid hfew
          have HB4 := Lib.hid hb
          clear hmx hfew hb
          by_cases hltp : i < np
          · obtain ⟨pb, po, x, rfl, _, hxp, hxc, hxu⟩ := (HP.out.below HB4.out (Nat.le_refl _)).at_ hltp
            have HXU0 : Hid (Us .u16 65536 w w.heap.size x.A x.n x.c x.L) := HP.out.each x (List.mem_of_getElem? hxp)
            have hxn : x.n ≤ 9223372036854775807 := Nat.le_trans hxu.sn.le hxu.sn.max
            clear hxp hxu
            obtain ⟨g2, rfl⟩ : ∃ y, y = gk := ⟨_, rfl⟩
            go_wp2_with fail
            go_loopg [57] x.n (fun gk vi wq => S3Rel w wa.heap.size n ⟨A, n, c, wOf U⟩ i x.n gk vi wq)
            case atStart => exact ⟨0, R, by omega, rfl, HMX.out, HFEW.out, HB4.out⟩
            case round =>
              clear HMX HFEW HB4
              obtain ⟨k2, R, hgk3, rfl, hmx, hfew, hb⟩ := hrel
              have HMX := Lib.hid hmx
              have HFEW := Lib.hid hfew
              have HB4 := Lib.hid hb
              clear hmx hfew hb
              by_cases hlt2 : k2 < x.n
              · obtain ⟨yb, yo, y, hyA, _, _, hyc, hyM⟩ := (HXU0.out.below HB4.out (Nat.le_refl _)).at_ hlt2
                obtain ⟨xA, xn, xc, xL⟩ := x
                simp only at hyA
                subst hyA
                by_cases hiK : i < n
                · by_cases hk30 : k2 < 30
                  · have hR : R[i]? = some R[i]! := by rw [getElem!_pos R i (by have := HMX.out.len; omega)]; exact List.getElem?_eq_getElem _
                    obtain ⟨x1, HX1⟩ : ∃ x1, Hid (x1 = R[i]!) := ⟨_, rfl⟩
                    rw [← HX1.out] at hR
                    have HR := Lib.hid hR
                    have hqc : wr.cell? ⟨wa.heap.size, i, none⟩ = some (.slice x1.A x1.n x1.c) := by
                      rw [HMX.out.q.cellAt i (by omega)]
                      simp [icvs, hR, icv]
                    have hx30 : x1.n ≤ 30 := (HFEW.out i x1 hR).2.1
                    have HOWN1 := Lib.hid (HMX.out.own x1 (List.mem_cons_of_mem _ (List.mem_of_getElem? hR)))
                    have hqz := (HMX.out.q.lt _ rfl).2
                    have HYB : Hid (0 ≤ (y : Int) ∧ (y : Int) ≤ 65535) := ⟨by omega, by omega⟩
                    clear hR
                    go_wp2_with (at_builtin; refine wpList_append_dstN _ rfl (.tmp 75) (.tmp 78) 22 22 rfl w.heap.size 3 i0 _ 1 8 Try.underlying22 hi0 hz0 hz1 hz2 rfl x1.A x1.n x1.c (ivs x1.L) rfl (.inr (HOWN1.out.alloc _)) _ 1 (ivs [(y : Int)]) rfl ((lit_sn wr 3 (ivs [(y : Int)]) 1 1 rfl (by unfold maxLen; omega)).src Try.underlying22 (ivs_one [(y : Int)])) (by omega) (by omega) (by have := HB4.out.size; simp; omega) ?_; intro A3 c3 w3 h1 h2 h3 h4 h5 h6; have hput := Mx.put2 HMX.out HR.out (h2 (by omega)) h5 h6; have hqc3 := hput.1; have hqf3 := hput.2.1; have HM3 := Lib.hid hput.2.2; have HB3 := Lib.hid ((((HB4.out).alloc HB4.out.size _).trans h4).setCell (p := ⟨wa.heap.size, i, none⟩) hqw (.slice A3 (x1.n + 1) c3)); clear h1 h2 h3 h4 h5 h6 hput)
                    go_roundg (gk - 1)
                    case measure => omega
                    case rel => exact ⟨k2 + 1, R.set i ⟨A3, x1.n + 1, c3, x1.L ++ [(y : Int)]⟩, by omega, by go_num, HM3.out, HFEW.out.put HR.out hk30 HYB.out, HB3.out⟩
                  · have hkI : ¬ (k2 : Int) < 30 := by omega
                    go_wp2_with fail
                    go_roundg (gk - 1)
                    case measure => omega
                    case rel => exact ⟨k2 + 1, R, by omega, by go_num, HMX.out, HFEW.out.skip, HB4.out⟩
                · have hiI : ¬ (i : Int) < (n : Nat) := by omega
                  go_wp2_with fail
                  go_roundg (gk - 1)
                  case measure => omega
                  case rel => exact ⟨k2 + 1, R, by omega, by go_num, HMX.out, HFEW.out.skip, HB4.out⟩
              · go_wp2_with fail
                go_roundg (g2 - 1)
                case measure => omega
                case rel => exact ⟨i + 1, R, by omega, by go_num, HMX.out, HFEW.out.next, HB4.out⟩
          · go_wp2_with fail
            go_quiet (fail)
            go_wp2_with fail
            exact bodyPost_ret (v := .tuple #[.int .i64 (wrap64 ((sz : Int) + (wrap64 (cap.tmod 100000 + 100000)).tmod 100000)), .slice A n c, .slice (some ⟨wa.heap.size, 0, none⟩) n n, .int .i64 ((cl : Int) % (n : Int)), .int .i64 (sz : Int)]) (by simp [results, Try.results19, go_sem]) rfl
              ⟨_, _, _, _, _, _, _, R, cl % n, sz, rfl, made_big nq HMX.out HFEW.out HB4.out (by omega) hsz⟩
end Go.Proofs.Ytjmdjnldkecoeaa
