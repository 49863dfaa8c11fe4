/-
  WALK of AlarmPlays.
-/
import Derived.Test.YtfmfamnngfanfaaAlarmRefB
namespace Go.Proofs.Ytfmfamnngfanfaa
open Go.RowKit Go.Sort

/-- The reference's list lies apart from the alarm. -/
def Ex (S : Nat → Prop) (w : World) (A : Option Addr) (n c : Nat) (L : List En) : Prop := Es w w.heap.size A n c L ∧ ∀ b o, A = some ⟨b, o, none⟩ → b < w.heap.size ∧ ¬ S b
section
variable {S S' : Nat → Prop} {w w' : World} {A : Option Addr} {n c : Nat} {L : List En}
theorem Ex.below (h : Ex S w A n c L) (hb : RowKit.Below w.heap.size w w') : Ex S w' A n c L :=
  ⟨h.1.on hb (Nat.le_refl _), fun b o e => ⟨Nat.lt_of_lt_of_le (h.2 b o e).1 hb.size, (h.2 b o e).2⟩⟩
theorem Ex.only (h : Ex S w A n c L) (ho : Only S w w') (hs : ∀ k, S' k → S k ∨ w.heap.size ≤ k) : Ex S' w' A n c L := by
  refine ⟨⟨h.1.len, h.1.le, h.1.max, fun hn => ?_⟩, fun b o e => ?_⟩
  · obtain ⟨b, o, e, hb, hc⟩ := h.1.cell hn
    refine ⟨b, o, e, Nat.lt_of_lt_of_le hb ho.size, fun j x hj => ?_⟩
    exact (World.cell?_of_block (a := ⟨b, o + j, none⟩) (ho.block b hb (h.2 b o e).2)).trans (hc j x hj)
  · have h1 := h.2 b o e
    refine ⟨Nat.lt_of_lt_of_le h1.1 ho.size, fun hS => ?_⟩
    rcases hs b hS with k | k
    · exact h1.2 k
    · omega
theorem Ex.own {B : Nat} (h : w.ownsRow B 99 2 (.slice A n c) n (evs L)) (hS : ∀ k, S k → k < B) : Ex S w A n c L :=
  ⟨Sn.of_own h, fun b o e => by
    have h1 := h.lt b (by rw [e]; rcases h.2 with ⟨h2, _⟩ | ⟨g, cap, cur, hv, _⟩; · rw [e] at h2; cases h2
                          · injection hv with h3 _ _; rw [e] at h3; injection h3 with h3; injection h3 with h3 h4; subst h4; rfl)
    exact ⟨h1.2, fun hs => by have := hS b hs; omega⟩⟩
end
def PlaysRel (w : World) (B1 a n gk : Nat) (v4 vi : Value) (wr : World) : Prop :=
  ∃ (k : Nat) (S : Nat → Prop) (la : List En) (A2 : Option Addr) (n2 c2 : Nat), gk + k = n ∧ vi = .int .i64 (k : Int) ∧ v4 = .slice A2 n2 c2 ∧ la.length ≤ k ∧ la.length ≤ 80 ∧ Al wr S B1 a la ∧ Ord la ∧ Ex S wr A2 n2 c2 la ∧ RowKit.Below w.heap.size w wr
set_option maxRecDepth 100000 in
set_option maxHeartbeats 16000000 in
theorem alarmPlays_law (w : World) (A : Option Addr) (n c : Nat) (L : List Ac) (hL : As w w.heap.size A n c L) :
    Calls Try.prog 9 #[.slice A n c] w (Says w (.bool true)) := by
  have HLA := Lib.hid hL
  have hnm : n ≤ 9223372036854775807 := Nat.le_trans hL.sn.le hL.sn.max
  clear hL
  go_enter Try.func9, Try.ntmps9
  go_wp2_with fail
  refine (awake12_any w).mono ?_
  rintro e w1 ⟨rfl, hb1⟩
  have HB1 := Lib.hid hb1
  clear hb1
  go_wp2_with fail
  refine (anew_any w1).mono ?_
  rintro e w2 ⟨a, S1, rfl, h1, hb2⟩
  have H1 := Lib.hid h1
  have HB12 := Lib.hid (HB1.out.trans (hb2.mono HB1.out.size))
  clear h1 hb2
  have HG0 : Hid (w.heap.size ≤ w1.heap.size) := HB1.out.size
  obtain ⟨B1, HBB⟩ : ∃ B1, Hid (B1 = w1.heap.size) := ⟨_, rfl⟩
  rw [← HBB.out] at H1 HG0
  go_wp2_with fail
  go_loopg [4, 19] n (fun gk v4 vi wr => PlaysRel w B1 a n gk v4 vi wr)
  case atStart => exact ⟨0, S1, [], none, 0, 0, rfl, rfl, rfl, Nat.le_refl _, by simp, H1.out, ord_nil, ⟨Sn.nil_ _ _ _ _ _ (Nat.zero_le _), fun b o e => (by cases e)⟩, HB12.out⟩
  case round =>
    clear H1 HB1 HB12
    obtain ⟨k, S, la, A1, n1, c1, hgk, rfl, rfl, hlk, hl80, hal, hord, hex, hbel⟩ := hrel
    have HAL := Lib.hid hal
    have HORD := Lib.hid hord
    have HEX := Lib.hid hex
    have HBL := Lib.hid hbel
    have hn180 : n1 ≤ 80 := by have h1 := es_len hex.1; omega
    clear hal hord hex hbel
    by_cases hlt : k < n
    · obtain ⟨bb, o, x, rfl, hbb, hx, c00, c01, c02, hok⟩ := (HLA.out.below HBL.out (Nat.le_refl _)).at_ hlt
      have HOK := Lib.hid hok
      have hd := hok.d
      clear hx hok
      by_cases hk80 : k < 80
      · have hk80I : (k : Int) < 80 := by omega
        have hk80J : ¬ (80 : Int) ≤ (k : Int) := by omega
        have hbx := below_box wr (.cells #[.int .u8 (x.d : Int), .int .u64 (x.id : Int), .int .i64 x.t] 85)
        have HAL1 := Lib.hid (HAL.out.below hbx)
        have HEX1 := Lib.hid (HEX.out.below hbx)
        have HBL1 := Lib.hid (HBL.out.trans (hbx.mono HBL.out.size))
        have HBS : Hid (¬ S wr.heap.size) := fun hs => by have := (HAL.out.sl _ hs).2; omega
        have HBOX : Hid ((wr.alloc (.cells #[.int .u8 (x.d : Int), .int .u64 (x.id : Int), .int .i64 x.t] 85)).heap[wr.heap.size]? = some (.cells #[.int .u8 (x.d : Int), .int .u64 (x.id : Int), .int .i64 x.t] 85 (0, 0))) := heap_alloc_new _ _
        have hbz : wr.heap.size < (wr.alloc (.cells #[.int .u8 (x.d : Int), .int .u64 (x.id : Int), .int .i64 x.t] 85)).heap.size := by simp
        have HBZ0 := Lib.hid hbz
        clear hbx hbz
        by_cases h3 : x.d % 5 = 3
        · have hmod : (x.d : Int) % 5 = 3 := by omega
          go_wp2_with fail
          refine (rfind_any _ A1 n1 c1 la x.id HEX1.out.1).mono ?_
          rintro e w5 ⟨v, rfl, hv, hb5⟩
          have HAL5 := Lib.hid (HAL1.out.below hb5)
          have HEX5 := Lib.hid (HEX1.out.below hb5)
          have HBL5 := Lib.hid (HBL1.out.trans (hb5.mono HBL1.out.size))
          have HBOX5 := Lib.hid ((hb5.block _ HBZ0.out).trans HBOX.out)
          have HZ5 := Lib.hid (Nat.lt_of_lt_of_le HBZ0.out hb5.size)
          have hx1 : w5.cell? ⟨wr.heap.size, 1, none⟩ = some (.int .u64 (x.id : Int)) := (cell_of_row _ _ _ _ _ _ HBOX5.out).trans rfl
          have hvt : decide (0 ≤ v) = (timeOf x.id la).isSome := by
            rcases hv with ⟨rfl, h⟩ | ⟨j, t, rfl, _, h⟩
            · rw [h]; rfl
            · rw [h]; simp
          obtain ⟨ts, HTS⟩ : ∃ t, Hid (t = (timeOf x.id la).isSome) := ⟨_, rfl⟩
          rw [← HTS.out] at hvt
          clear hv hb5
          go_wp2_with fail
          refine (rclear_any w5 A1 n1 c1 la x.id HEX5.out.1 (by omega)).mono ?_
          rintro e w6 ⟨A2, n2, c2, rfl, hown6, hb6⟩
          have HAL6 := Lib.hid (HAL5.out.below hb6)
          have HEX6 := Lib.hid (Ex.own (S := S) hown6 (fun k hk => (HAL5.out.sl k hk).2))
          have HBL6 := Lib.hid (HBL5.out.trans (hb6.mono HBL5.out.size))
          have HBOX6 := Lib.hid ((hb6.block _ HZ5.out).trans HBOX5.out)
          have HZ6 := Lib.hid (Nat.lt_of_lt_of_le HZ5.out hb6.size)
          have hx1 : w6.cell? ⟨wr.heap.size, 1, none⟩ = some (.int .u64 (x.id : Int)) := (cell_of_row _ _ _ _ _ _ HBOX6.out).trans rfl
          clear hown6 hb6
          go_wp2_with fail
          refine (aclear_any w6 S B1 a x.id la HAL6.out HOK.out.id (by omega)).mono ?_
          rintro e wz ⟨rfl, hz, hoz⟩
          rw [← HTS.out]
          have HALZ := Lib.hid hz
          have HEXZ := Lib.hid (HEX6.out.only (S' := S) hoz (fun k hk => .inl hk))
          have HBZ := Lib.hid (HBL6.out.trans (hoz.toBelow (fun k hk => Nat.le_trans HG0.out (HAL.out.sl k hk).1) HBL6.out.size))
          have HORZ := Lib.hid (without_ord (id := x.id) HORD.out)
          have HBOXZ := Lib.hid ((hoz.block _ HZ6.out HBS.out).trans HBOX6.out)
          have hlk2 : (without x.id la).length ≤ k + 1 := by have := without_len x.id la; omega
          have hl80b : (without x.id la).length ≤ 80 := by have := without_len x.id la; omega
          clear hz hoz hx1 hlk hl80
          have hts : (ts != ts) = false := by simp
          generalize without x.id la = l2 at *
          have hx1 : wz.cell? ⟨wr.heap.size, 1, none⟩ = some (.int .u64 (x.id : Int)) := (cell_of_row _ _ _ _ _ _ HBOXZ.out).trans rfl
          have hlnz : l2.length = n2 := es_len HEXZ.out.1
          have HLN : Hid (l2.length = n2) := hlnz
          have hn2I : (n2 : Int) ≤ 80 := by omega
          rcases l2 with _ | ⟨y, r⟩
          · have hn0 : n2 = 0 := by simpa using hlnz.symm
            subst hn0
            clear hlnz
            go_wp2_with fail
            refine (anext_any wz S B1 a [] HALZ.out HORZ.out.sort).mono ?_
            rintro e wf ⟨rfl, rfl⟩
            rw [show nextV [] = .tuple #[.int .i64 0, .bool false] from rfl]
            go_wp2_with fail
            refine (awhen_any wz S B1 a x.id [] HALZ.out HOK.out.id).mono ?_
            rintro e wf ⟨rfl, rfl⟩
            have hwv : whenV (timeOf x.id []) = .tuple #[.int .i64 0, .bool false] := rfl
            rw [hwv]
            clear hwv
            go_wp2_with fail
            refine (rfind_any wz A2 0 c2 [] x.id HEXZ.out.1).mono ?_
            rintro e wf ⟨v, rfl, hv, hbf⟩
            obtain rfl : v = -1 := by
              rcases hv with ⟨h, _⟩ | ⟨j, t, _, hj, _⟩
              · exact h
              · simp at hj
            have HALF := Lib.hid (HALZ.out.below hbf)
            have HEXF := Lib.hid (HEXZ.out.below hbf)
            have HBF := Lib.hid (HBZ.out.trans (hbf.mono HBZ.out.size))
            clear hv hbf hx1
            go_wp2_with fail
            refine (alen2_any wf S B1 a _ HALF.out).mono ?_
            rintro e wg ⟨rfl, rfl⟩
            rw [HLN.out]
            go_wp2_with fail
            go_roundg (gk - 1)
            case measure => omega
            case rel => exact ⟨k + 1, S, _, A2, 0, c2, by omega, by go_num, rfl, by simp, by simp, HALF.out, HORZ.out, HEXF.out, HBF.out⟩
          · have hn1 : 0 < n2 := by simp at hlnz; omega
            obtain ⟨bb2, oo2, y', rfl, _, hy', _, _⟩ := es_at HEXZ.out.1 hn1
            clear hy'
            have hn1I : (0 : Int) < (n2 : Int) := by omega
            have hln9 : (y :: r).length ≤ k + 1 := by omega
            have hln8 : (y :: r).length ≤ 80 := by omega
            clear hlnz
            go_wp2_with fail
            refine (anext_any wz S B1 a (y :: r) HALZ.out HORZ.out.sort).mono ?_
            rintro e wf ⟨rfl, rfl⟩
            rw [show nextV (y :: r) = .tuple #[.int .i64 y.2, .bool true] from rfl]
            obtain ⟨yt, HYT⟩ : ∃ t, Hid (t = y.2) := ⟨_, rfl⟩
            rw [← HYT.out]
            obtain ⟨wv, HWV⟩ : ∃ t, Hid (t = timeOf x.id (y :: r)) := ⟨_, rfl⟩
            have hw := awhen_any wz S B1 a x.id (y :: r) HALZ.out HOK.out.id
            rw [← HWV.out] at hw
            have HW := Lib.hid hw
            clear hw
            rcases wv with _ | wt
            · have HW2 : Hid (Calls Try.prog 49 #[.pointer (some ⟨a, 0, none⟩), .int .u64 (x.id : Int)] wz fun e w' => e = .returned (.tuple #[.int .i64 0, .bool false]) ∧ wz = w') := HW.out
              go_wp2_with fail
              refine HW2.out.mono ?_
              rintro e wf ⟨rfl, rfl⟩
              go_wp2_with fail
              refine (rfind_any wz _ n2 c2 (y :: r) x.id HEXZ.out.1).mono ?_
              rintro e wf ⟨v, rfl, hv, hbf⟩
              obtain rfl : v = -1 := by
                rcases hv with ⟨h, _⟩ | ⟨j, t, _, _, hj⟩
                · exact h
                · rw [← HWV.out] at hj; cases hj
              have HALF := Lib.hid (HALZ.out.below hbf)
              have HEXF := Lib.hid (HEXZ.out.below hbf)
              have HBF := Lib.hid (HBZ.out.trans (hbf.mono HBZ.out.size))
              obtain ⟨b5, o5, y5, e5, _, hy5, k50, k51⟩ := es_at HEXF.out.1 hn1
              injection e5 with e5
              injection e5 with e51 e52
              subst e51 e52
              simp only [List.getElem?_cons_zero, Option.some.injEq] at hy5
              subst hy5
              rw [← HYT.out, Nat.zero_mul, Nat.add_zero] at k51
              clear hv hbf hx1 k50
              go_wp2_with fail
              refine (alen2_any wf S B1 a _ HALF.out).mono ?_
              rintro e wg ⟨rfl, rfl⟩
              rw [HLN.out]
              go_wp2_with fail
              go_roundg (gk - 1)
              case measure => omega
              case rel => exact ⟨k + 1, S, _, _, n2, c2, by omega, by go_num, rfl, hln9, hln8, HALF.out, HORZ.out, HEXF.out, HBF.out⟩
            · have HW2 : Hid (Calls Try.prog 49 #[.pointer (some ⟨a, 0, none⟩), .int .u64 (x.id : Int)] wz fun e w' => e = .returned (.tuple #[.int .i64 wt, .bool true]) ∧ wz = w') := HW.out
              go_wp2_with fail
              refine HW2.out.mono ?_
              rintro e wf ⟨rfl, rfl⟩
              go_wp2_with fail
              refine (rfind_any wz _ n2 c2 (y :: r) x.id HEXZ.out.1).mono ?_
              rintro e wf ⟨v, rfl, hv, hbf⟩
              obtain ⟨j, rfl, hj⟩ : ∃ j : Nat, v = (j : Int) ∧ (y :: r)[j]? = some (x.id, wt) := by
                rcases hv with ⟨_, h⟩ | ⟨j, t, h1, h2, h3⟩
                · rw [← HWV.out] at h; cases h
                · rw [← HWV.out] at h3; injection h3 with h3; subst h3; exact ⟨j, h1, h2⟩
              have hjn : j < n2 := by have h1 := (List.getElem?_eq_some_iff.1 hj).1; rw [HLN.out] at h1; exact h1
              have hjnI : (j : Int) < (n2 : Int) := by omega
              have hj0I : (0 : Int) ≤ (j : Int) := by omega
              have HALF := Lib.hid (HALZ.out.below hbf)
              have HEXF := Lib.hid (HEXZ.out.below hbf)
              have HBF := Lib.hid (HBZ.out.trans (hbf.mono HBZ.out.size))
              obtain ⟨b5, o5, y5, e5, _, hy5, k50, k51⟩ := es_at HEXF.out.1 hn1
              injection e5 with e5
              injection e5 with e51 e52
              subst e51 e52
              simp only [List.getElem?_cons_zero, Option.some.injEq] at hy5
              subst hy5
              rw [← HYT.out, Nat.zero_mul, Nat.add_zero] at k51
              obtain ⟨b6, o6, y6, e6, _, hy6, k60, k61⟩ := es_at HEXF.out.1 hjn
              injection e6 with e6
              injection e6 with e61 e62
              subst e61 e62
              rw [hj] at hy6
              injection hy6 with hy6
              subst hy6
              simp only at k61
              clear hv hbf hx1 k50 k60 hj
              go_wp2_with fail
              refine (alen2_any wf S B1 a _ HALF.out).mono ?_
              rintro e wg ⟨rfl, rfl⟩
              rw [HLN.out]
              go_wp2_with fail
              go_roundg (gk - 1)
              case measure => omega
              case rel => exact ⟨k + 1, S, _, _, n2, c2, by omega, by go_num, rfl, hln9, hln8, HALF.out, HORZ.out, HEXF.out, HBF.out⟩
        · by_cases h4 : x.d % 5 = 4
          · have hmod : (x.d : Int) % 5 = 4 := by omega
            go_wp2_with fail
            refine (rdue_any _ A1 n1 c1 x.t la HEX1.out.1 (by omega)).mono ?_
            rintro e w5 ⟨A2, n2, c2, Ao, mo, co, rfl, hes, hoff, hown5, hb5⟩
            have HAL5 := Lib.hid (HAL1.out.below hb5)
            have HEX5 : Hid (Ex S w5 A2 n2 c2 (restE x.t la)) := Lib.hid ⟨hes.more hb5.size, fun b o e => by
              obtain ⟨o0, e0⟩ := hoff b o e
              have h1 := HEX1.out.2 b o0 e0
              exact ⟨Nat.lt_of_lt_of_le h1.1 hb5.size, h1.2⟩⟩
            have HBL5 := Lib.hid (HBL1.out.trans (hb5.mono HBL1.out.size))
            have HBOX5 := Lib.hid ((hb5.block _ HBZ0.out).trans HBOX.out)
            have HZ5 := Lib.hid (Nat.lt_of_lt_of_le HBZ0.out hb5.size)
            have HOW5 := Lib.hid hown5
            have hx2 : w5.cell? ⟨wr.heap.size, 2, none⟩ = some (.int .i64 x.t) := (cell_of_row _ _ _ _ _ _ HBOX5.out).trans rfl
            clear hes hoff hown5 hb5
            go_wp2_with fail
            refine (adue_any w5 S B1 a x.t la HAL5.out HORD.out (by omega)).mono ?_
            rintro e w6 ⟨Ad, nd, cd, rfl, hown6, hz, hoz⟩
            have HAL6 := Lib.hid hz
            have HEX6 := Lib.hid (HEX5.out.only (S' := S) hoz (fun k hk => .inl hk))
            have HBL6 := Lib.hid (HBL5.out.trans (hoz.toBelow (fun k hk => Nat.le_trans HG0.out (HAL.out.sl k hk).1) HBL5.out.size))
            have HBOX6 := Lib.hid ((hoz.block _ HZ5.out HBS.out).trans HBOX5.out)
            have HZ6 := Lib.hid (Nat.lt_of_lt_of_le HZ5.out hoz.size)
            have hq := eqn_any w6 Ad Ao nd cd mo co _ _ (Sn.of_own hown6) (Sn.of_own (own_same HOW5.out (fun b hb => hoz.block b (HOW5.out.lt b hb).2 (fun hs => by have h1 := (HOW5.out.lt b hb).1; have h2 := (HAL.out.sl b hs).2; have h3 := HBZ0.out; omega))))
            have hdq : decide (ids (dueE x.t la) = ids (dueE x.t la)) = true := by simp
            rw [hdq] at hq
            clear hdq
            have HQ := Lib.hid hq
            clear hown6 hz hoz hq hx2
            go_wp2_with fail
            refine HQ.out.mono ?_
            rintro e wz ⟨rfl, hbz⟩
            have HALZ := Lib.hid (HAL6.out.below hbz)
            have HEXZ := Lib.hid (HEX6.out.below hbz)
            have HBZ := Lib.hid (HBL6.out.trans (hbz.mono HBL6.out.size))
            have HORZ : Hid (Ord (restE x.t la)) := Lib.hid ⟨HORD.out.sort.sublist (List.dropWhile_sublist _), HORD.out.nd.sublist ((List.dropWhile_sublist _).map _)⟩
            have HBOXZ := Lib.hid ((hbz.block _ HZ6.out).trans HBOX6.out)
            have hlk2 : (restE x.t la).length ≤ k + 1 := by have h1 := (List.dropWhile_sublist (fun e : En => decide (e.2 ≤ x.t)) (l := la)).length_le; unfold restE; omega
            have hl80b : (restE x.t la).length ≤ 80 := by have h1 := (List.dropWhile_sublist (fun e : En => decide (e.2 ≤ x.t)) (l := la)).length_le; unfold restE; omega
            clear hbz hlk hl80
            generalize restE x.t la = l2 at *
            have hx1 : wz.cell? ⟨wr.heap.size, 1, none⟩ = some (.int .u64 (x.id : Int)) := (cell_of_row _ _ _ _ _ _ HBOXZ.out).trans rfl
            have hlnz : l2.length = n2 := es_len HEXZ.out.1
            have HLN : Hid (l2.length = n2) := hlnz
            have hn2I : (n2 : Int) ≤ 80 := by omega
            rcases l2 with _ | ⟨y, r⟩
            · have hn0 : n2 = 0 := by simpa using hlnz.symm
              subst hn0
              clear hlnz
              go_wp2_with fail
              refine (anext_any wz S B1 a [] HALZ.out HORZ.out.sort).mono ?_
              rintro e wf ⟨rfl, rfl⟩
              rw [show nextV [] = .tuple #[.int .i64 0, .bool false] from rfl]
              go_wp2_with fail
              refine (awhen_any wz S B1 a x.id [] HALZ.out HOK.out.id).mono ?_
              rintro e wf ⟨rfl, rfl⟩
              have hwv : whenV (timeOf x.id []) = .tuple #[.int .i64 0, .bool false] := rfl
              rw [hwv]
              clear hwv
              go_wp2_with fail
              refine (rfind_any wz A2 0 c2 [] x.id HEXZ.out.1).mono ?_
              rintro e wf ⟨v, rfl, hv, hbf⟩
              obtain rfl : v = -1 := by
                rcases hv with ⟨h, _⟩ | ⟨j, t, _, hj, _⟩
                · exact h
                · simp at hj
              have HALF := Lib.hid (HALZ.out.below hbf)
              have HEXF := Lib.hid (HEXZ.out.below hbf)
              have HBF := Lib.hid (HBZ.out.trans (hbf.mono HBZ.out.size))
              clear hv hbf hx1
              go_wp2_with fail
              refine (alen2_any wf S B1 a _ HALF.out).mono ?_
              rintro e wg ⟨rfl, rfl⟩
              rw [HLN.out]
              go_wp2_with fail
              go_roundg (gk - 1)
              case measure => omega
              case rel => exact ⟨k + 1, S, _, A2, 0, c2, by omega, by go_num, rfl, by simp, by simp, HALF.out, HORZ.out, HEXF.out, HBF.out⟩
            · have hn1 : 0 < n2 := by simp at hlnz; omega
              obtain ⟨bb2, oo2, y', rfl, _, hy', _, _⟩ := es_at HEXZ.out.1 hn1
              clear hy'
              have hn1I : (0 : Int) < (n2 : Int) := by omega
              have hln9 : (y :: r).length ≤ k + 1 := by omega
              have hln8 : (y :: r).length ≤ 80 := by omega
              clear hlnz
              go_wp2_with fail
              refine (anext_any wz S B1 a (y :: r) HALZ.out HORZ.out.sort).mono ?_
              rintro e wf ⟨rfl, rfl⟩
              rw [show nextV (y :: r) = .tuple #[.int .i64 y.2, .bool true] from rfl]
              obtain ⟨yt, HYT⟩ : ∃ t, Hid (t = y.2) := ⟨_, rfl⟩
              rw [← HYT.out]
              obtain ⟨wv, HWV⟩ : ∃ t, Hid (t = timeOf x.id (y :: r)) := ⟨_, rfl⟩
              have hw := awhen_any wz S B1 a x.id (y :: r) HALZ.out HOK.out.id
              rw [← HWV.out] at hw
              have HW := Lib.hid hw
              clear hw
              rcases wv with _ | wt
              · have HW2 : Hid (Calls Try.prog 49 #[.pointer (some ⟨a, 0, none⟩), .int .u64 (x.id : Int)] wz fun e w' => e = .returned (.tuple #[.int .i64 0, .bool false]) ∧ wz = w') := HW.out
                go_wp2_with fail
                refine HW2.out.mono ?_
                rintro e wf ⟨rfl, rfl⟩
                go_wp2_with fail
                refine (rfind_any wz _ n2 c2 (y :: r) x.id HEXZ.out.1).mono ?_
                rintro e wf ⟨v, rfl, hv, hbf⟩
                obtain rfl : v = -1 := by
                  rcases hv with ⟨h, _⟩ | ⟨j, t, _, _, hj⟩
                  · exact h
                  · rw [← HWV.out] at hj; cases hj
                have HALF := Lib.hid (HALZ.out.below hbf)
                have HEXF := Lib.hid (HEXZ.out.below hbf)
                have HBF := Lib.hid (HBZ.out.trans (hbf.mono HBZ.out.size))
                obtain ⟨b5, o5, y5, e5, _, hy5, k50, k51⟩ := es_at HEXF.out.1 hn1
                injection e5 with e5
                injection e5 with e51 e52
                subst e51 e52
                simp only [List.getElem?_cons_zero, Option.some.injEq] at hy5
                subst hy5
                rw [← HYT.out, Nat.zero_mul, Nat.add_zero] at k51
                clear hv hbf hx1 k50
                go_wp2_with fail
                refine (alen2_any wf S B1 a _ HALF.out).mono ?_
                rintro e wg ⟨rfl, rfl⟩
                rw [HLN.out]
                go_wp2_with fail
                go_roundg (gk - 1)
                case measure => omega
                case rel => exact ⟨k + 1, S, _, _, n2, c2, by omega, by go_num, rfl, hln9, hln8, HALF.out, HORZ.out, HEXF.out, HBF.out⟩
              · have HW2 : Hid (Calls Try.prog 49 #[.pointer (some ⟨a, 0, none⟩), .int .u64 (x.id : Int)] wz fun e w' => e = .returned (.tuple #[.int .i64 wt, .bool true]) ∧ wz = w') := HW.out
                go_wp2_with fail
                refine HW2.out.mono ?_
                rintro e wf ⟨rfl, rfl⟩
                go_wp2_with fail
                refine (rfind_any wz _ n2 c2 (y :: r) x.id HEXZ.out.1).mono ?_
                rintro e wf ⟨v, rfl, hv, hbf⟩
                obtain ⟨j, rfl, hj⟩ : ∃ j : Nat, v = (j : Int) ∧ (y :: r)[j]? = some (x.id, wt) := by
                  rcases hv with ⟨_, h⟩ | ⟨j, t, h1, h2, h3⟩
                  · rw [← HWV.out] at h; cases h
                  · rw [← HWV.out] at h3; injection h3 with h3; subst h3; exact ⟨j, h1, h2⟩
                have hjn : j < n2 := by have h1 := (List.getElem?_eq_some_iff.1 hj).1; rw [HLN.out] at h1; exact h1
                have hjnI : (j : Int) < (n2 : Int) := by omega
                have hj0I : (0 : Int) ≤ (j : Int) := by omega
                have HALF := Lib.hid (HALZ.out.below hbf)
                have HEXF := Lib.hid (HEXZ.out.below hbf)
                have HBF := Lib.hid (HBZ.out.trans (hbf.mono HBZ.out.size))
                obtain ⟨b5, o5, y5, e5, _, hy5, k50, k51⟩ := es_at HEXF.out.1 hn1
                injection e5 with e5
                injection e5 with e51 e52
                subst e51 e52
                simp only [List.getElem?_cons_zero, Option.some.injEq] at hy5
                subst hy5
                rw [← HYT.out, Nat.zero_mul, Nat.add_zero] at k51
                obtain ⟨b6, o6, y6, e6, _, hy6, k60, k61⟩ := es_at HEXF.out.1 hjn
                injection e6 with e6
                injection e6 with e61 e62
                subst e61 e62
                rw [hj] at hy6
                injection hy6 with hy6
                subst hy6
                simp only at k61
                clear hv hbf hx1 k50 k60 hj
                go_wp2_with fail
                refine (alen2_any wf S B1 a _ HALF.out).mono ?_
                rintro e wg ⟨rfl, rfl⟩
                rw [HLN.out]
                go_wp2_with fail
                go_roundg (gk - 1)
                case measure => omega
                case rel => exact ⟨k + 1, S, _, _, n2, c2, by omega, by go_num, rfl, hln9, hln8, HALF.out, HORZ.out, HEXF.out, HBF.out⟩
          · obtain ⟨rr, hrr⟩ : ∃ rr : Int, (x.d : Int) % 5 = rr := ⟨_, rfl⟩
            have hr3 : (rr == 3) = false := by simp; omega
            have hr4 : (rr == 4) = false := by simp; omega
            have hrb : 0 ≤ rr ∧ rr < 5 := by omega
            go_wp2_with fail
            have hs := aset_any _ S B1 a x.id x.t la HAL1.out HOK.out.id (by omega)
            have HS := Lib.hid hs
            clear hs
            refine HS.out.mono ?_
            rintro e w5 ⟨rfl, Sz, h5, ho5, hs5⟩
            have HAL5 := Lib.hid h5
            have HEX5 := Lib.hid (HEX1.out.only ho5 hs5)
            have HBL5 := Lib.hid (HBL1.out.trans (ho5.toBelow (fun k hk => Nat.le_trans HG0.out (HAL.out.sl k hk).1) HBL1.out.size))
            have HBOX5 := Lib.hid ((ho5.block _ HBZ0.out HBS.out).trans HBOX.out)
            have HZ5 := Lib.hid (Nat.lt_of_lt_of_le HBZ0.out ho5.size)
            have hx1 : w5.cell? ⟨wr.heap.size, 1, none⟩ = some (.int .u64 (x.id : Int)) := (cell_of_row _ _ _ _ _ _ HBOX5.out).trans rfl
            have hx2 : w5.cell? ⟨wr.heap.size, 2, none⟩ = some (.int .i64 x.t) := (cell_of_row _ _ _ _ _ _ HBOX5.out).trans rfl
            clear h5 ho5 hs5
            go_wp2_with fail
            refine (rset_any w5 A1 n1 c1 la x.id x.t HEX5.out.1 (by omega)).mono ?_
            rintro e wz ⟨A2, n2, c2, rfl, hown, hbz⟩
            have HALZ := Lib.hid (HAL5.out.below hbz)
            have HEXZ := Lib.hid (Ex.own (S := Sz) hown (fun k hk => (HAL5.out.sl k hk).2))
            have HBZ := Lib.hid (HBL5.out.trans (hbz.mono HBL5.out.size))
            have HORZ := Lib.hid (setE_ord (id := x.id) (at_ := x.t) HORD.out)
            have HBOXZ := Lib.hid ((hbz.block _ HZ5.out).trans HBOX5.out)
            have hlk2 : (setE x.id x.t la).length ≤ k + 1 := by have := setE_le x.id x.t la; omega
            have hl80b : (setE x.id x.t la).length ≤ 80 := by omega
            clear hown hbz hx1 hx2 hlk hl80
            generalize setE x.id x.t la = l2 at *
            have hx1 : wz.cell? ⟨wr.heap.size, 1, none⟩ = some (.int .u64 (x.id : Int)) := (cell_of_row _ _ _ _ _ _ HBOXZ.out).trans rfl
            have hlnz : l2.length = n2 := es_len HEXZ.out.1
            have HLN : Hid (l2.length = n2) := hlnz
            have hn2I : (n2 : Int) ≤ 80 := by omega
            rcases l2 with _ | ⟨y, r⟩
            · have hn0 : n2 = 0 := by simpa using hlnz.symm
              subst hn0
              clear hlnz
              go_wp2_with fail
              refine (anext_any wz Sz B1 a [] HALZ.out HORZ.out.sort).mono ?_
              rintro e wf ⟨rfl, rfl⟩
              rw [show nextV [] = .tuple #[.int .i64 0, .bool false] from rfl]
              go_wp2_with fail
              refine (awhen_any wz Sz B1 a x.id [] HALZ.out HOK.out.id).mono ?_
              rintro e wf ⟨rfl, rfl⟩
              have hwv : whenV (timeOf x.id []) = .tuple #[.int .i64 0, .bool false] := rfl
              rw [hwv]
              clear hwv
              go_wp2_with fail
              refine (rfind_any wz A2 0 c2 [] x.id HEXZ.out.1).mono ?_
              rintro e wf ⟨v, rfl, hv, hbf⟩
              obtain rfl : v = -1 := by
                rcases hv with ⟨h, _⟩ | ⟨j, t, _, hj, _⟩
                · exact h
                · simp at hj
              have HALF := Lib.hid (HALZ.out.below hbf)
              have HEXF := Lib.hid (HEXZ.out.below hbf)
              have HBF := Lib.hid (HBZ.out.trans (hbf.mono HBZ.out.size))
              clear hv hbf hx1
              go_wp2_with fail
              refine (alen2_any wf Sz B1 a _ HALF.out).mono ?_
              rintro e wg ⟨rfl, rfl⟩
              rw [HLN.out]
              go_wp2_with fail
              go_roundg (gk - 1)
              case measure => omega
              case rel => exact ⟨k + 1, Sz, _, A2, 0, c2, by omega, by go_num, rfl, by simp, by simp, HALF.out, HORZ.out, HEXF.out, HBF.out⟩
            · have hn1 : 0 < n2 := by simp at hlnz; omega
              obtain ⟨bb2, oo2, y', rfl, _, hy', _, _⟩ := es_at HEXZ.out.1 hn1
              clear hy'
              have hn1I : (0 : Int) < (n2 : Int) := by omega
              have hln9 : (y :: r).length ≤ k + 1 := by omega
              have hln8 : (y :: r).length ≤ 80 := by omega
              clear hlnz
              go_wp2_with fail
              refine (anext_any wz Sz B1 a (y :: r) HALZ.out HORZ.out.sort).mono ?_
              rintro e wf ⟨rfl, rfl⟩
              rw [show nextV (y :: r) = .tuple #[.int .i64 y.2, .bool true] from rfl]
              obtain ⟨yt, HYT⟩ : ∃ t, Hid (t = y.2) := ⟨_, rfl⟩
              rw [← HYT.out]
              obtain ⟨wv, HWV⟩ : ∃ t, Hid (t = timeOf x.id (y :: r)) := ⟨_, rfl⟩
              have hw := awhen_any wz Sz B1 a x.id (y :: r) HALZ.out HOK.out.id
              rw [← HWV.out] at hw
              have HW := Lib.hid hw
              clear hw
              rcases wv with _ | wt
              · have HW2 : Hid (Calls Try.prog 49 #[.pointer (some ⟨a, 0, none⟩), .int .u64 (x.id : Int)] wz fun e w' => e = .returned (.tuple #[.int .i64 0, .bool false]) ∧ wz = w') := HW.out
                go_wp2_with fail
                refine HW2.out.mono ?_
                rintro e wf ⟨rfl, rfl⟩
                go_wp2_with fail
                refine (rfind_any wz _ n2 c2 (y :: r) x.id HEXZ.out.1).mono ?_
                rintro e wf ⟨v, rfl, hv, hbf⟩
                obtain rfl : v = -1 := by
                  rcases hv with ⟨h, _⟩ | ⟨j, t, _, _, hj⟩
                  · exact h
                  · rw [← HWV.out] at hj; cases hj
                have HALF := Lib.hid (HALZ.out.below hbf)
                have HEXF := Lib.hid (HEXZ.out.below hbf)
                have HBF := Lib.hid (HBZ.out.trans (hbf.mono HBZ.out.size))
                obtain ⟨b5, o5, y5, e5, _, hy5, k50, k51⟩ := es_at HEXF.out.1 hn1
                injection e5 with e5
                injection e5 with e51 e52
                subst e51 e52
                simp only [List.getElem?_cons_zero, Option.some.injEq] at hy5
                subst hy5
                rw [← HYT.out, Nat.zero_mul, Nat.add_zero] at k51
                clear hv hbf hx1 k50
                go_wp2_with fail
                refine (alen2_any wf Sz B1 a _ HALF.out).mono ?_
                rintro e wg ⟨rfl, rfl⟩
                rw [HLN.out]
                go_wp2_with fail
                go_roundg (gk - 1)
                case measure => omega
                case rel => exact ⟨k + 1, Sz, _, _, n2, c2, by omega, by go_num, rfl, hln9, hln8, HALF.out, HORZ.out, HEXF.out, HBF.out⟩
              · have HW2 : Hid (Calls Try.prog 49 #[.pointer (some ⟨a, 0, none⟩), .int .u64 (x.id : Int)] wz fun e w' => e = .returned (.tuple #[.int .i64 wt, .bool true]) ∧ wz = w') := HW.out
                go_wp2_with fail
                refine HW2.out.mono ?_
                rintro e wf ⟨rfl, rfl⟩
                go_wp2_with fail
                refine (rfind_any wz _ n2 c2 (y :: r) x.id HEXZ.out.1).mono ?_
                rintro e wf ⟨v, rfl, hv, hbf⟩
                obtain ⟨j, rfl, hj⟩ : ∃ j : Nat, v = (j : Int) ∧ (y :: r)[j]? = some (x.id, wt) := by
                  rcases hv with ⟨_, h⟩ | ⟨j, t, h1, h2, h3⟩
                  · rw [← HWV.out] at h; cases h
                  · rw [← HWV.out] at h3; injection h3 with h3; subst h3; exact ⟨j, h1, h2⟩
                have hjn : j < n2 := by have h1 := (List.getElem?_eq_some_iff.1 hj).1; rw [HLN.out] at h1; exact h1
                have hjnI : (j : Int) < (n2 : Int) := by omega
                have hj0I : (0 : Int) ≤ (j : Int) := by omega
                have HALF := Lib.hid (HALZ.out.below hbf)
                have HEXF := Lib.hid (HEXZ.out.below hbf)
                have HBF := Lib.hid (HBZ.out.trans (hbf.mono HBZ.out.size))
                obtain ⟨b5, o5, y5, e5, _, hy5, k50, k51⟩ := es_at HEXF.out.1 hn1
                injection e5 with e5
                injection e5 with e51 e52
                subst e51 e52
                simp only [List.getElem?_cons_zero, Option.some.injEq] at hy5
                subst hy5
                rw [← HYT.out, Nat.zero_mul, Nat.add_zero] at k51
                obtain ⟨b6, o6, y6, e6, _, hy6, k60, k61⟩ := es_at HEXF.out.1 hjn
                injection e6 with e6
                injection e6 with e61 e62
                subst e61 e62
                rw [hj] at hy6
                injection hy6 with hy6
                subst hy6
                simp only at k61
                clear hv hbf hx1 k50 k60 hj
                go_wp2_with fail
                refine (alen2_any wf Sz B1 a _ HALF.out).mono ?_
                rintro e wg ⟨rfl, rfl⟩
                rw [HLN.out]
                go_wp2_with fail
                go_roundg (gk - 1)
                case measure => omega
                case rel => exact ⟨k + 1, Sz, _, _, n2, c2, by omega, by go_num, rfl, hln9, hln8, HALF.out, HORZ.out, HEXF.out, HBF.out⟩
      · have hk80I : ¬ (k : Int) < 80 := by omega
        have hk80J : (80 : Int) ≤ (k : Int) := by omega
        clear HLA
        go_wp2_with fail
        go_ret
        exact ⟨rfl, HBL.out.trans ((below_box wr _).mono HBL.out.size)⟩
    · go_wp2_with fail
      go_ret
      exact ⟨rfl, HBL.out⟩
end Go.Proofs.Ytfmfamnngfanfaa
