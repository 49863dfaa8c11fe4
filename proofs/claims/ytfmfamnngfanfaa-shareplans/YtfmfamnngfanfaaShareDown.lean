/-
  CONTRACT of container/heap's down over share's lines.
  No statement is proved here.
-/
import Derived.Test.YtfmfamnngfanfaaShareUp
namespace Go.Proofs.Ytfmfamnngfanfaa
open Go.RowKit Go.Sort

def DownRel (w : World) (base g rb N c m : Nat) (d : Array Ln) (gk : Nat) (vi : Value) (wr : World) : Prop :=
  ∃ (i : Nat) (dk : Array Ln), vi = .int .i64 (i : Int) ∧ i ≤ m ∧ m ≤ gk + i ∧ Hp wr base g (some ⟨rb, 0, none⟩) N c dk ∧ DownInv lessL dk m i ∧ dk.toList.Perm d.toList ∧ (∀ k, m ≤ k → dk[k]! = d[k]!) ∧ w.grownBy wr (some rb)
def Sunk (w : World) (base g rb N c m : Nat) (d : Array Ln) (e : Ending) (w' : World) : Prop :=
  ∃ b, e = .returned (.bool b) ∧ ∃ d', Hp w' base g (some ⟨rb, 0, none⟩) N c d' ∧ Heap lessL d' m ∧ d'.toList.Perm d.toList ∧ (∀ k, m ≤ k → d'[k]! = d[k]!) ∧ w.grownBy w' (some rb)
theorem sib_one {d : Array Ln} {i q1 q2 : Nat} (h1 : q1 = 2 * i + 1) (h2 : q2 = q1 + 1) (m : Nat) (hl : lessL d[q2]! d[q1]! = true) : ∀ k, 0 < k → k < m → (k - 1) / 2 = i → k ≠ q2 → lessL d[k]! d[q2]! = false := by
  intro k _ _ h3 h4
  obtain rfl : k = q1 := by omega
  exact lessL_wk.as _ _ hl
theorem sib_two {d : Array Ln} {i q1 q2 : Nat} (h1 : q1 = 2 * i + 1) (h2 : q2 = q1 + 1) (m : Nat) (hl : lessL d[q2]! d[q1]! = false) : ∀ k, 0 < k → k < m → (k - 1) / 2 = i → k ≠ q1 → lessL d[k]! d[q1]! = false := by
  intro k _ _ h3 h4
  obtain rfl : k = q2 := by omega
  exact hl
theorem sib_none {d : Array Ln} {i q1 q2 m : Nat} (h1 : q1 = 2 * i + 1) (h2 : q2 = q1 + 1) (hm : m ≤ q2) : ∀ k, 0 < k → k < m → (k - 1) / 2 = i → k ≠ q1 → lessL d[k]! d[q1]! = false := by
  intro k _ _ h3 h4
  omega
set_option maxRecDepth 100000 in
set_option maxHeartbeats 4000000 in
theorem down_any (w : World) (base g rb N c m i0 : Nat) (d : Array Ln) (h : Hp w base g (some ⟨rb, 0, none⟩) N c d) (hi0 : i0 ≤ m) (hm : m ≤ N) (hi : DownInv lessL d m i0) (hN : N ≤ 1000000) :
    Calls Try.prog 94 #[hv g, .int .i64 i0, .int .i64 m] w (Sunk w base g rb N c m d) := by
  have H := Lib.hid h
  have HI := Lib.hid hi
  clear h hi
  unfold hv
  go_enter Try.func94, Try.ntmps94
  go_wp2_with fail
  go_loopg [7] m (fun gk vi wr => DownRel w base g rb N c m d gk vi wr)
  case atStart => exact ⟨i0, d, rfl, hi0, by omega, H.out, HI.out, List.Perm.refl _, fun _ _ => rfl, ⟨rfl, rfl, rfl, Nat.le_refl _, fun _ _ _ => rfl⟩⟩
  case round =>
    clear H HI
    obtain ⟨i, dk, rfl, him, hgk, h, hi, hp, hk, hg⟩ := hrel
    have H := Lib.hid h
    have HI := Lib.hid hi
    have HP := Lib.hid hp
    have HK := Lib.hid hk
    have HG := Lib.hid hg
    have hc := h.cell
    have hml := meth_less hc
    clear h hi hp hg hk
    obtain ⟨q1, hq1⟩ : ∃ q, q = 2 * i + 1 := ⟨_, rfl⟩
    obtain ⟨q2, hq2⟩ : ∃ q, q = q1 + 1 := ⟨_, rfl⟩
    have e1 : 2 * (i : Int) + 1 = (q1 : Int) := by omega
    have e2 : (q1 : Int) + 1 = (q2 : Int) := by omega
    have hiI : (i : Int) ≤ 1000000 := by omega
    have hq0 : (0 : Int) ≤ (q1 : Int) := by omega
    have hq1a : q1 ≤ 2 * i + 1 := by omega
    have hq1b : 2 * i + 1 ≤ q1 := by omega
    have hq2a : q2 ≤ q1 + 1 := by omega
    have hq2b : q1 + 1 ≤ q2 := by omega
    have hqI : (q1 : Int) ≤ 2000001 := by omega
    have hq2I : (q2 : Int) ≤ 2000002 := by omega
    clear hq1 hq2
    by_cases hA : q1 < m
    · by_cases hB : q2 < m
      · cases hl1 : lessL dk[q2]! dk[q1]!
        · have HS1 := Lib.hid (sib_two (i := i) (q1 := q1) (q2 := q2) (by omega) (by omega) m hl1)
          have HL1 := Lib.hid hl1
          clear hl1
          cases hl : lessL dk[q1]! dk[i]!
          · have HE : Hid (Heap lessL dk m) := down_stop1 lessL_wk HI.out HS1.out hl
            have HL := Lib.hid hl
            clear hl
            go_wp2_with fail
            refine (less_own wr base rb N c q2 q1 dk H.out.own (by omega) (by omega)).mono ?_
            rintro e w7 ⟨rfl, hb⟩
            rw [HL1.out]
            have H7 := Lib.hid (H.out.below hb)
            have HG7 := Lib.hid (grown_trans HG.out (below_grown hb _))
            clear hb hml hc
            have hc := H7.out.cell
            have hml := meth_less hc
            go_wp2_with fail
            refine (less_own w7 base rb N c q1 i dk H7.out.own (by omega) (by omega)).mono ?_
            rintro e w8 ⟨rfl, hb⟩
            rw [HL.out]
            have H8 := Lib.hid (H7.out.below hb)
            have HG8 := Lib.hid (grown_trans HG7.out (below_grown hb _))
            clear hb hml hc
            go_wp2_with fail
            go_ret
            exact ⟨_, rfl, dk, H8.out, HE.out, HP.out, HK.out, HG8.out⟩
          · have HST := Lib.hid (down_step lessL_wk HI.out (c := q1) (by omega) (by omega) (by omega) (by rw [H.out.size]; omega) HS1.out hl)
            have HL := Lib.hid hl
            clear hl
            go_wp2_with fail
            refine (less_own wr base rb N c q2 q1 dk H.out.own (by omega) (by omega)).mono ?_
            rintro e w7 ⟨rfl, hb⟩
            rw [HL1.out]
            have H7 := Lib.hid (H.out.below hb)
            have HG7 := Lib.hid (grown_trans HG.out (below_grown hb _))
            clear hb hml hc
            have hc := H7.out.cell
            have hml := meth_less hc
            go_wp2_with fail
            refine (less_own w7 base rb N c q1 i dk H7.out.own (by omega) (by omega)).mono ?_
            rintro e w8 ⟨rfl, hb⟩
            rw [HL.out]
            have H8 := Lib.hid (H7.out.below hb)
            have HG8 := Lib.hid (grown_trans HG7.out (below_grown hb _))
            have hms := meth_swap H8.out.cell
            clear hb hml hc
            go_wp2_with fail
            refine (swap_own w8 base rb N c i q1 dk H8.out.own (by omega) (by omega)).mono ?_
            rintro e w9 ⟨rfl, ho, hg⟩
            have H9 := Lib.hid (H8.out.turned rfl ho hg)
            have HG9 := Lib.hid (grown_trans HG8.out hg)
            clear ho hg hms
            go_wp2_with fail
            go_roundg (gk - 1)
            case measure => omega
            case rel =>
              refine ⟨q1, swp dk i q1, rfl, by omega, by omega, H9.out, HST.out, ?_, ?_, HG9.out⟩
              · exact (swp_perm (by rw [H8.out.size]; omega) (by rw [H8.out.size]; omega)).trans HP.out
              · intro k hk
                rw [swp_at (by rw [H8.out.size]; omega) (by rw [H8.out.size]; omega), if_neg (by omega), if_neg (by omega)]
                exact HK.out k hk
        · have HS1 := Lib.hid (sib_one (i := i) (q1 := q1) (q2 := q2) (by omega) (by omega) m hl1)
          have HL1 := Lib.hid hl1
          clear hl1
          cases hl : lessL dk[q2]! dk[i]!
          · have HE : Hid (Heap lessL dk m) := down_stop1 lessL_wk HI.out HS1.out hl
            have HL := Lib.hid hl
            clear hl
            go_wp2_with fail
            refine (less_own wr base rb N c q2 q1 dk H.out.own (by omega) (by omega)).mono ?_
            rintro e w7 ⟨rfl, hb⟩
            rw [HL1.out]
            have H7 := Lib.hid (H.out.below hb)
            have HG7 := Lib.hid (grown_trans HG.out (below_grown hb _))
            clear hb hml hc
            have hc := H7.out.cell
            have hml := meth_less hc
            go_wp2_with fail
            refine (less_own w7 base rb N c q2 i dk H7.out.own (by omega) (by omega)).mono ?_
            rintro e w8 ⟨rfl, hb⟩
            rw [HL.out]
            have H8 := Lib.hid (H7.out.below hb)
            have HG8 := Lib.hid (grown_trans HG7.out (below_grown hb _))
            clear hb hml hc
            go_wp2_with fail
            go_ret
            exact ⟨_, rfl, dk, H8.out, HE.out, HP.out, HK.out, HG8.out⟩
          · have HST := Lib.hid (down_step lessL_wk HI.out (c := q2) (by omega) (by omega) (by omega) (by rw [H.out.size]; omega) HS1.out hl)
            have HL := Lib.hid hl
            clear hl
            go_wp2_with fail
            refine (less_own wr base rb N c q2 q1 dk H.out.own (by omega) (by omega)).mono ?_
            rintro e w7 ⟨rfl, hb⟩
            rw [HL1.out]
            have H7 := Lib.hid (H.out.below hb)
            have HG7 := Lib.hid (grown_trans HG.out (below_grown hb _))
            clear hb hml hc
            have hc := H7.out.cell
            have hml := meth_less hc
            go_wp2_with fail
            refine (less_own w7 base rb N c q2 i dk H7.out.own (by omega) (by omega)).mono ?_
            rintro e w8 ⟨rfl, hb⟩
            rw [HL.out]
            have H8 := Lib.hid (H7.out.below hb)
            have HG8 := Lib.hid (grown_trans HG7.out (below_grown hb _))
            have hms := meth_swap H8.out.cell
            clear hb hml hc
            go_wp2_with fail
            refine (swap_own w8 base rb N c i q2 dk H8.out.own (by omega) (by omega)).mono ?_
            rintro e w9 ⟨rfl, ho, hg⟩
            have H9 := Lib.hid (H8.out.turned rfl ho hg)
            have HG9 := Lib.hid (grown_trans HG8.out hg)
            clear ho hg hms
            go_wp2_with fail
            go_roundg (gk - 1)
            case measure => omega
            case rel =>
              refine ⟨q2, swp dk i q2, rfl, by omega, by omega, H9.out, HST.out, ?_, ?_, HG9.out⟩
              · exact (swp_perm (by rw [H8.out.size]; omega) (by rw [H8.out.size]; omega)).trans HP.out
              · intro k hk
                rw [swp_at (by rw [H8.out.size]; omega) (by rw [H8.out.size]; omega), if_neg (by omega), if_neg (by omega)]
                exact HK.out k hk
      · have HS1 := Lib.hid (sib_none (d := dk) (i := i) (q1 := q1) (q2 := q2) (by omega) (by omega) (by omega : m ≤ q2))
        cases hl : lessL dk[q1]! dk[i]!
        · have HE : Hid (Heap lessL dk m) := down_stop1 lessL_wk HI.out HS1.out hl
          have HL := Lib.hid hl
          clear hl
          go_wp2_with fail
          refine (less_own wr base rb N c q1 i dk H.out.own (by omega) (by omega)).mono ?_
          rintro e w8 ⟨rfl, hb⟩
          rw [HL.out]
          have H8 := Lib.hid (H.out.below hb)
          have HG8 := Lib.hid (grown_trans HG.out (below_grown hb _))
          clear hb hml hc
          go_wp2_with fail
          go_ret
          exact ⟨_, rfl, dk, H8.out, HE.out, HP.out, HK.out, HG8.out⟩
        · have HST := Lib.hid (down_step lessL_wk HI.out (c := q1) (by omega) (by omega) (by omega) (by rw [H.out.size]; omega) HS1.out hl)
          have HL := Lib.hid hl
          clear hl
          go_wp2_with fail
          refine (less_own wr base rb N c q1 i dk H.out.own (by omega) (by omega)).mono ?_
          rintro e w8 ⟨rfl, hb⟩
          rw [HL.out]
          have H8 := Lib.hid (H.out.below hb)
          have HG8 := Lib.hid (grown_trans HG.out (below_grown hb _))
          have hms := meth_swap H8.out.cell
          clear hb hml hc
          go_wp2_with fail
          refine (swap_own w8 base rb N c i q1 dk H8.out.own (by omega) (by omega)).mono ?_
          rintro e w9 ⟨rfl, ho, hg⟩
          have H9 := Lib.hid (H8.out.turned rfl ho hg)
          have HG9 := Lib.hid (grown_trans HG8.out hg)
          clear ho hg hms
          go_wp2_with fail
          go_roundg (gk - 1)
          case measure => omega
          case rel =>
            refine ⟨q1, swp dk i q1, rfl, by omega, by omega, H9.out, HST.out, ?_, ?_, HG9.out⟩
            · exact (swp_perm (by rw [H8.out.size]; omega) (by rw [H8.out.size]; omega)).trans HP.out
            · intro k hk
              rw [swp_at (by rw [H8.out.size]; omega) (by rw [H8.out.size]; omega), if_neg (by omega), if_neg (by omega)]
              exact HK.out k hk
    · have HE : Hid (Heap lessL dk m) := down_stop0 HI.out (by omega)
      clear hml hc
      go_wp2_with fail
      go_ret
      exact ⟨_, rfl, dk, H.out, HE.out, HP.out, HK.out, HG.out⟩
end Go.Proofs.Ytfmfamnngfanfaa
