/-
  CONTRACT of container/heap's down over an alarm's line.
  No statement is proved here.
-/
import Derived.Test.YtfmfamnngfanfaaAlarmUp
namespace Go.Proofs.Ytfmfamnngfanfaa
open Go.RowKit Go.Sort

def ADownRel (w : World) (base a rb N c m i0 : Nat) (d : Array Slp) (gk : Nat) (vi : Value) (wr : World) : Prop :=
  ∃ (i : Nat) (dk : Array Slp), vi = .int .i64 (i : Int) ∧ i0 ≤ i ∧ i ≤ m ∧ m ≤ gk + i ∧ Hq wr base a (some ⟨rb, 0, none⟩) N c dk ∧ (DownInv lessA d m i0 → DownInv lessA dk m i) ∧ (Kids lessA d m i0 → i = i0 ∧ dk = d) ∧ dk.toList.Perm d.toList ∧ (∀ k, m ≤ k → dk[k]! = d[k]!) ∧ Only (Ft (some ⟨rb, 0, none⟩) N c d) w wr
def ASunk (w : World) (base a rb N c m i0 : Nat) (d : Array Slp) (e : Ending) (w' : World) : Prop :=
  ∃ b, e = .returned (.bool b) ∧ (Kids lessA d m i0 → b = false) ∧ ∃ d', Hq w' base a (some ⟨rb, 0, none⟩) N c d' ∧ (DownInv lessA d m i0 → Heap lessA d' m) ∧ (Kids lessA d m i0 → d' = d) ∧ d'.toList.Perm d.toList ∧ (∀ k, m ≤ k → d'[k]! = d[k]!) ∧ Only (Ft (some ⟨rb, 0, none⟩) N c d) w w'
theorem asib_one {d : Array Slp} {i q1 q2 : Nat} (h1 : q1 = 2 * i + 1) (h2 : q2 = q1 + 1) (m : Nat) (hl : lessA d[q2]! d[q1]! = true) : ∀ k, 0 < k → k < m → (k - 1) / 2 = i → k ≠ q2 → lessA d[k]! d[q2]! = false := by
  intro k _ _ h3 h4
  obtain rfl : k = q1 := by omega
  exact lessA_wk.as _ _ hl
theorem asib_two {d : Array Slp} {i q1 q2 : Nat} (h1 : q1 = 2 * i + 1) (h2 : q2 = q1 + 1) (m : Nat) (hl : lessA d[q2]! d[q1]! = false) : ∀ k, 0 < k → k < m → (k - 1) / 2 = i → k ≠ q1 → lessA d[k]! d[q1]! = false := by
  intro k _ _ h3 h4
  obtain rfl : k = q2 := by omega
  exact hl
theorem asib_none {d : Array Slp} {i q1 q2 m : Nat} (h1 : q1 = 2 * i + 1) (h2 : q2 = q1 + 1) (hm : m ≤ q2) : ∀ k, 0 < k → k < m → (k - 1) / 2 = i → k ≠ q1 → lessA d[k]! d[q1]! = false := by
  intro k _ _ h3 h4
  omega
set_option maxRecDepth 100000 in
set_option maxHeartbeats 4000000 in
theorem adown_any (w : World) (base a rb N c m i0 : Nat) (d : Array Slp) (h : Hq w base a (some ⟨rb, 0, none⟩) N c d) (hi0 : i0 ≤ m) (hm : m ≤ N) (hN : N ≤ 1000000) :
    Calls Try.prog 94 #[hva a, .int .i64 i0, .int .i64 m] w (ASunk w base a rb N c m i0 d) := by
  have H := Lib.hid h
  clear h
  unfold hva
  go_enter Try.func94, Try.ntmps94
  go_wp2_with fail
  go_loopg [7] m (fun gk vi wr => ADownRel w base a rb N c m i0 d gk vi wr)
  case atStart => exact ⟨i0, d, rfl, Nat.le_refl _, hi0, by omega, H.out, fun h => h, fun _ => ⟨rfl, rfl⟩, List.Perm.refl _, fun _ _ => rfl, Only.refl _ _⟩
  case round =>
    clear H
    obtain ⟨i, dk, rfl, hi0i, him, hgk, h, hi, hkid, hp, hk, hg⟩ := hrel
    have HKID := Lib.hid hkid
    clear hkid
    have H := Lib.hid h
    have HI := Lib.hid hi
    have HP := Lib.hid hp
    have HK := Lib.hid hk
    have HG := Lib.hid hg
    have hc := h.cell
    have hml := ameth_less hc
    clear h hi hp hg hk
    obtain ⟨q1, hq1⟩ : ∃ q, q = 2 * i + 1 := ⟨_, rfl⟩
    obtain ⟨q2, hq2⟩ : ∃ q, q = q1 + 1 := ⟨_, rfl⟩
    have e1 : 2 * (i : Int) + 1 = (q1 : Int) := by omega
    have e2 : (q1 : Int) + 1 = (q2 : Int) := by omega
    have hiI : (i : Int) ≤ 1000000 := by omega
    have hq0 : (0 : Int) ≤ (q1 : Int) := by omega
    have hq1a : q1 ≤ 2 * i + 1 := by omega
    have hq1b : 2 * i + 1 ≤ q1 := by omega
    have hq2a : q2 ≤ q1 + 1 := by omega
    have hq2b : q1 + 1 ≤ q2 := by omega
    have hqI : (q1 : Int) ≤ 2000001 := by omega
    have hq2I : (q2 : Int) ≤ 2000002 := by omega
    clear hq1 hq2
    by_cases hA : q1 < m
    · by_cases hB : q2 < m
      · cases hl1 : lessA dk[q2]! dk[q1]!
        · have HS1 := Lib.hid (asib_two (i := i) (q1 := q1) (q2 := q2) (by omega) (by omega) m hl1)
          have HL1 := Lib.hid hl1
          clear hl1
          cases hl : lessA dk[q1]! dk[i]!
          · have HE : Hid (DownInv lessA d m i0 → Heap lessA dk m) := fun hd => down_stop1 lessA_wk (HI.out hd) HS1.out hl
            have HL := Lib.hid hl
            clear hl
            go_wp2_with fail
            refine (aless_own wr base a rb N c q2 q1 dk H.out (by omega) (by omega)).mono ?_
            rintro e w7 ⟨rfl, hb⟩
            rw [HL1.out]
            have H7 := Lib.hid (H.out.below hb)
            have HG7 := Lib.hid (HG.out.andBelow hb)
            clear hb hml hc
            have hc := H7.out.cell
            have hml := ameth_less hc
            go_wp2_with fail
            refine (aless_own w7 base a rb N c q1 i dk H7.out (by omega) (by omega)).mono ?_
            rintro e w8 ⟨rfl, hb⟩
            rw [HL.out]
            have H8 := Lib.hid (H7.out.below hb)
            have HG8 := Lib.hid (HG7.out.andBelow hb)
            clear hb hml hc
            go_wp2_with fail
            go_ret
            exact ⟨_, rfl, fun hk => (by have h1 := (HKID.out hk).1; simp; omega), dk, H8.out, HE.out, fun hk => (HKID.out hk).2, HP.out, HK.out, HG8.out⟩
          · have HST := Lib.hid (fun hd : DownInv lessA d m i0 => down_step lessA_wk (HI.out hd) (c := q1) (by omega) (by omega) (by omega) (by rw [H.out.size]; omega) HS1.out hl)
            have HL := Lib.hid hl
            clear hl
            go_wp2_with fail
            refine (aless_own wr base a rb N c q2 q1 dk H.out (by omega) (by omega)).mono ?_
            rintro e w7 ⟨rfl, hb⟩
            rw [HL1.out]
            have H7 := Lib.hid (H.out.below hb)
            have HG7 := Lib.hid (HG.out.andBelow hb)
            clear hb hml hc
            have hc := H7.out.cell
            have hml := ameth_less hc
            go_wp2_with fail
            refine (aless_own w7 base a rb N c q1 i dk H7.out (by omega) (by omega)).mono ?_
            rintro e w8 ⟨rfl, hb⟩
            rw [HL.out]
            have H8 := Lib.hid (H7.out.below hb)
            have HG8 := Lib.hid (HG7.out.andBelow hb)
            have hms := ameth_swap H8.out.cell
            clear hb hml hc
            go_wp2_with fail
            refine (aswap_own w8 base a rb N c i q1 dk H8.out (by omega) (by omega) (by omega)).mono ?_
            rintro e w9 ⟨rfl, ho, hg⟩
            have H9 := Lib.hid ho
            have HG9 := Lib.hid (HG8.out.trans hg (fun _ _ k => Ft.perm HP.out k))
            clear ho hg hms
            go_wp2_with fail
            go_roundg (gk - 1)
            case measure => omega
            case rel =>
              refine ⟨q1, swp dk i q1, rfl, by omega, by omega, by omega, H9.out, HST.out, fun hk => (by have h1 := HKID.out hk; have h2 := hk q1 (by omega) (by omega) (by have := h1.1; omega); rw [← h1.2, ← h1.1, HL.out] at h2; cases h2), ?_, ?_, HG9.out⟩
              · exact (swp_perm (by rw [H8.out.size]; omega) (by rw [H8.out.size]; omega)).trans HP.out
              · intro k hk
                rw [swp_at (by rw [H8.out.size]; omega) (by rw [H8.out.size]; omega), if_neg (by omega), if_neg (by omega)]
                exact HK.out k hk
        · have HS1 := Lib.hid (asib_one (i := i) (q1 := q1) (q2 := q2) (by omega) (by omega) m hl1)
          have HL1 := Lib.hid hl1
          clear hl1
          cases hl : lessA dk[q2]! dk[i]!
          · have HE : Hid (DownInv lessA d m i0 → Heap lessA dk m) := fun hd => down_stop1 lessA_wk (HI.out hd) HS1.out hl
            have HL := Lib.hid hl
            clear hl
            go_wp2_with fail
            refine (aless_own wr base a rb N c q2 q1 dk H.out (by omega) (by omega)).mono ?_
            rintro e w7 ⟨rfl, hb⟩
            rw [HL1.out]
            have H7 := Lib.hid (H.out.below hb)
            have HG7 := Lib.hid (HG.out.andBelow hb)
            clear hb hml hc
            have hc := H7.out.cell
            have hml := ameth_less hc
            go_wp2_with fail
            refine (aless_own w7 base a rb N c q2 i dk H7.out (by omega) (by omega)).mono ?_
            rintro e w8 ⟨rfl, hb⟩
            rw [HL.out]
            have H8 := Lib.hid (H7.out.below hb)
            have HG8 := Lib.hid (HG7.out.andBelow hb)
            clear hb hml hc
            go_wp2_with fail
            go_ret
            exact ⟨_, rfl, fun hk => (by have h1 := (HKID.out hk).1; simp; omega), dk, H8.out, HE.out, fun hk => (HKID.out hk).2, HP.out, HK.out, HG8.out⟩
          · have HST := Lib.hid (fun hd : DownInv lessA d m i0 => down_step lessA_wk (HI.out hd) (c := q2) (by omega) (by omega) (by omega) (by rw [H.out.size]; omega) HS1.out hl)
            have HL := Lib.hid hl
            clear hl
            go_wp2_with fail
            refine (aless_own wr base a rb N c q2 q1 dk H.out (by omega) (by omega)).mono ?_
            rintro e w7 ⟨rfl, hb⟩
            rw [HL1.out]
            have H7 := Lib.hid (H.out.below hb)
            have HG7 := Lib.hid (HG.out.andBelow hb)
            clear hb hml hc
            have hc := H7.out.cell
            have hml := ameth_less hc
            go_wp2_with fail
            refine (aless_own w7 base a rb N c q2 i dk H7.out (by omega) (by omega)).mono ?_
            rintro e w8 ⟨rfl, hb⟩
            rw [HL.out]
            have H8 := Lib.hid (H7.out.below hb)
            have HG8 := Lib.hid (HG7.out.andBelow hb)
            have hms := ameth_swap H8.out.cell
            clear hb hml hc
            go_wp2_with fail
            refine (aswap_own w8 base a rb N c i q2 dk H8.out (by omega) (by omega) (by omega)).mono ?_
            rintro e w9 ⟨rfl, ho, hg⟩
            have H9 := Lib.hid ho
            have HG9 := Lib.hid (HG8.out.trans hg (fun _ _ k => Ft.perm HP.out k))
            clear ho hg hms
            go_wp2_with fail
            go_roundg (gk - 1)
            case measure => omega
            case rel =>
              refine ⟨q2, swp dk i q2, rfl, by omega, by omega, by omega, H9.out, HST.out, fun hk => (by have h1 := HKID.out hk; have h2 := hk q2 (by omega) (by omega) (by have := h1.1; omega); rw [← h1.2, ← h1.1, HL.out] at h2; cases h2), ?_, ?_, HG9.out⟩
              · exact (swp_perm (by rw [H8.out.size]; omega) (by rw [H8.out.size]; omega)).trans HP.out
              · intro k hk
                rw [swp_at (by rw [H8.out.size]; omega) (by rw [H8.out.size]; omega), if_neg (by omega), if_neg (by omega)]
                exact HK.out k hk
      · have HS1 := Lib.hid (asib_none (d := dk) (i := i) (q1 := q1) (q2 := q2) (by omega) (by omega) (by omega : m ≤ q2))
        cases hl : lessA dk[q1]! dk[i]!
        · have HE : Hid (DownInv lessA d m i0 → Heap lessA dk m) := fun hd => down_stop1 lessA_wk (HI.out hd) HS1.out hl
          have HL := Lib.hid hl
          clear hl
          go_wp2_with fail
          refine (aless_own wr base a rb N c q1 i dk H.out (by omega) (by omega)).mono ?_
          rintro e w8 ⟨rfl, hb⟩
          rw [HL.out]
          have H8 := Lib.hid (H.out.below hb)
          have HG8 := Lib.hid (HG.out.andBelow hb)
          clear hb hml hc
          go_wp2_with fail
          go_ret
          exact ⟨_, rfl, fun hk => (by have h1 := (HKID.out hk).1; simp; omega), dk, H8.out, HE.out, fun hk => (HKID.out hk).2, HP.out, HK.out, HG8.out⟩
        · have HST := Lib.hid (fun hd : DownInv lessA d m i0 => down_step lessA_wk (HI.out hd) (c := q1) (by omega) (by omega) (by omega) (by rw [H.out.size]; omega) HS1.out hl)
          have HL := Lib.hid hl
          clear hl
          go_wp2_with fail
          refine (aless_own wr base a rb N c q1 i dk H.out (by omega) (by omega)).mono ?_
          rintro e w8 ⟨rfl, hb⟩
          rw [HL.out]
          have H8 := Lib.hid (H.out.below hb)
          have HG8 := Lib.hid (HG.out.andBelow hb)
          have hms := ameth_swap H8.out.cell
          clear hb hml hc
          go_wp2_with fail
          refine (aswap_own w8 base a rb N c i q1 dk H8.out (by omega) (by omega) (by omega)).mono ?_
          rintro e w9 ⟨rfl, ho, hg⟩
          have H9 := Lib.hid ho
          have HG9 := Lib.hid (HG8.out.trans hg (fun _ _ k => Ft.perm HP.out k))
          clear ho hg hms
          go_wp2_with fail
          go_roundg (gk - 1)
          case measure => omega
          case rel =>
            refine ⟨q1, swp dk i q1, rfl, by omega, by omega, by omega, H9.out, HST.out, fun hk => (by have h1 := HKID.out hk; have h2 := hk q1 (by omega) (by omega) (by have := h1.1; omega); rw [← h1.2, ← h1.1, HL.out] at h2; cases h2), ?_, ?_, HG9.out⟩
            · exact (swp_perm (by rw [H8.out.size]; omega) (by rw [H8.out.size]; omega)).trans HP.out
            · intro k hk
              rw [swp_at (by rw [H8.out.size]; omega) (by rw [H8.out.size]; omega), if_neg (by omega), if_neg (by omega)]
              exact HK.out k hk
    · have HE : Hid (DownInv lessA d m i0 → Heap lessA dk m) := fun hd => down_stop0 (HI.out hd) (by omega)
      clear hml hc
      go_wp2_with fail
      go_ret
      exact ⟨_, rfl, fun hk => (by have h1 := (HKID.out hk).1; simp; omega), dk, H.out, HE.out, fun hk => (HKID.out hk).2, HP.out, HK.out, HG.out⟩
end Go.Proofs.Ytfmfamnngfanfaa
