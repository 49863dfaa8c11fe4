/-
  WALK of WindowOnce.
-/
import Derived.Test.YtjgkfoldbnjpeaaWinKeep
import Derived.Deep.CutRange
namespace Go.Proofs.Ytjgkfoldbnjpeaa
open Go.RowKit

def WOnce (w : World) (base K X n gk : Nat) (vd vi : Value) (wr : World) : Prop :=
  ∃ (i : Nat) (A' : Option Addr) (n' c' : Nat) (W : Wn) (Ad : Option Addr) (nd cd : Nat) (l : List Nat), gk + i = n ∧ vi = .int .i64 (i : Int) ∧ vd = .slice Ad nd cd ∧ On w base X A' n' c' W Ad nd cd l wr ∧ Fine W K (min i 80) ∧ (∀ d ∈ l, W.D d) ∧ l.length ≤ i + 1 ∧ i ≤ 80
def WOnce2 (wr : World) (m gk : Nat) (vi : Value) (w' : World) : Prop := ∃ i : Nat, gk + i = m ∧ vi = .int .i64 (i : Int) ∧ RowKit.Below wr.heap.size wr w'
theorem num_facts {x : Aw} (hx : AwOk x) {W : Wn} {K i : Nat} (hF : Fine W K (min i 80)) : numW x W.low < max (W.low + 256) 2305843009213693952 ∧ numW x W.low < two64 ∧ W.low < 4611686018427387904 := by
  have h1 := numW_lt hx (low := W.low)
  have h2 := hF.low
  generalize numW x W.low = k at *
  have h3 : k < 2305843009213693952 + 256 * 81 := by omega
  exact ⟨h1, by unfold two64; omega, by omega⟩
/-- Behind the act. -/
def OnceCut (w : World) (base K X i : Nat) (vd : Value) (wr : World) : Prop :=
  ∃ (A' : Option Addr) (n' c' : Nat) (W : Wn) (Ad : Option Addr) (nd cd : Nat) (l : List Nat), vd = .slice Ad nd cd ∧ On w base X A' n' c' W Ad nd cd l wr ∧ Fine W K (i + 1) ∧ (∀ d ∈ l, W.D d) ∧ l.length ≤ i + 2
theorem num_small {k low i : Nat} (h : k < max (low + 256) 2305843009213693952) (h2 : low ≤ 2305843009213693952 + 256 * min i 80) : k < 4611686018427380000 ∧ low < 4611686018427380000 := by
  have h3 : k < 2305843009213693952 + 256 * 81 := by omega
  exact ⟨by omega, by omega⟩
theorem lit_ownN (w : World) (x : Nat) : OwnN (w.alloc (.cells #[.int .u64 (x : Int)] 25)) w.heap.size (some ⟨w.heap.size, 0, none⟩) 1 1 [x] :=
  ⟨rfl, .inr ⟨w.heap.size, 1, _, rfl, Nat.le_refl _, heap_alloc_new w _, Nat.le_refl _, by unfold maxLen; omega, rfl, rfl⟩⟩
set_option maxRecDepth 100000 in
set_option maxHeartbeats 4000000 in
theorem windowOnce_walk (w : World) (wd : Nat) (hwd : wd < 65536) (A : Option Addr) (n c : Nat) (L : List Aw) (hL : Aws w w.heap.size A n c L) :
    Calls Try.prog 10 #[.int .u16 (wd : Int), .slice A n c] w (Says w (.bool true)) := by
  obtain ⟨i0, hi0, hz0, hz1, hz2⟩ := info_parts u64_info
  obtain ⟨K, hK⟩ : ∃ K, K = 1 + wd % 64 := ⟨_, rfl⟩
  have hKI : 1 + (wd : Int) % 64 = (K : Int) := by omega
  have HK : Hid (1 ≤ K ∧ K ≤ 64) := by exact ⟨by omega, by omega⟩
  have HLA := Lib.hid hL
  have hnm : n ≤ 9223372036854775807 := Nat.le_trans hL.sn.le hL.sn.max
  clear hL hK
  go_enter Try.func10, Try.ntmps10
  go_wp2_with fail
  refine (awake15_any w).mono ?_
  rintro e w1 ⟨rfl, hb1⟩
  have HB1 := Lib.hid hb1
  clear hb1
  go_wp2_with fail
  try rw [hKI]
  refine (new_any w1 K (by have := HK.out; unfold two64; omega)).mono ?_
  rintro e w2 hs
  obtain ⟨A2, n2, c2, rfl, hw2, hb2⟩ := hs.ex
  clear hs
  have hkp := Kept.made hw2 (HB1.out.trans (hb2.mono HB1.out.size))
  have HX : Hid (w.heap.size ≤ w2.heap.size) := Nat.le_trans HB1.out.size hb2.size
  have HF : Hid (Fine (newW K) K 0) := ⟨new_ok HK.out.1 (by have := HK.out.2; omega), rfl, by show 0 ≤ _; omega⟩
  have HD : Hid (∀ d ∈ [0], (newW K).D d) := fun d hd => by rw [List.mem_singleton] at hd; subst hd; exact (new_D K 0).2 rfl
  have HKP := Lib.hid hkp
  clear hw2 hb2 hkp HB1
  go_wp2_with fail
  generalize newW K = W2 at *
  have hz3 : (w2.alloc (.cells #[.int .u64 (W2.low : Int), .int .u64 (W2.width : Int), .slice A2 n2 c2] 84)).heap.size = w2.heap.size + 1 := by simp
  generalize w2.alloc (.cells #[.int .u64 (W2.low : Int), .int .u64 (W2.width : Int), .slice A2 n2 c2] 84) = w3 at *
  generalize w2.heap.size = X at *
  have HON : Hid (On w w3.heap.size X A2 n2 c2 W2 (some ⟨w3.heap.size, 0, none⟩) 1 1 [0] (w3.alloc (.cells #[.int .u64 0] 25))) :=
    ⟨HKP.out.next (below_box w3 _), lit_ownN w3 0, fun g e => by
      simp [Value.ownBlock] at e
      subst e
      exact ⟨by have := HKP.out.lt; omega, fun b o eb => by have := HKP.out.at_.st.lies b o eb; omega⟩, HX.out, HKP.out.bel.size, by simp⟩
  have HBS : Hid (w.heap.size ≤ w3.heap.size) := HKP.out.bel.size
  generalize w3.alloc (.cells #[.int .u64 0] 25) = w4 at *
  rw [hz3] at HON HBS
  obtain ⟨base, hbase⟩ : ∃ b, X + 1 = b := ⟨_, rfl⟩
  rw [hbase] at HON HBS ⊢
  clear hz3 hbase
  go_loopg [7, 25] n (fun gk vd vi wr => WOnce w base K X n gk vd vi wr)
  case atStart => exact ⟨0, A2, n2, c2, W2, _, 1, 1, [0], rfl, rfl, rfl, HON.out, HF.out, HD.out, by simp, by omega⟩
  case round =>
    clear HKP HF HD HON
    obtain ⟨i, A', n', c', W, Ad, nd, cd, l, hgk, rfl, rfl, hon, hfine, hd, hll, hi80⟩ := hrel
    have HON := Lib.hid hon
    have HF := Lib.hid hfine
    have HD := Lib.hid hd
    have HLL := Lib.hid hll
    clear hon hfine hd hll
    by_cases hlt : i < n
    · obtain ⟨bb, o, x, rfl, hbb, hx, c0, c1, c2', hok⟩ := (HLA.out.below HON.out.kp.bel (Nat.le_refl _)).at_ hlt
      have HOK := Lib.hid hok
      clear hx hok
      have hltI : (i : Int) < (n : Int) := by omega
      have honx := HON.out.next (below_box wr (.cells #[.int .u8 (x.d : Int), .int .u8 (x.n : Int), .int .u64 (x.m : Int)] 89))
      obtain ⟨hbx, y0, y1, y2⟩ := box_cells wr (.int .u8 (x.d : Int)) (.int .u8 (x.n : Int)) (.int .u64 (x.m : Int)) 89
      have HOX := Lib.hid honx
      have HXW : Hid (X < wr.heap.size) := HON.out.kp.lt
      have HBX := Lib.hid hbx
      clear hbx honx
      by_cases h80 : i < 80
      · have h80I : ¬ (80 : Int) ≤ (i : Int) := by omega
        have hx0 := HOX.out.kp.c0
        have hx1 := HOX.out.kp.c1
        have hx2 := HOX.out.kp.c2
        obtain ⟨k, hk⟩ : ∃ k, k = numW x W.low := ⟨_, rfl⟩
        have HNW : Hid (k < max (W.low + 256) 2305843009213693952 ∧ k < two64 ∧ W.low < 4611686018427387904) := by rw [hk]; exact num_facts HOK.out HF.out
        have hnum := number_any (wr.alloc (.cells #[.int .u8 (x.d : Int), .int .u8 (x.n : Int), .int .u64 (x.m : Int)] 89)) x HOK.out W.low HNW.out.2.2
        rw [← hk] at hnum
        have HNUM := Lib.hid hnum
        clear hnum hk
        go_wp2_with fail
        generalize wr.alloc (.cells #[.int .u8 (x.d : Int), .int .u8 (x.n : Int), .int .u64 (x.m : Int)] 89) = wx at *
        generalize wr.heap.size = Y at *
        refine HNUM.out.mono ?_
        rintro e w5 ⟨rfl, hb5⟩
        have HO5 := Lib.hid (HOX.out.next hb5)
        have hy0 := (hb5.cell (p := ⟨Y, 0, none⟩) (World.block_lt_of_cell? _ _ y0)).trans y0
        have hy1 := (hb5.cell (p := ⟨Y, 1, none⟩) (World.block_lt_of_cell? _ _ y1)).trans y1
        have hy2 := (hb5.cell (p := ⟨Y, 2, none⟩) (World.block_lt_of_cell? _ _ y2)).trans y2
        clear hb5 hx0 hx1 hx2 HOX HNUM y0 y1 y2
        have hx0 := HO5.out.kp.c0
        have hx1 := HO5.out.kp.c1
        have hx2 := HO5.out.kp.c2
        have HSUM : Hid (W.low + W.width < two64) := by have h1 := HF.out.low; have h2 := HF.out.width; have h3 := HK.out; show _ < _; unfold two64; omega
        have HNN : Hid (n' ≤ 64) := by have h1 := HO5.out.kp.at_.n_le HF.out.ok; have h2 := HF.out.width; have h3 := HK.out; show n' ≤ 64; omega
        obtain ⟨tk, htk⟩ : ∃ tk, takesW W k = tk := ⟨_, rfl⟩
        have ht := takes_b w5 A' n' c' W HO5.out.kp.at_ HSUM.out (by have := HNN.out; omega) k tk htk
        have HT := Lib.hid ht
        have HTK := Lib.hid htk
        clear ht htk
        go_wp2_with fail
        refine HT.out.mono ?_
        rintro e w6 ⟨rfl, hb6⟩
        have HO6 := Lib.hid (HO5.out.next hb6)
        have hz0 := (hb6.cell (p := ⟨Y, 0, none⟩) (World.block_lt_of_cell? _ _ hy0)).trans hy0
        have hz1 := (hb6.cell (p := ⟨Y, 1, none⟩) (World.block_lt_of_cell? _ _ hy1)).trans hy1
        have hz2 := (hb6.cell (p := ⟨Y, 2, none⟩) (World.block_lt_of_cell? _ _ hy2)).trans hy2
        clear hb6 hx0 hx1 hx2 HO5 HT hy0 hy1 hy2
        have hp := puts_any w6 x HOK.out
        have HP := Lib.hid hp
        clear hp
        go_wp2_with fail
        refine HP.out.mono ?_
        rintro e w7 ⟨rfl, hb7⟩
        have HO7 := Lib.hid (HO6.out.next hb7)
        have HSM := Lib.hid (num_small HNW.out.1 HF.out.low)
        clear hb7 HO6 HP hz0 hz1 hz2
        go_upto_if 40 with fail
        go_cut [7] from 26 to 96 (fun vd wx => OnceCut w base K X i vd wx)
        case first =>
          have hx0 := HO7.out.kp.c0
          have hx1 := HO7.out.kp.c1
          have hx2 := HO7.out.kp.c2
          cases hput : putsW x
          · have HS := Lib.hid (skip_spec HF.out.ok HSM.out.2 k HSM.out.1)
            go_wp2_with fail
            refine (skip_b w7 A' n' c' W HO7.out.kp.at_ HF.out.ok (by have h1 := HF.out.width; have h2 := HK.out; omega) k HNW.out.2.1).mono ?_
            rintro e w8 ⟨A8, n8, c8, rfl, hw8, hp8, hb8⟩
            have HO8 := Lib.hid (HO7.out.next hb8)
            have HO9 := Lib.hid (HO8.out.store HO7.out.kp.lt HO7.out.own_lt hw8 hp8)
            have HF9 := Lib.hid (HF.out.skip (k := k) (by omega) HK.out.2 HNW.out.1)
            clear hx0 hx1 hx2 hw8 hp8 hb8 HO7
            have hx0 := HO8.out.kp.c0
            have hx1 := HO8.out.kp.c1
            have hx2 := HO8.out.kp.c2
            have hf0 := HO8.out.kp.frz 0
            have hf1 := HO8.out.kp.frz 1
            have hf2 := HO8.out.kp.frz 2
            generalize skipW W k = W8 at *
            by_cases hk0 : k = 0
            · have hk0I : ¬ (0 : Int) < (k : Int) := by omega
              clear hk0
              go_wp2_with fail
              go_meet
              case rel => exact ⟨A8, n8, c8, W8, Ad, nd, cd, l, rfl, HO9.out, HF9.out.mono (by omega), fun d hd => (HS.out.2.1 d).2 (.inl (HD.out d hd)), by have := HLL.out; omega⟩
            · have hk0I : (0 : Int) < (k : Int) := by omega
              obtain ⟨u, hu⟩ : ∃ u, u = k - 1 := ⟨_, rfl⟩
              have hkw : IntKind.u64.wrap ((k : Int) - 1) = (u : Int) := by have := HNW.out.2.1; unfold two64 at this; rw [IntKind.wrap_u64]; omega
              have hk1 : (1 : Int) ≤ (k : Int) := by omega
              have HU : Hid (u < k) := by show u < k; omega
              have HOA := Lib.hid (HO9.out.next (below_box (set3 w8 X (.int .u64 (W8.low : Int)) (.int .u64 (W8.width : Int)) (.slice A8 n8 c8)) (.cells #[.int .u64 (u : Int)] 25)))
              have hsq := lit_nums (set3 w8 X (.int .u64 (W8.low : Int)) (.int .u64 (W8.width : Int)) (.slice A8 n8 c8)) [u] 1 rfl (by unfold maxLen; omega)
              rw [set3_size] at hsq
              have HSQ := Lib.hid hsq
              have HND : Hid (nd ≤ 81) := by have := HOA.out.own.len; have := HLL.out; show nd ≤ 81; omega
              clear hk0 hu hsq
              go_wp2_with (at_builtin; refine wpList_append_dstN _ rfl (.tmp 70) (.tmp 73) 22 22 rfl base 25 i0 _ 1 8 Try.underlying22 hi0 hz0 hz1 hz2 rfl Ad nd cd (nvs l) rfl (.inr HOA.out.own) _ 1 (nvs [u]) rfl (HSQ.out.src Try.underlying22 (nvs_one _)) (by have := HND.out; omega) (by have := HND.out; omega) HOA.out.b2 ?_; intro Ae ce we h1 h2 h3 h4 h5 h6; have HOE := Lib.hid (HOA.out.more h3 h4 h5 h6); clear h1 h2 h3 h4 h5 h6)
              go_meet
              case rel => exact ⟨A8, n8, c8, W8, Ae, nd + 1, ce, l ++ [u], by go_num, HOE.out, HF9.out.mono (by omega), fun d hd => (HS.out.2.1 d).2 (by
                rcases List.mem_append.1 hd with hd | hd
                · exact .inl (HD.out d hd)
                · rw [List.mem_singleton] at hd; subst hd; exact .inr HU.out), by have := HLL.out; simp; omega⟩
          · have HS := Lib.hid (put_spec HF.out.ok HSM.out.2 k HNW.out.2.1)
            go_wp2_with fail
            refine (put_b w7 A' n' c' W HO7.out.kp.at_ HF.out.ok (by have h1 := HF.out.width; have h2 := HK.out; omega) k HNW.out.2.1).mono ?_
            rintro e w8 ⟨A8, n8, c8, rfl, hw8, hp8, hb8⟩
            have HO8 := Lib.hid (HO7.out.next hb8)
            have ho9 := HO8.out.store HO7.out.kp.lt HO7.out.own_lt hw8 hp8
            have HF9 := Lib.hid (HF.out.put (k := k) (by omega) HK.out.2 HNW.out.2.1)
            clear hx0 hx1 hx2 hw8 hp8 hb8 HO7
            have hx0 := HO8.out.kp.c0
            have hx1 := HO8.out.kp.c1
            have hx2 := HO8.out.kp.c2
            have hf0 := HO8.out.kp.frz 0
            have hf1 := HO8.out.kp.frz 1
            have hf2 := HO8.out.kp.frz 2
            rw [HTK.out] at HS
            have HS2 : Hid (tk = true → (putW W k).D k) := fun h => (HS.out.2.1 k).2 (.inr ⟨h, rfl⟩)
            have HSW : Hid ((putW W k).low + (putW W k).width < two64) := by have h1 := HF9.out.low; have h2 := HF9.out.width; have h3 := HK.out; show _ < _; unfold two64; omega
            have HN8 : Hid (n8 ≤ 64) := by have h1 := ho9.kp.at_.n_le HF9.out.ok; have h2 := HF9.out.width; have h3 := HK.out; show n8 ≤ 64; omega
            generalize putW W k = W8 at *
            have hy0 := ho9.kp.c0
            have hy1 := ho9.kp.c1
            have hy2 := ho9.kp.c2
            have hzz : (set3 w8 X (.int .u64 (W8.low : Int)) (.int .u64 (W8.width : Int)) (.slice A8 n8 c8)).heap.size = w8.heap.size := set3_size _ _ _ _ _
            obtain ⟨hb, hhb⟩ : ∃ hb, hadW W8 k = hb := ⟨_, rfl⟩
            have hh := had_b _ A8 n8 c8 W8 ho9.kp.at_ (by have := HN8.out; omega) k hb hhb
            have HO9 := Lib.hid ho9
            have HH := Lib.hid hh
            unfold set3 at HH hy0 hy1 hy2
            clear hh ho9 hzz
            go_wp2_with fail
            refine HH.out.mono ?_
            rintro e w10 ⟨rfl, hb10⟩
            have HO10 := Lib.hid (HO9.out.next hb10)
            clear hx0 hx1 hx2 hf0 hf1 hf2 hy0 hy1 hy2 hb10 HH
            have hx0 := HO10.out.kp.c0
            have hx1 := HO10.out.kp.c1
            have hx2 := HO10.out.kp.c2
            cases tk
            · cases hb <;> (go_wp2_with fail; go_meet; case rel => exact ⟨A8, n8, c8, W8, Ad, nd, cd, l, rfl, HO10.out, HF9.out.mono (by omega), fun d hd => (HS.out.2.1 d).2 (.inl (HD.out d hd)), by have := HLL.out; omega⟩)
            · have hk8 := HS2.out rfl
              obtain rfl : hb = true := by rw [← hhb]; exact (hadW_iff HF9.out.ok.ok k).2 hk8
              have ht8 := takes_b w10 A8 n8 c8 W8 HO10.out.kp.at_ HSW.out (by have := HN8.out; omega) k false (takesW_false HF9.out.ok.ok hk8)
              have HT8 := Lib.hid ht8
              have HK8 := Lib.hid hk8
              clear ht8 hk8 hhb
              go_wp2_with fail
              refine HT8.out.mono ?_
              rintro e w11 ⟨rfl, hb11⟩
              have HO11 := Lib.hid (HO10.out.next hb11)
              clear hb11 HO10 HT8 hx0 hx1 hx2
              have HOA := Lib.hid (HO11.out.next (below_box w11 (.cells #[.int .u64 (k : Int)] 25)))
              have HSQ := Lib.hid (lit_nums w11 [k] 1 rfl (by unfold maxLen; omega))
              have HND : Hid (nd ≤ 81) := by have := HOA.out.own.len; have := HLL.out; show nd ≤ 81; omega
              go_wp2_with (at_builtin; refine wpList_append_dstN _ rfl (.tmp 61) (.tmp 63) 22 22 rfl base 25 i0 _ 1 8 Try.underlying22 hi0 hz0 hz1 hz2 rfl Ad nd cd (nvs l) rfl (.inr HOA.out.own) _ 1 (nvs [k]) rfl (HSQ.out.src Try.underlying22 (nvs_one _)) (by have := HND.out; omega) (by have := HND.out; omega) HOA.out.b2 ?_; intro Ae ce we h1 h2 h3 h4 h5 h6; have HOE := Lib.hid (HOA.out.more h3 h4 h5 h6); clear h1 h2 h3 h4 h5 h6)
              go_meet
              case rel => exact ⟨A8, n8, c8, W8, Ae, nd + 1, ce, l ++ [k], by go_num, HOE.out, HF9.out.mono (by omega), fun d hd => (by
                rcases List.mem_append.1 hd with hd | hd
                · exact (HS.out.2.1 d).2 (.inl (HD.out d hd))
                · rw [List.mem_singleton] at hd; subst hd; exact HK8.out), by have := HLL.out; simp; omega⟩
        case rest =>
          clear HO7 HD HF HON HOK HNN HSUM HTK HNW HSM
          obtain ⟨A8, n8, c8, W8, Ae, ne, ce, l8, rfl, hon8, hf8, hd8, hl8⟩ := hcut
          have HON := Lib.hid hon8
          have HF := Lib.hid hf8
          have HD := Lib.hid hd8
          have HL8 := Lib.hid hl8
          have HSUM : Hid (W8.low + W8.width < two64) := by have h1 := hf8.low; have h2 := hf8.width; have h3 := HK.out; show _ < _; unfold two64; omega
          have HNN : Hid (n8 ≤ 64) := by have h1 := hon8.kp.at_.n_le hf8.ok; have h2 := hf8.width; have h3 := HK.out; show n8 ≤ 64; omega
          have HE : Hid (l8.length = ne) := hon8.own.len
          have HNE : Hid (ne ≤ 82) := by have := HE.out; show ne ≤ 82; omega
          clear hon8 hf8 hd8 hl8
          go_wp2_with fail
          go_loopg [77] ne (fun gk vi w' => WOnce2 wc ne gk vi w')
          case atStart => exact ⟨0, rfl, rfl, Below.refl _ _⟩
          case round =>
            obtain ⟨j, hgj, rfl, hbj⟩ := hrel
            have HO := Lib.hid (HON.out.next hbj)
            have HBJ := Lib.hid hbj
            have hne82 := HNE.out
            clear hbj
            by_cases hj : j < ne
            · have hjI : (j : Int) < (ne : Int) := by omega
              obtain ⟨b2, o2, d, rfl, hb2, hdx, hcd⟩ := nv_at (Sn.of_own HO.out.own) hj
              have HDD := Lib.hid (HD.out d (List.mem_of_getElem? hdx))
              have h1 := had_b wr A8 n8 c8 W8 HO.out.kp.at_ (by have := HNN.out; omega) d true ((hadW_iff HF.out.ok.ok d).2 HDD.out)
              have H1 := Lib.hid h1
              clear h1 hdx
              have hx0 := HO.out.kp.c0
              have hx1 := HO.out.kp.c1
              have hx2 := HO.out.kp.c2
              go_wp2_with fail
              refine H1.out.mono ?_
              rintro e w10 ⟨rfl, hb10⟩
              have HO10 := Lib.hid (HO.out.next hb10)
              have h1 := takes_b w10 A8 n8 c8 W8 HO10.out.kp.at_ HSUM.out (by have := HNN.out; omega) d false (takesW_false HF.out.ok.ok HDD.out)
              have H2 := Lib.hid h1
              have HB10 := Lib.hid (HBJ.out.trans (hb10.mono HBJ.out.size))
              clear h1 hb10 hx0 hx1 hx2 HO H1
              have hx0 := HO10.out.kp.c0
              have hx1 := HO10.out.kp.c1
              have hx2 := HO10.out.kp.c2
              go_wp2_with fail
              refine H2.out.mono ?_
              rintro e w11 ⟨rfl, hb11⟩
              have HB11 := Lib.hid (HB10.out.trans (hb11.mono HB10.out.size))
              go_wp2_with fail
              go_roundg (gk - 1)
              case measure => omega
              case rel => exact ⟨j + 1, by omega, by go_num, HB11.out⟩
            · have hjI : ¬ (j : Int) < (ne : Int) := by omega
              have hc := count_any wr A8 n8 c8 W8.L HO.out.kp.at_.st.rs HF.out.ok.ok.can
              have hcn := HF.out.ok.cnt.2
              rw [HF.out.width] at hcn
              generalize cntL W8.L = cn at *
              have HC := Lib.hid hc
              have hcnI : ¬ (K : Int) ≤ (cn : Int) := by omega
              have hx2 := HO.out.kp.c2
              clear hc hcn
              go_wp2_with fail
              refine HC.out.mono ?_
              rintro e w12 ⟨rfl, hb12⟩
              have HO12 := Lib.hid (HO.out.next hb12)
              go_wp2_with fail
              go_roundg (n - (i + 1))
              case measure => omega
              case rel => exact ⟨i + 1, A8, n8, c8, W8, _, ne, ce, l8, by omega, by go_num, rfl, HO12.out, HF.out.mono (by omega), HD.out, by have := HL8.out; omega, by omega⟩
      · have h80I : (80 : Int) ≤ (i : Int) := by omega
        go_wp2_with fail
        go_ret
        exact ⟨rfl, HOX.out.kp.bel⟩
    · go_wp2_with fail
      go_ret
      exact ⟨rfl, HON.out.kp.bel⟩
theorem windowOnce_law (w : World) (a : Int) (ha : 0 ≤ a ∧ a ≤ 65535) (A : Option Addr) (n c : Nat) (L : List Aw) (hL : Aws w w.heap.size A n c L) :
    Calls Try.prog 10 #[.int .u16 a, .slice A n c] w (Says w (.bool true)) := by
  obtain ⟨x, rfl⟩ := Int.eq_ofNat_of_zero_le ha.1
  exact windowOnce_walk w x (by omega) A n c L hL
end Go.Proofs.Ytjgkfoldbnjpeaa
