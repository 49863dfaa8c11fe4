/-
  WALK of WindowOrders.
-/
import Derived.Test.YtjgkfoldbnjpeaaWinTook
import Derived.Deep.CutRange
namespace Go.Proofs.Ytjgkfoldbnjpeaa
open Go.RowKit

def WOrd1 (w : World) (base K X n gk : Nat) (vt vi : Value) (wr : World) : Prop :=
  ∃ (i : Nat) (A' : Option Addr) (n' c' : Nat) (W : Wn) (At : Option Addr) (nt ct : Nat) (l : List Nat), gk + i = n ∧ vi = .int .i64 (i : Int) ∧ vt = .slice At nt ct ∧ On w base X A' n' c' W At nt ct l wr ∧ Mt W K l ∧ l.length ≤ min i 60
def WOrd2 (w : World) (base X : Nat) (A' : Option Addr) (n' c' : Nat) (W : Wn) (At : Option Addr) (nt ct : Nat) (l : List Nat) (gk : Nat) (vi : Value) (wr : World) : Prop :=
  ∃ (i : Nat) (m : List Nat), gk + i = nt ∧ vi = .int .i64 (i : Int) ∧ m.Perm l ∧ On w base X A' n' c' W At nt ct m wr
def WOrd3 (wc : World) (K X : Nat) (nt : Nat) (l : List Nat) (gk : Nat) (vi : Value) (wr : World) : Prop :=
  ∃ (i : Nat) (A' : Option Addr) (n' c' : Nat) (W : Wn), gk + i = nt ∧ vi = .int .i64 (i : Int) ∧ Kept X A' n' c' W wc wr ∧ Mt W K (l.take i)
theorem rem_in {x K : Nat} (hK : 1 ≤ K) : ∃ k : Nat, 1 + (x : Int) % (K : Int) = (k : Int) ∧ 1 ≤ k ∧ k ≤ K := by
  have := Nat.mod_lt x (show K > 0 from hK)
  exact ⟨1 + x % K, by omega, by omega, by omega⟩
set_option maxRecDepth 100000 in
set_option maxHeartbeats 4000000 in
theorem windowOrders_walk (w : World) (wd : Nat) (hwd : wd < 65536) (A : Option Addr) (n c : Nat) (L : List UInt8) (hL : Sl w w.heap.size A n c L) (Ao : Option Addr) (no co : Nat) (O : List UInt8) (hO : Sl w w.heap.size Ao no co O) :
    Calls Try.prog 13 #[.int .u16 (wd : Int), .slice A n c, .slice Ao no co] w (Says w (.bool true)) := by
  obtain ⟨i0, hi0, hz0, hz1, hz2⟩ := info_parts u64_info
  obtain ⟨K, hK⟩ : ∃ K, K = 1 + wd % 64 := ⟨_, rfl⟩
  have hKI : 1 + (wd : Int) % 64 = (K : Int) := by omega
  have HK : Hid (1 ≤ K ∧ K ≤ 64) := by exact ⟨by omega, by omega⟩
  have HLA := Lib.hid hL
  have HOA := Lib.hid hO
  have hnm : n ≤ 9223372036854775807 := Nat.le_trans hL.le hL.max
  have hnom : no ≤ 9223372036854775807 := Nat.le_trans hO.le hO.max
  have hK0 : ((K : Int) == 0) = false := by simp; omega
  clear hL hK hO
  go_enter Try.func13, Try.ntmps13
  go_wp2_with fail
  refine (awake15_any w).mono ?_
  rintro e w1 ⟨rfl, hb1⟩
  have HB1 := Lib.hid hb1
  clear hb1
  go_wp2_with fail
  try rw [hKI]
  refine (new_any w1 K (by have := HK.out; unfold two64; omega)).mono ?_
  rintro e w2 hs
  obtain ⟨A2, n2, c2, rfl, hw2, hb2⟩ := hs.ex
  clear hs
  have hkp := Kept.made hw2 (HB1.out.trans (hb2.mono HB1.out.size))
  have HX : Hid (w.heap.size ≤ w2.heap.size) := Nat.le_trans HB1.out.size hb2.size
  have HM := Lib.hid (Mt.new HK.out.1 HK.out.2)
  have HKP := Lib.hid hkp
  clear hw2 hb2 hkp HB1
  go_wp2_with fail
  generalize newW K = W2 at *
  generalize w2.alloc (.cells #[.int .u64 (W2.low : Int), .int .u64 (W2.width : Int), .slice A2 n2 c2] 84) = w3 at *
  generalize w2.heap.size = X at *
  have HON : Hid (On w w3.heap.size X A2 n2 c2 W2 none 0 0 [] w3) := ⟨HKP.out, own_nilN _ _, fun g e => (by cases e), HX.out, HKP.out.bel.size, Nat.le_refl _⟩
  have HBS : Hid (w.heap.size ≤ w3.heap.size) := HKP.out.bel.size
  generalize w3.heap.size = base at *
  go_loopg [9, 28] n (fun gk vd vi wr => WOrd1 w base K X n gk vd vi wr)
  case atStart => exact ⟨0, A2, n2, c2, W2, _, 0, 0, [], rfl, rfl, rfl, HON.out, HM.out, by simp⟩
  case round =>
    clear HKP HM HON
    obtain ⟨i, A', n', c', W, At, nt, ct, l, hgk, rfl, rfl, hon, hm, hll⟩ := hrel
    have HON := Lib.hid hon
    have HM := Lib.hid hm
    have HLL := Lib.hid hll
    clear hon hm hll
    by_cases hlt : i < n
    · have hltI : (i : Int) < (n : Int) := by omega
      obtain ⟨bb, o, x, rfl, hbb, hx, hcx⟩ := (HLA.out.below HON.out.kp.bel (Nat.le_refl _)).at_ hlt
      have hx256 : x.toNat < 256 := x.toNat_lt
      generalize x.toNat = d at *
      clear hx
      by_cases h60 : i < 60
      · have h60I : (i : Int) < 60 := by omega
        obtain ⟨k, hk, hk1, hkK⟩ := rem_in (x := d) HK.out.1
        have HKR := Lib.hid (And.intro hk1 hkK)
        have hx0 := HON.out.kp.c0
        have hx1 := HON.out.kp.c1
        have hx2 := HON.out.kp.c2
        have HSUM : Hid (W.low + W.width < two64) := by have h1 := HM.out.low; have h2 := HM.out.width; have h3 := HK.out; show _ < _; unfold two64; omega
        have HNN : Hid (n' ≤ 64) := by have h1 := HON.out.kp.at_.n_le HM.out.ok; have h2 := HM.out.width; have h3 := HK.out; show n' ≤ 64; omega
        have HKL : Hid (k < two64) := by have h1 := HK.out; show k < two64; unfold two64; omega
        have HWW : Hid (W.width ≤ 400) := by have h2 := HM.out.width; have h3 := HK.out; show _ ≤ _; omega
        by_cases hkl : k ∈ l
        · have ht := takes_b wr A' n' c' W HON.out.kp.at_ HSUM.out (by have := HNN.out; omega) k false (by rw [HM.out.takes hk1 hkK]; simp [hkl])
          have HT := Lib.hid ht
          have HPW := Lib.hid (HM.out.put_old hk1 hkK hkl)
          clear ht hkl
          go_wp2_with fail
          refine HT.out.mono ?_
          rintro e w5 ⟨rfl, hb5⟩
          have HO5 := Lib.hid (HON.out.next hb5)
          have hp := put_b w5 A' n' c' W HO5.out.kp.at_ HM.out.ok HWW.out k HKL.out
          rw [HPW.out] at hp
          have HP := Lib.hid hp
          clear hx0 hx1 hx2 hb5 HT hp
          have hx0 := HO5.out.kp.c0
          have hx1 := HO5.out.kp.c1
          have hx2 := HO5.out.kp.c2
          go_wp2_with fail
          refine HP.out.mono ?_
          rintro e w8 ⟨A8, n8, c8, rfl, hw8, hp8, hb8⟩
          have HO8 := Lib.hid (HO5.out.next hb8)
          have HO9 := Lib.hid (HO8.out.store HO5.out.kp.lt HO5.out.own_lt hw8 hp8)
          clear hx0 hx1 hx2 hw8 hp8 hb8 HP
          have hx0 := HO8.out.kp.c0
          have hx1 := HO8.out.kp.c1
          have hx2 := HO8.out.kp.c2
          have hf0 := HO8.out.kp.frz 0
          have hf1 := HO8.out.kp.frz 1
          have hf2 := HO8.out.kp.frz 2
          go_wp2_with fail
          go_roundg (gk - 1)
          case measure => omega
          case rel => exact ⟨i + 1, A8, n8, c8, W, At, nt, ct, l, by omega, by go_num, rfl, HO9.out, HM.out, by have := HLL.out; omega⟩
        · have ht := takes_b wr A' n' c' W HON.out.kp.at_ HSUM.out (by have := HNN.out; omega) k true (by rw [HM.out.takes hk1 hkK]; simp [hkl])
          have HT := Lib.hid ht
          have HM2 := Lib.hid (HM.out.put hk1 hkK hkl)
          clear ht hkl
          go_wp2_with fail
          refine HT.out.mono ?_
          rintro e w5 ⟨rfl, hb5⟩
          have HO5 := Lib.hid (HON.out.next hb5)
          have HOB := Lib.hid (HO5.out.next (below_box w5 (.cells #[.int .u64 (k : Int)] 25)))
          have HSQ := Lib.hid (lit_nums w5 [k] 1 rfl (by unfold maxLen; omega))
          have HND : Hid (nt ≤ 60) := by have := HOB.out.own.len; have := HLL.out; show nt ≤ 60; omega
          clear hx0 hx1 hx2 hb5 HT
          go_wp2_with (at_builtin; refine wpList_append_dstN _ rfl (.tmp 43) (.tmp 45) 22 22 rfl base 25 i0 _ 1 8 Try.underlying22 hi0 hz0 hz1 hz2 rfl At nt ct (nvs l) rfl (.inr HOB.out.own) _ 1 (nvs [k]) rfl (HSQ.out.src Try.underlying22 (nvs_one _)) (by have := HND.out; omega) (by have := HND.out; omega) HOB.out.b2 ?_; intro Ae ce we h1 h2 h3 h4 h5 h6; have HOE := Lib.hid (HOB.out.more h3 h4 h5 h6); have hx0 := HOE.out.kp.c0; have hx1 := HOE.out.kp.c1; have hx2 := HOE.out.kp.c2; clear h1 h2 h3 h4 h5 h6)
          refine (put_b we A' n' c' W HOE.out.kp.at_ HM.out.ok HWW.out k HKL.out).mono ?_
          rintro e w8 ⟨A8, n8, c8, rfl, hw8, hp8, hb8⟩
          have HO8 := Lib.hid (HOE.out.next hb8)
          have HO9 := Lib.hid (HO8.out.store HOE.out.kp.lt HOE.out.own_lt hw8 hp8)
          clear hx0 hx1 hx2 hw8 hp8 hb8
          have hx0 := HO8.out.kp.c0
          have hx1 := HO8.out.kp.c1
          have hx2 := HO8.out.kp.c2
          have hf0 := HO8.out.kp.frz 0
          have hf1 := HO8.out.kp.frz 1
          have hf2 := HO8.out.kp.frz 2
          generalize putW W k = W8 at *
          go_wp2_with fail
          go_roundg (gk - 1)
          case measure => omega
          case rel => exact ⟨i + 1, A8, n8, c8, W8, Ae, nt + 1, ce, l ++ [k], by omega, by go_num, by go_num, HO9.out, HM2.out, by have := HLL.out; simp; omega⟩
      · have h60I : ¬ (i : Int) < 60 := by omega
        go_wp2_with fail
        go_roundg (gk - 1)
        case measure => omega
        case rel => exact ⟨i + 1, A', n', c', W, At, nt, ct, l, by omega, by go_num, rfl, HON.out, HM.out, by have := HLL.out; omega⟩
    · have HE : Hid (l.length = nt) := HON.out.own.len
      have HN6 : Hid (nt ≤ 60) := by have := HE.out; have := HLL.out; show nt ≤ 60; omega
      go_wp2_with fail
      go_loopg [53] nt (fun gk vi w' => WOrd2 w base X A' n' c' W At nt ct l gk vi w')
      case atStart => exact ⟨0, l, rfl, rfl, List.Perm.refl _, HON.out⟩
      case round =>
        obtain ⟨j, m, hgj, rfl, hperm, hon2⟩ := hrel
        have HO := Lib.hid hon2
        have HPM := Lib.hid hperm
        have HML : Hid (m.length = nt) := hon2.own.len
        have hnt := HN6.out
        clear hon2 hperm
        by_cases hj : j < nt
        · have hjI : (j : Int) < (nt : Int) := by omega
          by_cases hjo : j < no
          · have hjoI : (j : Int) < (no : Int) := by omega
            obtain ⟨bo, oo, xo, rfl, hbo, hxo, hco⟩ := (HOA.out.below HO.out.kp.bel (Nat.le_refl _)).at_ hjo
            have hx256 : xo.toNat < 256 := xo.toNat_lt
            generalize xo.toNat = d at *
            obtain ⟨g, hg⟩ := HO.out.own.g (by omega)
            subst hg
            obtain ⟨q, hq, hqn, hqj⟩ : ∃ q : Nat, (j : Int) + (d : Int) % ((nt : Int) - (j : Int)) = (q : Int) ∧ q < nt ∧ j ≤ q := by
              have h1 : (nt : Int) - (j : Int) = ((nt - j : Nat) : Int) := by omega
              have h2 := Nat.mod_lt d (show nt - j > 0 by omega)
              rw [h1]
              exact ⟨j + d % (nt - j), by omega, by omega, by omega⟩
            have hd0 : (((nt : Int) - (j : Int)) == 0) = false := by simp; omega
            have hr0 : 0 ≤ (d : Int) % ((nt : Int) - (j : Int)) := Int.emod_nonneg _ (by omega)
            have hr1 : (d : Int) % ((nt : Int) - (j : Int)) < (nt : Int) - (j : Int) := Int.emod_lt_of_pos _ (by omega)
            have hq0 : (0 : Int) ≤ (q : Int) := by omega
            have hqI : (q : Int) < (nt : Int) := by omega
            have hsn := Sn.of_own HO.out.own
            have hcj : wr.cell? ⟨g, j, none⟩ = some (.int .u64 ((m.getD j 0 : Nat) : Int)) := by
              obtain ⟨b2, o2, y, e2, _, hy, hc⟩ := nv_at hsn hj
              injection e2 with e2
              injection e2 with e2 e3
              subst e2 e3
              rw [Nat.zero_add] at hc
              rw [hc, show m.getD j 0 = y from by simp [List.getD, hy]]
            have hcq : wr.cell? ⟨g, q, none⟩ = some (.int .u64 ((m.getD q 0 : Nat) : Int)) := by
              obtain ⟨b2, o2, y, e2, _, hy, hc⟩ := nv_at hsn hqn
              injection e2 with e2
              injection e2 with e2 e3
              subst e2 e3
              rw [Nat.zero_add] at hc
              rw [hc, show m.getD q 0 = y from by simp [List.getD, hy]]
            have hfj := HO.out.frz j
            have hfq := HO.out.frz q
            have HSW := Lib.hid (HO.out.swap j q)
            have HPS := Lib.hid ((swapN_perm (l := m) (i := j) (j := q) (by have := HML.out; omega) (by have := HML.out; omega)).trans HPM.out)
            unfold nv at HSW
            generalize m.getD j 0 = xj at *
            generalize m.getD q 0 = xq at *
            have hnew : ∀ wz : World, On w base X A' n' c' W (some ⟨g, 0, none⟩) nt ct (swapN m j q) wz → On w base X A' n' c' W (some ⟨g, 0, none⟩) nt ct (swapN m j q) wz.drew := fun wz h => h.next (below_drewN (Below.refl _ _) 1)
            have HNEW := Lib.hid hnew
            clear hsn hxo hnew
            by_cases hqe : q = j
            · subst hqe
              have hxx : xj = xq := by
                have h1 := hcj.symm.trans hcq
                simp only [Option.some.injEq, Value.int.injEq, true_and] at h1
                omega
              subst hxx
              go_wp2_with fail
              go_region
              all_goals go_wp2
              go_roundg (gk - 1)
              case measure => omega
              case rel => exact ⟨q + 1, swapN m q q, by omega, by go_num, HPS.out, HNEW.out _ HSW.out⟩
            · have hne : j ≠ q := fun e => hqe e.symm
              go_wp2_with fail
              go_region
              all_goals go_wp2
              go_roundg (gk - 1)
              case measure => omega
              case rel => exact ⟨j + 1, swapN m j q, by omega, by go_num, HPS.out, HNEW.out _ HSW.out⟩
          · have hjoI : ¬ (j : Int) < (no : Int) := by omega
            go_wp2_with fail
            go_roundg (gk - 1)
            case measure => omega
            case rel => exact ⟨j + 1, m, by omega, by go_num, HPM.out, HO.out⟩
        · have hjI : ¬ (j : Int) < (nt : Int) := by omega
          obtain rfl : j = nt := by omega
          clear HOA HLA hgk hlt hgj
          go_wp2_with fail
          refine (new_any wr K (by have := HK.out; unfold two64; omega)).mono ?_
          rintro e wb hs
          obtain ⟨Ab, nb, cb, rfl, hwb, hbb⟩ := hs.ex
          clear hs
          have hkp2 := Kept.made hwb (Below.refl wb.heap.size wb)
          have HOB := Lib.hid (HO.out.next hbb)
          have HMN := Lib.hid (Mt.new HK.out.1 HK.out.2)
          have HMP : Hid (m.Nodup ∧ (∀ x ∈ m, 1 ≤ x ∧ x ≤ K) ∧ ∀ x, x ∈ m ↔ x ∈ l) := ⟨HPM.out.nodup_iff.2 HM.out.nd, fun x hx => HM.out.rng x (HPM.out.mem_iff.1 hx), fun x => HPM.out.mem_iff⟩
          have HKB := Lib.hid hkp2
          clear hwb hbb hkp2 HO
          go_wp2_with fail
          generalize newW K = Wb at *
          generalize wb.alloc (.cells #[.int .u64 (Wb.low : Int), .int .u64 (Wb.width : Int), .slice Ab nb cb] 84) = wz at *
          obtain ⟨Xb, hXb⟩ : ∃ Xb, wb.heap.size = Xb := ⟨_, rfl⟩
          rw [hXb] at HKB ⊢
          have HXB : Hid (wb.heap.size ≤ Xb) := by show _ ≤ _; omega
          clear hXb
          go_loopg [91] j (fun gk vi w' => WOrd3 wb K Xb j m gk vi w')
          case atStart => exact ⟨0, Ab, nb, cb, Wb, rfl, rfl, HKB.out, by rw [List.take_zero]; exact HMN.out⟩
          case round =>
            clear HKB HMN
            obtain ⟨t, A8, n8, c8, W8, hgt, rfl, hk8, hm8⟩ := hrel
            have HK8 := Lib.hid hk8
            have HM8 := Lib.hid hm8
            clear hk8 hm8
            have hx0 := HK8.out.c0
            have hx1 := HK8.out.c1
            have hx2 := HK8.out.c2
            have HSUM : Hid (W8.low + W8.width < two64) := by have h1 := HM8.out.low; have h2 := HM8.out.width; have h3 := HK.out; show _ < _; unfold two64; omega
            have HNN : Hid (n8 ≤ 64) := by have h1 := HK8.out.at_.n_le HM8.out.ok; have h2 := HM8.out.width; have h3 := HK.out; show n8 ≤ 64; omega
            have HWW : Hid (W8.width ≤ 400) := by have h2 := HM8.out.width; have h3 := HK.out; show _ ≤ _; omega
            by_cases htj : t < j
            · have htI : (t : Int) < (j : Int) := by omega
              obtain ⟨b2, o2, k, rfl, hb2, hkx, hck⟩ := nv_at (Sn.of_own (HOB.out.next HK8.out.bel).own) htj
              have hkm : k ∈ m := List.mem_of_getElem? hkx
              obtain ⟨hk1, hkK⟩ := HMP.out.2.1 k hkm
              have HTK : Hid (m.take (t + 1) = m.take t ++ [k]) := by show _ = _; rw [List.take_add_one, hkx]; rfl
              have hkn : k ∉ m.take t := fun hin => by
                have h1 := HMP.out.1
                rw [← List.take_append_drop (t + 1) m, HTK.out, List.append_assoc] at h1
                exact (List.nodup_append.1 h1).2.2 k hin k (by simp) rfl
              have ht := takes_b wr A8 n8 c8 W8 HK8.out.at_ HSUM.out (by have := HNN.out; omega) k true (by rw [HM8.out.takes hk1 hkK]; simp [hkn])
              have HT := Lib.hid ht
              have HM9 := Lib.hid (HM8.out.put hk1 hkK hkn)
              have HKL : Hid (k < two64) := by have h1 := HK.out; show k < two64; unfold two64; omega
              clear ht hkn hkx hkm
              go_wp2_with fail
              refine HT.out.mono ?_
              rintro e w5 ⟨rfl, hb5⟩
              have HK5 := Lib.hid (HK8.out.next hb5)
              clear hx0 hx1 hx2 hb5 HT
              have hx0 := HK5.out.c0
              have hx1 := HK5.out.c1
              have hx2 := HK5.out.c2
              go_wp2_with fail
              refine (put_b w5 A8 n8 c8 W8 HK5.out.at_ HM8.out.ok HWW.out k HKL.out).mono ?_
              rintro e w6 ⟨A6, n6, c6, rfl, hw6, hp6, hb6⟩
              have HK6 := Lib.hid (HK5.out.next hb6)
              have HK7 := Lib.hid (HK6.out.store HXB.out HK5.out.lt hw6 hp6)
              clear hx0 hx1 hx2 hw6 hp6 hb6
              have hx0 := HK6.out.c0
              have hx1 := HK6.out.c1
              have hx2 := HK6.out.c2
              have hf0 := HK6.out.frz 0
              have hf1 := HK6.out.frz 1
              have hf2 := HK6.out.frz 2
              generalize putW W8 k = W6 at *
              go_wp2_with fail
              go_roundg (gk - 1)
              case measure => omega
              case rel => exact ⟨t + 1, A6, n6, c6, W6, by omega, by go_num, HK7.out, by rw [HTK.out]; exact HM9.out⟩
            · have htI : ¬ (t : Int) < (j : Int) := by omega
              have HTA : Hid (m.take t = m) := List.take_of_length_le (by have := HML.out; omega)
              have HM9 : Hid (Mt W8 K m) := by have := HM8.out; rw [HTA.out] at this; exact this
              have hWW : W8 = W := HM9.out.ext HM.out HMP.out.2.2
              subst hWW
              have HOZ := Lib.hid (HOB.out.next HK8.out.bel)
              have HCNT : Hid (W8.low + cntL W8.L = j) := by have := HM.out.count; have h2 := HE.out; show _ = _; omega
              have y0 := HOZ.out.kp.c0
              have y1 := HOZ.out.kp.c1
              have y2 := HOZ.out.kp.c2
              have HK4 : Hid (Kept Xb A8 n8 c8 W8 wb wr.drew) := HK8.out.next (below_drewN (Below.refl _ _) 1)
              have HO4 : Hid (On w base X A' n' c' W8 At j ct m wr.drew) := HOZ.out.next (below_drewN (Below.refl _ _) 1)
              clear HK8 HOZ
              obtain ⟨u, hu⟩ : ∃ u, u = W8.low + 1 := ⟨_, rfl⟩
              have huI : (W8.low : Int) + 1 = (u : Int) := by omega
              have hlow := HM.out.low
              have HLW : Hid (W8.low ≤ 64) := by have := HK.out; show _ ≤ _; omega
              have hlw := HLW.out
              have hwu : IntKind.u64.wrap (u : Int) = (u : Int) := by rw [IntKind.wrap_u64]; omega
              have HUL : Hid (u < two64) := by show _ < _; unfold two64; omega
              have hsk : skipW W8 u = W8 := by
                obtain ⟨s1, s2, _, _, s5⟩ := skip_spec HM.out.ok (by omega) u (by omega)
                refine s1.ext HM.out.ok s5 fun x => ?_
                rw [s2]
                exact ⟨fun h => h.elim id (fun h => .inl (by omega)), .inl⟩
              have HSK1 : Hid (∀ w', Wat w' A' n' c' W8 → Calls Try.prog 57 #[.agg #[.int .u64 (W8.low : Int), .int .u64 (W8.width : Int), .slice A' n' c'], .int .u64 (u : Int)] w' (SaysP w' A' W8)) := fun w' h => by
                have := skip_b w' A' n' c' W8 h HM.out.ok HWW.out u HUL.out
                rwa [hsk] at this
              have HSK2 : Hid (∀ w', Wat w' A' n' c' W8 → Calls Try.prog 57 #[.agg #[.int .u64 (W8.low : Int), .int .u64 (W8.width : Int), .slice A' n' c'], .int .u64 0] w' (SaysP w' A' W8)) := fun w' h => by
                have := skip_b w' A' n' c' W8 h HM.out.ok HWW.out 0 (by unfold two64; omega)
                rwa [show skipW W8 0 = W8 from rfl] at this
              clear hsk hu hlow
              obtain ⟨cn, hcn⟩ : ∃ cn, cn = cntL W8.L := ⟨_, rfl⟩
              have hcj : (W8.low : Int) + (cn : Int) = (j : Int) := by have := HCNT.out; omega
              have HCN := Lib.hid hcn
              go_wp2_with fail
              go_region_held3 (fun w' => (w'.cell? ⟨X, 0, none⟩ = some (.int .u64 (W8.low : Int)) ∧ w'.cell? ⟨X, 1, none⟩ = some (.int .u64 (W8.width : Int)) ∧ w'.cell? ⟨X, 2, none⟩ = some (.slice A' n' c')) ∧ w'.cell? ⟨Xb, 0, none⟩ = some (.int .u64 (W8.low : Int)) ∧ w'.cell? ⟨Xb, 1, none⟩ = some (.int .u64 (W8.width : Int)) ∧ w'.cell? ⟨Xb, 2, none⟩ = some (.slice A8 n8 c8)) (first | exact ⟨⟨y0, y1, y2⟩, hx0, hx1, hx2⟩ | exact hc5 | exact hc6 | exact hc7 | exact hc8 | exact hc9 | exact hc10) (first
                | (go_at_call 22
                   with_reducible refine (count_any _ A' n' c' W8.L HO9.out.kp.at_.st.rs HM.out.ok.ok.can).mono ?_
                   rintro e w10 ⟨rfl, hb10⟩
                   have HO10 := Lib.hid (HO9.out.next hb10)
                   have HK10 := Lib.hid (HK9.out.next hb10)
                   have hc10 : (w10.cell? ⟨X, 0, none⟩ = some (.int .u64 (W8.low : Int)) ∧ w10.cell? ⟨X, 1, none⟩ = some (.int .u64 (W8.width : Int)) ∧ w10.cell? ⟨X, 2, none⟩ = some (.slice A' n' c')) ∧ w10.cell? ⟨Xb, 0, none⟩ = some (.int .u64 (W8.low : Int)) ∧ w10.cell? ⟨Xb, 1, none⟩ = some (.int .u64 (W8.width : Int)) ∧ w10.cell? ⟨Xb, 2, none⟩ = some (.slice A8 n8 c8) := ⟨⟨HO10.out.kp.c0, HO10.out.kp.c1, HO10.out.kp.c2⟩, HK10.out.c0, HK10.out.c1, HK10.out.c2⟩)
                | (go_at_call 60
                   with_reducible refine (winSame_b _ A10 n10 c10 W8 HW8.out A' n' c' W8 HO8.out.kp.at_ true (sameW_refl W8)).mono ?_
                   rintro e w9 ⟨rfl, hb9⟩
                   have HO9 := Lib.hid (HO8.out.next hb9)
                   have HK9 := Lib.hid (HK8.out.next hb9)
                   have hc9 : (w9.cell? ⟨X, 0, none⟩ = some (.int .u64 (W8.low : Int)) ∧ w9.cell? ⟨X, 1, none⟩ = some (.int .u64 (W8.width : Int)) ∧ w9.cell? ⟨X, 2, none⟩ = some (.slice A' n' c')) ∧ w9.cell? ⟨Xb, 0, none⟩ = some (.int .u64 (W8.low : Int)) ∧ w9.cell? ⟨Xb, 1, none⟩ = some (.int .u64 (W8.width : Int)) ∧ w9.cell? ⟨Xb, 2, none⟩ = some (.slice A8 n8 c8) := ⟨⟨HO9.out.kp.c0, HO9.out.kp.c1, HO9.out.kp.c2⟩, HK9.out.c0, HK9.out.c1, HK9.out.c2⟩)
                | (go_at_call 57
                   with_reducible refine (HSK2.out _ HO7.out.kp.at_).mono ?_
                   rintro e w8 ⟨A10, n10, c10, rfl, hw8, _, hb8⟩
                   have HW8 := Lib.hid hw8
                   have HO8 := Lib.hid (HO7.out.next hb8)
                   have HK8 := Lib.hid (HK7.out.next hb8)
                   have hc8 : (w8.cell? ⟨X, 0, none⟩ = some (.int .u64 (W8.low : Int)) ∧ w8.cell? ⟨X, 1, none⟩ = some (.int .u64 (W8.width : Int)) ∧ w8.cell? ⟨X, 2, none⟩ = some (.slice A' n' c')) ∧ w8.cell? ⟨Xb, 0, none⟩ = some (.int .u64 (W8.low : Int)) ∧ w8.cell? ⟨Xb, 1, none⟩ = some (.int .u64 (W8.width : Int)) ∧ w8.cell? ⟨Xb, 2, none⟩ = some (.slice A8 n8 c8) := ⟨⟨HO8.out.kp.c0, HO8.out.kp.c1, HO8.out.kp.c2⟩, HK8.out.c0, HK8.out.c1, HK8.out.c2⟩)
                | (go_at_call 60
                   with_reducible refine (winSame_b _ A6 n6 c6 W8 HW6.out A' n' c' W8 HO6.out.kp.at_ true (sameW_refl W8)).mono ?_
                   rintro e w7 ⟨rfl, hb7⟩
                   have HO7 := Lib.hid (HO6.out.next hb7)
                   have HK7 := Lib.hid (HK6.out.next hb7)
                   have hc7 : (w7.cell? ⟨X, 0, none⟩ = some (.int .u64 (W8.low : Int)) ∧ w7.cell? ⟨X, 1, none⟩ = some (.int .u64 (W8.width : Int)) ∧ w7.cell? ⟨X, 2, none⟩ = some (.slice A' n' c')) ∧ w7.cell? ⟨Xb, 0, none⟩ = some (.int .u64 (W8.low : Int)) ∧ w7.cell? ⟨Xb, 1, none⟩ = some (.int .u64 (W8.width : Int)) ∧ w7.cell? ⟨Xb, 2, none⟩ = some (.slice A8 n8 c8) := ⟨⟨HO7.out.kp.c0, HO7.out.kp.c1, HO7.out.kp.c2⟩, HK7.out.c0, HK7.out.c1, HK7.out.c2⟩)
                | (go_at_call 57
                   with_reducible refine (HSK1.out _ HO5.out.kp.at_).mono ?_
                   rintro e w6 ⟨A6, n6, c6, rfl, hw6, _, hb6⟩
                   have HW6 := Lib.hid hw6
                   have HO6 := Lib.hid (HO5.out.next hb6)
                   have HK6 := Lib.hid (HK5.out.next hb6)
                   have hc6 : (w6.cell? ⟨X, 0, none⟩ = some (.int .u64 (W8.low : Int)) ∧ w6.cell? ⟨X, 1, none⟩ = some (.int .u64 (W8.width : Int)) ∧ w6.cell? ⟨X, 2, none⟩ = some (.slice A' n' c')) ∧ w6.cell? ⟨Xb, 0, none⟩ = some (.int .u64 (W8.low : Int)) ∧ w6.cell? ⟨Xb, 1, none⟩ = some (.int .u64 (W8.width : Int)) ∧ w6.cell? ⟨Xb, 2, none⟩ = some (.slice A8 n8 c8) := ⟨⟨HO6.out.kp.c0, HO6.out.kp.c1, HO6.out.kp.c2⟩, HK6.out.c0, HK6.out.c1, HK6.out.c2⟩)
                | (go_at_call 60
                   with_reducible refine (winSame_b _ A' n' c' W8 HO4.out.kp.at_ A8 n8 c8 W8 HK4.out.at_ true (sameW_refl W8)).mono ?_
                   rintro e w5 ⟨rfl, hb5⟩
                   have HO5 := Lib.hid (HO4.out.next hb5)
                   have HK5 := Lib.hid (HK4.out.next hb5)
                   have hc5 : (w5.cell? ⟨X, 0, none⟩ = some (.int .u64 (W8.low : Int)) ∧ w5.cell? ⟨X, 1, none⟩ = some (.int .u64 (W8.width : Int)) ∧ w5.cell? ⟨X, 2, none⟩ = some (.slice A' n' c')) ∧ w5.cell? ⟨Xb, 0, none⟩ = some (.int .u64 (W8.low : Int)) ∧ w5.cell? ⟨Xb, 1, none⟩ = some (.int .u64 (W8.width : Int)) ∧ w5.cell? ⟨Xb, 2, none⟩ = some (.slice A8 n8 c8) := ⟨⟨HO5.out.kp.c0, HO5.out.kp.c1, HO5.out.kp.c2⟩, HK5.out.c0, HK5.out.c1, HK5.out.c2⟩))
              go_wp2
              go_ret
              refine ⟨congrArg (fun b => Ending.returned (Value.bool b)) ?_, HO10.out.kp.bel⟩
              have h1 : (W8.low : Int) + ((cntL W8.L : Nat) : Int) = (j : Int) := by have := HCNT.out; omega
              rw [h1]
              simp
theorem windowOrders_law (w : World) (a : Int) (ha : 0 ≤ a ∧ a ≤ 65535) (A : Option Addr) (n c : Nat) (L : List UInt8) (hL : Sl w w.heap.size A n c L) (Ao : Option Addr) (no co : Nat) (O : List UInt8) (hO : Sl w w.heap.size Ao no co O) :
    Calls Try.prog 13 #[.int .u16 a, .slice A n c, .slice Ao no co] w (Says w (.bool true)) := by
  obtain ⟨x, rfl⟩ := Int.eq_ofNat_of_zero_le ha.1
  exact windowOrders_walk w x (by omega) A n c L hL Ao no co O hO
end Go.Proofs.Ytjgkfoldbnjpeaa
