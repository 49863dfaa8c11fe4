/-
  CONTRACT: the reference's Read: what 'rd' reads.
  No statement is proved here.
-/
import Derived.Test.YtlkcnpmgafckoaaDoorPackEnd
import Derived.Test.YtlkcnpmgafckoaaDoorReadMath
namespace Go.Proofs.YtlkcnpmgafckoaaDoor
open Go.RowKit

def SkipRel (w : World) (l : List UInt8) (a n gk : Nat) (k : Value) (wr : World) : Prop :=
  ∃ (j kk : Nat), gk + j = 9 ∧ kk = a + j ∧ kk ≤ n ∧ k = .int .i64 (kk : Int) ∧ High (l.drop a) j ∧ w = wr
def HornRel (w : World) (L : List UInt8) (a J gk : Nat) (acc i : Value) (wr : World) : Prop :=
  gk ≤ J ∧ i = .int .i64 ((a : Int) + (gk : Int) - 1) ∧ acc = .int .u64 ((hor (L.drop gk) : Nat) : Int) ∧ w = wr
theorem horn_u64 (a x : Nat) (h : x % 128 + 128 * a < two64) : Value.int .u64 (IntKind.u64.wrap (IntKind.u64.wrap (128 * (a : Int)) + (x : Int) % 128)) = Value.int .u64 ((x % 128 + 128 * a : Nat) : Int) := by
  unfold two64 at h
  rw [IntKind.wrap_u64, IntKind.wrap_u64]
  congr 1
  omega
theorem at_drop {l : List UInt8} {a j : Nat} {x : UInt8} (h : l[a + j]? = some x) : (l.drop a)[j]? = some x := by rw [List.getElem?_drop]; exact h

set_option maxRecDepth 100000 in
set_option maxHeartbeats 1000000 in
theorem refRead_any (w : World) (B : Nat) (A : Option Addr) (n c a : Nat) (l : List UInt8) (v s e : Nat) (hs : Sl w B A n c l) (ha : a ≤ n) (hr : rd (l.drop a) = (v, s, e)) (hb : l.length ≤ 1000000) :
    Calls Tryd.prog 74 #[.slice A n c, .int .i64 (a : Int)] w (Triple w v s e) := by
  have hlen := hs.len
  have hn : n ≤ 1000000 := by omega
  have HL := Lib.hid hlen
  have HR := Lib.hid hr
  have HS := Lib.hid hs
  clear hlen hr hs hb
  go_enter Tryd.func74, Tryd.ntmps74
  go_wp2
  go_loopg [7] 9 (fun gk k wr => SkipRel w l a n gk k wr)
  case atStart => exact ⟨0, a, by omega, rfl, ha, rfl, fun i x hi _ => absurd hi (Nat.not_lt_zero _), rfl⟩
  case round =>
    obtain ⟨j, kk, hj, hkk, hkn, rfl, hh, rfl⟩ := hrel
    have HJ := Lib.hid hj
    have HK := Lib.hid hkk
    have HH := Lib.hid hh
    clear hj hkk hh
    by_cases hlt : kk < n
    · obtain ⟨b, o, x, rfl, _, hx, hc⟩ := HS.out.at_ hlt
      have hxd : (l.drop a)[j]? = some x := at_drop (by rw [← HK.out]; exact hx)
      have HXD := Lib.hid hxd
      have hx8 := x.toNat_lt
      have hltI : (kk : Int) < (n : Int) := by omega
      clear hx hxd
      by_cases h9 : kk < a + 9
      · have h9I : (kk : Int) < (a : Int) + 9 := by omega
        have h9e : ((kk : Int) == (a : Int) + 9) = false := by simp; omega
        by_cases h128 : 128 ≤ x.toNat
        · have h128I : (128 : Int) ≤ (x.toNat : Int) := by omega
          have HNX := Lib.hid (HH.out.succ HXD.out h128)
          go_wp2
          go_roundg (gk - 1)
          case measure => have := HJ.out; have := HK.out; omega
          case rel => exact ⟨j + 1, kk + 1, by have := HJ.out; have := HK.out; omega, by have := HK.out; omega, by omega, by go_num, HNX.out, rfl⟩
        · have h128I : ¬ (128 : Int) ≤ (x.toNat : Int) := by omega
          by_cases hj0 : 0 < j
          · have hgt : (a : Int) < (kk : Int) := by have := HK.out; omega
            by_cases h0 : x.toNat = 0
            · have h0I : ((x.toNat : Int) == 0) = true := by simp; omega
              have HF := Lib.hid (HR.out.symm.trans (rd_zero (by have := HK.out; omega) HXD.out h0 hj0 HH.out))
              clear h0
              go_wp2
              go_ret3
              have hf := HF.out
              simp only [Prod.mk.injEq] at hf
              obtain ⟨rfl, rfl, rfl⟩ := hf
              exact ⟨rfl, rfl⟩
            · have h0I : ((x.toNat : Int) == 0) = false := by simp; omega
              have HG : Hid (rd (l.drop a) = (hor ((l.drop a).take (j + 1)), j + 1, 0)) := rd_good (by have := HK.out; omega) HXD.out (by omega) (by have := HK.out; omega) (by omega) HH.out
              have hfin : (v, s, e) = (hor ((l.drop a).take (j + 1)), j + 1, 0) := HR.out.symm.trans HG.out
              have HF := Lib.hid hfin
              have HVB : Hid (hor ((l.drop a).take (j + 1)) < two64) := (rd_bd HG.out).1
              clear hfin HG
              have hkk1 : (kk : Int) - (a : Int) + 1 = ((j + 1 : Nat) : Int) := by have := HK.out; omega
              have HKK := Lib.hid hkk1; clear hkk1
              go_wp2
              go_loopg [8, 9] (j + 1) (fun gk acc i wr => HornRel w ((l.drop a).take (j + 1)) a (j + 1) gk acc i wr)
              case atStart => exact ⟨Nat.le_refl _, by rw [HK.out]; congr 1; omega, by rw [List.drop_eq_nil_of_le (by rw [List.length_take]; omega)]; rfl, rfl⟩
              case round =>
                obtain ⟨hgk, rfl, rfl, rfl⟩ := hrel
                by_cases hpos : 0 < gk
                · obtain ⟨g', hg'⟩ : ∃ g', gk = g' + 1 := ⟨gk - 1, by omega⟩
                  subst hg'
                  obtain ⟨b2, o2, x2, hA2, _, hx2, hc2⟩ := HS.out.at_ (k := a + g') (by have := HK.out; omega)
                  injection hA2 with hA2
                  injection hA2 with hb2 ho2
                  subst hb2 ho2
                  have hi2 : (a : Int) + ((g' + 1 : Nat) : Int) - 1 = ((a + g' : Nat) : Int) := by omega
                  have hstep : hor (((l.drop a).take (j + 1)).drop g') = x2.toNat % 128 + 128 * hor (((l.drop a).take (j + 1)).drop (g' + 1)) := hor_step (by
                    rw [List.getElem?_take, if_pos (by omega), List.getElem?_drop]; exact hx2)
                  have hmono := hor_drop ((l.drop a).take (j + 1)) g'
                  have hvb := HVB.out
                  have hx28 := x2.toNat_lt
                  have HV := Lib.hid (horn_u64 (hor (((l.drop a).take (j + 1)).drop (g' + 1))) x2.toNat (by omega))
                  have HS2 := Lib.hid hstep
                  rw [hi2]
                  have hc2' : w.cell? ⟨b, o + (a + g'), none⟩ = some (.int .u8 (x2.toNat : Int)) := hc2
                  have hi3 : (0 : Int) ≤ ((a + g' : Nat) : Int) := by omega
                  have hi4 : ((a + g' : Nat) : Int) < (n : Int) := by have := HK.out; omega
                  have hi5 : (a : Int) ≤ ((a + g' : Nat) : Int) := by omega
                  have hn2 : ((a + g' : Nat) : Int) - 1 = (a : Int) + (g' : Int) - 1 := by omega
                  have HN2 := Lib.hid hn2
                  obtain ⟨m2, hm2⟩ : ∃ m2, m2 = a + g' := ⟨_, rfl⟩
                  rw [← hm2] at hc2' hi3 hi4 hi5 HN2 ⊢
                  have hm2b : m2 ≤ 2000000 := by omega
                  generalize hor (((l.drop a).take (j + 1)).drop (g' + 1)) = ac at *
                  clear hstep hmono hvb hi2 hc2 hx2 hn2 hm2 hx28
                  go_wp2
                  go_roundg g'
                  case measure => omega
                  case rel => exact ⟨by omega, by rw [HN2.out], by rw [HV.out, HS2.out], rfl⟩
                · have hg0 : gk = 0 := by omega
                  subst hg0
                  have hnn : ¬ (a : Int) ≤ (a : Int) + ((0 : Nat) : Int) - 1 := by omega
                  clear hpos
                  go_wp2
                  go_ret3
                  have hf := HF.out
                  simp only [Prod.mk.injEq] at hf
                  obtain ⟨rfl, rfl, rfl⟩ := hf
                  exact ⟨ret3 rfl (congrArg (fun z => Value.int .i64 z) HKK.out) rfl, rfl⟩
          · have hgt : ¬ (a : Int) < (kk : Int) := by have := HK.out; omega
            have HG : Hid (rd (l.drop a) = (hor ((l.drop a).take (j + 1)), j + 1, 0)) := rd_good (by have := HK.out; omega) HXD.out (by omega) (by omega) (by omega) HH.out
            have hfin : (v, s, e) = (hor ((l.drop a).take (j + 1)), j + 1, 0) := HR.out.symm.trans HG.out
            have HF := Lib.hid hfin
            have HVB : Hid (hor ((l.drop a).take (j + 1)) < two64) := (rd_bd HG.out).1
            clear hfin HG
            have hkk1 : (kk : Int) - (a : Int) + 1 = ((j + 1 : Nat) : Int) := by have := HK.out; omega
            have HKK := Lib.hid hkk1; clear hkk1
            go_wp2
            go_loopg [8, 9] (j + 1) (fun gk acc i wr => HornRel w ((l.drop a).take (j + 1)) a (j + 1) gk acc i wr)
            case atStart => exact ⟨Nat.le_refl _, by rw [HK.out]; congr 1; omega, by rw [List.drop_eq_nil_of_le (by rw [List.length_take]; omega)]; rfl, rfl⟩
            case round =>
              obtain ⟨hgk, rfl, rfl, rfl⟩ := hrel
              by_cases hpos : 0 < gk
              · obtain ⟨g', hg'⟩ : ∃ g', gk = g' + 1 := ⟨gk - 1, by omega⟩
                subst hg'
                obtain ⟨b2, o2, x2, hA2, _, hx2, hc2⟩ := HS.out.at_ (k := a + g') (by have := HK.out; omega)
                injection hA2 with hA2
                injection hA2 with hb2 ho2
                subst hb2 ho2
                have hi2 : (a : Int) + ((g' + 1 : Nat) : Int) - 1 = ((a + g' : Nat) : Int) := by omega
                have hstep : hor (((l.drop a).take (j + 1)).drop g') = x2.toNat % 128 + 128 * hor (((l.drop a).take (j + 1)).drop (g' + 1)) := hor_step (by
                  rw [List.getElem?_take, if_pos (by omega), List.getElem?_drop]; exact hx2)
                have hmono := hor_drop ((l.drop a).take (j + 1)) g'
                have hvb := HVB.out
                have hx28 := x2.toNat_lt
                have HV := Lib.hid (horn_u64 (hor (((l.drop a).take (j + 1)).drop (g' + 1))) x2.toNat (by omega))
                have HS2 := Lib.hid hstep
                rw [hi2]
                have hc2' : w.cell? ⟨b, o + (a + g'), none⟩ = some (.int .u8 (x2.toNat : Int)) := hc2
                have hi3 : (0 : Int) ≤ ((a + g' : Nat) : Int) := by omega
                have hi4 : ((a + g' : Nat) : Int) < (n : Int) := by have := HK.out; omega
                have hi5 : (a : Int) ≤ ((a + g' : Nat) : Int) := by omega
                have hn2 : ((a + g' : Nat) : Int) - 1 = (a : Int) + (g' : Int) - 1 := by omega
                have HN2 := Lib.hid hn2
                obtain ⟨m2, hm2⟩ : ∃ m2, m2 = a + g' := ⟨_, rfl⟩
                rw [← hm2] at hc2' hi3 hi4 hi5 HN2 ⊢
                have hm2b : m2 ≤ 2000000 := by omega
                generalize hor (((l.drop a).take (j + 1)).drop (g' + 1)) = ac at *
                clear hstep hmono hvb hi2 hc2 hx2 hn2 hm2 hx28
                go_wp2
                go_roundg g'
                case measure => omega
                case rel => exact ⟨by omega, by rw [HN2.out], by rw [HV.out, HS2.out], rfl⟩
              · have hg0 : gk = 0 := by omega
                subst hg0
                have hnn : ¬ (a : Int) ≤ (a : Int) + ((0 : Nat) : Int) - 1 := by omega
                clear hpos
                go_wp2
                go_ret3
                have hf := HF.out
                simp only [Prod.mk.injEq] at hf
                obtain ⟨rfl, rfl, rfl⟩ := hf
                exact ⟨ret3 rfl (congrArg (fun z => Value.int .i64 z) HKK.out) rfl, rfl⟩
      · have h9I : ¬ (kk : Int) < (a : Int) + 9 := by omega
        have h9e : ((kk : Int) == (a : Int) + 9) = true := by have := HK.out; have := HJ.out; simp; omega
        have hj9 : j = 9 := by have := HK.out; have := HJ.out; omega
        have hgt : (a : Int) < (kk : Int) := by omega
        subst hj9
        by_cases h1 : 1 < x.toNat
        · have h1I : (1 : Int) < (x.toNat : Int) := by omega
          have HF := Lib.hid (HR.out.symm.trans (rd_over HXD.out h1 HH.out))
          go_wp2
          go_ret3
          have hf := HF.out
          simp only [Prod.mk.injEq] at hf
          obtain ⟨rfl, rfl, rfl⟩ := hf
          exact ⟨rfl, rfl⟩
        · have h1I : ¬ (1 : Int) < (x.toNat : Int) := by omega
          by_cases h0 : x.toNat = 0
          · have h0I : ((x.toNat : Int) == 0) = true := by simp; omega
            have HF := Lib.hid (HR.out.symm.trans (rd_zero (by omega) HXD.out h0 (by omega) HH.out))
            clear h0
            go_wp2
            go_ret3
            have hf := HF.out
            simp only [Prod.mk.injEq] at hf
            obtain ⟨rfl, rfl, rfl⟩ := hf
            exact ⟨rfl, rfl⟩
          · have h0I : ((x.toNat : Int) == 0) = false := by simp; omega
            obtain ⟨j, hjj⟩ : ∃ j, 9 = j := ⟨9, rfl⟩
            rw [hjj] at HK HXD HH HJ
            have HJ9 := Lib.hid hjj
            clear hjj
            have HG : Hid (rd (l.drop a) = (hor ((l.drop a).take (j + 1)), j + 1, 0)) := rd_good (by have := HJ9.out; omega) HXD.out (by omega) (by omega) (by omega) HH.out
            have hfin : (v, s, e) = (hor ((l.drop a).take (j + 1)), j + 1, 0) := HR.out.symm.trans HG.out
            have HF := Lib.hid hfin
            have HVB : Hid (hor ((l.drop a).take (j + 1)) < two64) := (rd_bd HG.out).1
            clear hfin HG
            have hkk1 : (kk : Int) - (a : Int) + 1 = ((j + 1 : Nat) : Int) := by have := HK.out; omega
            have HKK := Lib.hid hkk1; clear hkk1
            go_wp2
            go_loopg [8, 9] (j + 1) (fun gk acc i wr => HornRel w ((l.drop a).take (j + 1)) a (j + 1) gk acc i wr)
            case atStart => exact ⟨Nat.le_refl _, by rw [HK.out]; congr 1; omega, by rw [List.drop_eq_nil_of_le (by rw [List.length_take]; omega)]; rfl, rfl⟩
            case round =>
              obtain ⟨hgk, rfl, rfl, rfl⟩ := hrel
              by_cases hpos : 0 < gk
              · obtain ⟨g', hg'⟩ : ∃ g', gk = g' + 1 := ⟨gk - 1, by omega⟩
                subst hg'
                obtain ⟨b2, o2, x2, hA2, _, hx2, hc2⟩ := HS.out.at_ (k := a + g') (by have := HK.out; omega)
                injection hA2 with hA2
                injection hA2 with hb2 ho2
                subst hb2 ho2
                have hi2 : (a : Int) + ((g' + 1 : Nat) : Int) - 1 = ((a + g' : Nat) : Int) := by omega
                have hstep : hor (((l.drop a).take (j + 1)).drop g') = x2.toNat % 128 + 128 * hor (((l.drop a).take (j + 1)).drop (g' + 1)) := hor_step (by
                  rw [List.getElem?_take, if_pos (by omega), List.getElem?_drop]; exact hx2)
                have hmono := hor_drop ((l.drop a).take (j + 1)) g'
                have hvb := HVB.out
                have hx28 := x2.toNat_lt
                have HV := Lib.hid (horn_u64 (hor (((l.drop a).take (j + 1)).drop (g' + 1))) x2.toNat (by omega))
                have HS2 := Lib.hid hstep
                rw [hi2]
                have hc2' : w.cell? ⟨b, o + (a + g'), none⟩ = some (.int .u8 (x2.toNat : Int)) := hc2
                have hi3 : (0 : Int) ≤ ((a + g' : Nat) : Int) := by omega
                have hi4 : ((a + g' : Nat) : Int) < (n : Int) := by have := HK.out; omega
                have hi5 : (a : Int) ≤ ((a + g' : Nat) : Int) := by omega
                have hn2 : ((a + g' : Nat) : Int) - 1 = (a : Int) + (g' : Int) - 1 := by omega
                have HN2 := Lib.hid hn2
                obtain ⟨m2, hm2⟩ : ∃ m2, m2 = a + g' := ⟨_, rfl⟩
                rw [← hm2] at hc2' hi3 hi4 hi5 HN2 ⊢
                have hm2b : m2 ≤ 2000000 := by omega
                generalize hor (((l.drop a).take (j + 1)).drop (g' + 1)) = ac at *
                clear hstep hmono hvb hi2 hc2 hx2 hn2 hm2 hx28
                go_wp2
                go_roundg g'
                case measure => omega
                case rel => exact ⟨by omega, by rw [HN2.out], by rw [HV.out, HS2.out], rfl⟩
              · have hg0 : gk = 0 := by omega
                subst hg0
                have hnn : ¬ (a : Int) ≤ (a : Int) + ((0 : Nat) : Int) - 1 := by omega
                clear hpos
                go_wp2
                go_ret3
                have hf := HF.out
                simp only [Prod.mk.injEq] at hf
                obtain ⟨rfl, rfl, rfl⟩ := hf
                exact ⟨ret3 rfl (congrArg (fun z => Value.int .i64 z) HKK.out) rfl, rfl⟩
    · have hltI : ¬ (kk : Int) < (n : Int) := by omega
      have hge : (n : Int) ≤ (kk : Int) := by omega
      have HF := Lib.hid (HR.out.symm.trans (rd_none (l := l.drop a) (j := j) (by have := HJ.out; omega) (by rw [List.length_drop]; have := HK.out; have := HL.out; omega) HH.out))
      go_wp2
      go_ret3
      have hf := HF.out
      simp only [Prod.mk.injEq] at hf
      obtain ⟨rfl, rfl, rfl⟩ := hf
      exact ⟨rfl, rfl⟩
end Go.Proofs.YtlkcnpmgafckoaaDoor
