/-
  CONTRACTS: pack's number and judge.
  No statement is proved here.
-/
import Derived.Test.YtlkcnpmgafckoaaDoorPackBytes
import Derived.Laws.BitsAllLaws
import Derived.Laws.BitsLemmas
namespace Go.Proofs.YtlkcnpmgafckoaaDoor
open Go.RowKit

def Triple (w : World) (v s e : Nat) (en : Ending) (w' : World) : Prop :=
  en = .returned (.tuple #[.int .u64 (v : Int), .int .i64 (s : Int), .int .i64 (e : Int)]) ∧ w = w'

theorem drop_at {l : List UInt8} {j : Nat} {x : UInt8} (h : l[j]? = some x) : l.drop j = x :: l.drop (j + 1) := by
  obtain ⟨hl, hx⟩ := List.getElem?_eq_some_iff.1 h
  rw [List.drop_eq_getElem_cons hl, hx]
theorem ret3 {u v x : Value} {u' v' x' : Value} (h1 : u = u') (h2 : v = v') (h3 : x = x') : Ending.returned (.tuple #[u, v, x]) = .returned (.tuple #[u', v', x']) := by rw [h1, h2, h3]
theorem andNot_all : ∀ m : Fin 256, bits .andNot .u8 (m.val : Int) 128 = ((m.val % 128 : Nat) : Int) := by decide +kernel
theorem acc_step (a j x : Nat) (ha : a < 128 ^ j) (hj : j ≤ 9) (hx : x < 256) (h9 : j = 9 → x ≤ 1) :
    bits .or .u64 (a : Int) (IntKind.u64.wrap (IntKind.u64.wrap (bits .andNot .u8 (x : Int) 128) * 2 ^ (7 * j))) = ((a + x % 128 * 128 ^ j : Nat) : Int) := by
  have h1 : bits .andNot .u8 (x : Int) 128 = ((x % 128 : Nat) : Int) := andNot_all ⟨x, hx⟩
  have hp : (2 : Int) ^ (7 * j) = ((128 ^ j : Nat) : Int) := by rw [Int.pow_mul]; simp
  have hpn : (2 : Nat) ^ (7 * j) = 128 ^ j := by rw [Nat.pow_mul]
  have hbd : x % 128 * 128 ^ j < 18446744073709551616 ∧ 128 ^ j ≤ 9223372036854775808 := by
    rcases Nat.lt_or_ge j 9 with h | h
    · have h2 : (128 : Nat) ^ j ≤ 128 ^ 8 := Nat.pow_le_pow_right (by omega) (by omega)
      have h3 : x % 128 ≤ 127 := by omega
      have h4 := Nat.mul_le_mul_right (128 ^ j) h3
      omega
    · have : j = 9 := by omega
      subst this
      have h3 : x % 128 ≤ 1 := by have := h9 rfl; omega
      have h4 := Nat.mul_le_mul_right (128 ^ 9) h3
      omega
  have hw1 : IntKind.u64.wrap ((x % 128 : Nat) : Int) = ((x % 128 : Nat) : Int) := by rw [IntKind.wrap_u64]; omega
  have hw2 : IntKind.u64.wrap (((x % 128 : Nat) : Int) * ((128 ^ j : Nat) : Int)) = ((x % 128 * 128 ^ j : Nat) : Int) := by
    rw [← Int.natCast_mul, IntKind.wrap_u64]; omega
  rw [h1, hw1, hp, hw2, u64_or_nat a (x % 128 * 128 ^ j) (by omega) hbd.1]
  congr 1
  rw [Nat.or_comm, ← hpn, nat_join (7 * j) _ a (by rw [Nat.mul_mod_left]) (by rw [hpn]; exact ha), Nat.add_comm]

def ReadRel (l : List UInt8) (n : Nat) (k : Nat) (acc i : Value) (w wr : World) : Prop :=
  ∃ (j a : Nat), k + j = n ∧ j ≤ 9 ∧ i = .int .i64 (j : Int) ∧ acc = .int .u64 (a : Int) ∧ a < 128 ^ j ∧ rd l = rdGo j a (l.drop j) ∧ w = wr

set_option maxRecDepth 100000 in
set_option maxHeartbeats 400000 in
theorem number_any (w : World) (B : Nat) (A : Option Addr) (n c : Nat) (l : List UInt8) (v s e : Nat) (hs : Sl w B A n c l) (hr : rd l = (v, s, e)) (hb : l.length ≤ 2000000) :
    Calls Tryd.prog 86 #[.slice A n c] w (Triple w v s e) := by
  have hlen := hs.len
  have hn : n ≤ 2000000 := by omega
  have HL := Lib.hid hlen; clear hlen hb
  have HR := Lib.hid hr; clear hr
  have HS := Lib.hid hs; clear hs
  go_enter Tryd.func86, Tryd.ntmps86
  go_wp2
  go_loopg [5, 10] n (fun k acc i wr => ReadRel l n k acc i w wr)
  case atStart => exact ⟨0, 0, by omega, by omega, rfl, rfl, by simp, rfl, rfl⟩
  case round =>
    obtain ⟨j, a, hj, hj9, rfl, rfl, ha, hrd, rfl⟩ := hrel
    have HJ := Lib.hid hj; clear hj
    have HA := Lib.hid ha; clear ha
    have HRD := Lib.hid hrd; clear hrd
    by_cases hlt : j < n
    · obtain ⟨b, o, x, rfl, _, hx, hc⟩ := HS.out.at_ hlt
      have HX := Lib.hid hx; clear hx
      have hx8 := x.toNat_lt
      have hdrop : l.drop j = x :: l.drop (j + 1) := drop_at HX.out
      have HD := Lib.hid hdrop; clear hdrop
      by_cases h9 : j = 9 ∧ 1 < x.toNat
      · obtain ⟨h9, h1⟩ := h9
        subst h9
        have hfin : (v, s, e) = (0, 0, 7) := by rw [← HR.out, HRD.out, HD.out]; simp [rdGo, h1]
        have HF := Lib.hid hfin; clear hfin
        go_wp2
        go_ret3
        have hf := HF.out
        simp only [Prod.mk.injEq] at hf
        obtain ⟨rfl, rfl, rfl⟩ := hf
        exact ⟨rfl, rfl⟩
      · have HST : Hid (Value.int .u64 (bits .or .u64 (a : Int) (IntKind.u64.wrap (IntKind.u64.wrap (bits .andNot .u8 (x.toNat : Int) 128) * 2 ^ (7 * j)))) = Value.int .u64 ((a + x.toNat % 128 * 128 ^ j : Nat) : Int)) := by
          show _ = _
          rw [acc_step a j x.toNat HA.out hj9 (by omega) (by omega)]
        by_cases h128 : 128 ≤ x.toNat
        · have hj9' : j < 9 := by omega
          have hq9 : ((j : Int) == 9) = false := by simp; omega
          have HF : Hid (rd l = rdGo (j + 1) (a + x.toNat % 128 * 128 ^ j) (l.drop (j + 1))) := by
            show _ = _
            rw [HRD.out, HD.out]
            simp only [rdGo]
            rw [if_neg h9, if_pos h128]
          clear h9
          go_wp2
          go_roundg (gk - 1)
          case measure => have := HJ.out; omega
          case rel =>
            refine ⟨j + 1, a + x.toNat % 128 * 128 ^ j, by have := HJ.out; omega, by omega, by go_num, HST.out, ?_, HF.out, rfl⟩
            have h1 := HA.out
            have h2 : x.toNat % 128 ≤ 127 := by omega
            have h3 := Nat.mul_le_mul_right (128 ^ j) h2
            rw [Nat.pow_succ]
            omega
        · by_cases h0 : x.toNat = 0 ∧ 0 < j
          · obtain ⟨h0, hj0⟩ := h0
            have hfin : (v, s, e) = (0, 0, 2) := by rw [← HR.out, HRD.out, HD.out]; simp [rdGo, h0, hj0]
            have HF := Lib.hid hfin; clear hfin
            have hx0 : ((x.toNat : Int) == 0) = true := by simp; omega
            have H0 := Lib.hid h0; clear h0 h9
            by_cases hj9' : j = 9
            · subst hj9'
              have hx1 : ¬ (1 : Int) < (x.toNat : Int) := by have := H0.out; omega
              go_wp2
              go_ret3
              have hf := HF.out
              simp only [Prod.mk.injEq] at hf
              obtain ⟨rfl, rfl, rfl⟩ := hf
              exact ⟨rfl, rfl⟩
            · have hq9 : ((j : Int) == 9) = false := by simp; omega
              go_wp2
              go_ret3
              have hf := HF.out
              simp only [Prod.mk.injEq] at hf
              obtain ⟨rfl, rfl, rfl⟩ := hf
              exact ⟨rfl, rfl⟩
          · have hfin : (v, s, e) = (a + x.toNat % 128 * 128 ^ j, j + 1, 0) := by
              rw [← HR.out, HRD.out, HD.out]
              simp only [rdGo]
              rw [if_neg h9, if_neg h128, if_neg h0]
            have HF := Lib.hid hfin; clear hfin
            have H9 := Lib.hid h9; clear h9
            have H0 := Lib.hid h0; clear h0
            by_cases hj9' : j = 9
            · subst hj9'
              have hx1 : ¬ (1 : Int) < (x.toNat : Int) := by have := H9.out; omega
              have hx0 : ((x.toNat : Int) == 0) = false := by have := H0.out; simp; omega
              go_wp2
              go_ret3
              have hf := HF.out
              simp only [Prod.mk.injEq] at hf
              obtain ⟨rfl, rfl, rfl⟩ := hf
              exact ⟨ret3 HST.out rfl rfl, rfl⟩
            · have hq9 : ((j : Int) == 9) = false := by simp; omega
              by_cases hx0' : x.toNat = 0
              · have hj00 : ¬ (0 : Int) < (j : Int) := by have := H0.out; omega
                have hx0 : ((x.toNat : Int) == 0) = true := by simp; omega
                have HX0 := Lib.hid hx0'; clear hx0'
                go_wp2
                go_ret3
                have hf := HF.out
                simp only [Prod.mk.injEq] at hf
                obtain ⟨rfl, rfl, rfl⟩ := hf
                exact ⟨ret3 HST.out rfl (by go_num), rfl⟩
              · have hx0 : ((x.toNat : Int) == 0) = false := by simp; omega
                go_wp2
                go_ret3
                have hf := HF.out
                simp only [Prod.mk.injEq] at hf
                obtain ⟨rfl, rfl, rfl⟩ := hf
                exact ⟨ret3 HST.out rfl (by go_num), rfl⟩
    · have hfin : (v, s, e) = (0, 0, 2) := by
        rw [← HR.out, HRD.out, List.drop_eq_nil_of_le (by have := HL.out; omega)]; simp [rdGo]
      have HF := Lib.hid hfin; clear hfin
      go_wp2
      go_ret3
      have hf := HF.out
      simp only [Prod.mk.injEq] at hf
      obtain ⟨rfl, rfl, rfl⟩ := hf
      exact ⟨rfl, rfl⟩
end Go.Proofs.YtlkcnpmgafckoaaDoor
