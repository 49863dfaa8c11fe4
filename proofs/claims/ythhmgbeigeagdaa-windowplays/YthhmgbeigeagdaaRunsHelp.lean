/-
  CONTRACTS of the laws' own few, own, set; of Count.
  No statement is proved here.
-/
import Derived.Test.YthhmgbeigeagdaaRunsEq
namespace Go.Proofs.Ythhmgbeigeagdaa
open Go.RowKit

/-! ### Count -/
def cntGo (acc : Nat) : List Rn → Nat
  | [] => acc
  | r :: s => cntGo ((acc + (r.2 - r.1 + 1)) % two64) s
def cntL (L : List Rn) : Nat := if cntGo 0 L = 0 ∧ L ≠ [] then two64 - 1 else cntGo 0 L
theorem wrap_cnt (a f t : Nat) (h : f ≤ t) : IntKind.u64.wrap ((a : Int) + IntKind.u64.wrap ((t : Int) - (f : Int) + 1)) = (((a + (t - f + 1)) % two64 : Nat) : Int) := by
  unfold two64 at *
  rw [IntKind.wrap_u64, IntKind.wrap_u64]
  omega
def CntRel (w : World) (L : List Rn) (gk : Nat) (vc vi : Value) (wr : World) : Prop :=
  ∃ (k a : Nat), gk + k = L.length ∧ vc = .int .u64 (a : Int) ∧ vi = .int .i64 (k : Int) ∧ cntGo 0 L = cntGo a (L.drop k) ∧ a < two64 ∧ Below w.heap.size w wr
set_option maxRecDepth 100000 in
set_option maxHeartbeats 400000 in
theorem count_any (w : World) (A : Option Addr) (n c : Nat) (l : List Rn) (hs : Rs w w.heap.size A n c l) (hL : Canon l) :
    Calls Try.prog 22 #[.agg #[.slice A n c]] w (Says w (.int .u64 (cntL l : Int))) := by
  have H := Lib.hid hs
  have HLEN : Hid (l.length = n) := hs.len
  have HC := Lib.hid hL
  have hmax := hs.sn.max
  have hle := hs.sn.le
  unfold maxLen at hmax
  clear hs hL
  obtain ⟨R, HR⟩ : ∃ R, Hid (R = cntL l) := ⟨_, rfl⟩
  rw [← HR.out]
  go_enter Try.func22, Try.ntmps22
  go_wp2_with fail
  have hb1 := below_box w (.cells #[.slice A n c] 28)
  have hc1 : (w.alloc (.cells #[.slice A n c] 28)).cell? ⟨w.heap.size, 0, none⟩ = some (.slice A n c) := cell_last w _ _ _ 0 rfl
  have hz1 : w.heap.size < (w.alloc (.cells #[.slice A n c] 28)).heap.size := by simp
  have H1 := Lib.hid (H.out.onA (.cells #[.slice A n c] 28))
  generalize w.alloc (.cells #[.slice A n c] 28) = w1 at *
  go_loopg [3, 9] n (fun gk vc vi wr => CntRel w1 l gk vc vi wr)
  case atStart => exact ⟨0, 0, by have := HLEN.out; omega, rfl, rfl, rfl, by unfold two64; omega, Below.refl _ _⟩
  case round =>
    obtain ⟨k, a, hg, rfl, rfl, hcn, ha, hbel⟩ := hrel
    have HG := Lib.hid hg
    have HCN := Lib.hid hcn
    have HA := Lib.hid ha
    clear hg hcn ha
    have hsr := H1.out.below hbel (Nat.le_refl _)
    have hcx := (hbel.cell (p := ⟨w.heap.size, 0, none⟩) hz1).trans hc1
    by_cases hk : k < n
    · have hkI : (k : Int) < (n : Int) := by omega
      have hk0 : (0 : Int) ≤ (k : Int) := by omega
      obtain ⟨b, o, r, rfl, hbB, hx, hq0, hq1, h1, h2⟩ := hsr.at_ hk
      have HDR : Hid (l.drop k = r :: l.drop (k + 1)) := by
        show _ = _
        rw [List.drop_eq_getElem_cons (by have := HLEN.out; omega)]
        rw [List.getElem?_eq_getElem (by have := HLEN.out; omega)] at hx
        injection hx with hx
        rw [hx]
      have hrr := HC.out.ok r (List.mem_of_getElem? hx)
      have hrI : (r.1 : Int) ≤ (r.2 : Int) := by omega
      unfold two64 at h1 h2
      clear hx hsr
      go_wp2
      go_roundg (gk - 1)
      case measure => have := HG.out; have := HLEN.out; omega
      case rel => exact ⟨k + 1, (a + (r.2 - r.1 + 1)) % two64, by have := HG.out; have := HLEN.out; omega, by rw [wrap_cnt a r.1 r.2 hrr], by go_num, by rw [HCN.out, HDR.out, cntGo], Nat.mod_lt _ (by unfold two64; omega), hbel.trans ((below_box wr _).mono hbel.size)⟩
    · have hkI : ¬ (k : Int) < (n : Int) := by omega
      have hE : cntGo 0 l = a := by rw [HCN.out, List.drop_eq_nil_of_le (by have := HLEN.out; omega), cntGo]
      have HBW : Hid (Below w.heap.size w wr) := hb1.trans (hbel.mono (by omega))
      have HE := Lib.hid hE
      clear hsr hE
      by_cases ha0 : a = 0
      · subst ha0
        rcases Nat.eq_zero_or_pos n with hn0 | hn0
        · subst hn0
          have HV : Hid (R = 0) := by
            have hl : l = [] := List.eq_nil_of_length_eq_zero HLEN.out
            show _ = _
            rw [HR.out, hl]
            rfl
          go_wp2
          go_ret
          exact ⟨by rw [HV.out]; rfl, HBW.out⟩
        · have HV : Hid (R = 18446744073709551615) := by
            show _ = _
            rw [HR.out]
            unfold cntL
            rw [if_pos ⟨HE.out, fun e => by have := HLEN.out; rw [e] at this; simp at this; omega⟩]
            rfl
          have hnI : (0 : Int) < (n : Int) := by omega
          go_wp2
          go_ret
          exact ⟨by rw [HV.out]; rfl, HBW.out⟩
      · have HV : Hid (R = a) := by
          show _ = _
          rw [HR.out]
          unfold cntL
          rw [if_neg (fun h => ha0 (HE.out.symm.trans h.1)), HE.out]
        have haI : ((a : Int) == 0) = false := by simp; omega
        clear ha0
        go_wp2
        go_ret
        exact ⟨by rw [HV.out]; rfl, HBW.out⟩

/-! ### set -/
def SetRel (w : World) (X : Nat) (L : List Rn) (gk : Nat) (vi : Value) (wr : World) : Prop :=
  ∃ (k : Nat) (A : Option Addr) (n c : Nat), gk + k = L.length ∧ vi = .int .i64 (k : Int) ∧ wr.heap[X]? = some (.cells #[.slice A n c] 28 (0, 0)) ∧ St wr wr.heap.size A n c (setL (L.take k)) ∧ (∀ b o, A = some ⟨b, o, none⟩ → X < b) ∧ Below w.heap.size w wr
theorem set_take_ok {L : List Rn} (h : ∀ q ∈ L, q.1 < two64 ∧ q.2 < two64) (k : Nat) : Okl (setL (L.take k)) ∧ (setL (L.take k)).length ≤ L.length := by
  obtain ⟨h1, _, h3⟩ := set_spec (L.take k) (fun q hq => h q (List.mem_of_mem_take hq))
  rw [List.length_take] at h3
  exact ⟨h1, by omega⟩
theorem setCell_row (w : World) (X : Nat) (t : TypeId) (u v : Value) (h : w.heap[X]? = some (.cells #[u] t (0, 0))) : (w.setCell ⟨X, 0, none⟩ v).heap[X]? = some (.cells #[v] t (0, 0)) := by
  simp [World.setCell, Array.getElem?_modify, h]
end Go.Proofs.Ythhmgbeigeagdaa
