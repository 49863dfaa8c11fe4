/-
  CONTRACT of layer 5: numbers, written one behind the other.
  No statement is proved here.
-/
import Derived.Test.YtlkcnpmgafckoaaDoorFrameMath
namespace Go.Proofs.YtlkcnpmgafckoaaDoor
open Go.RowKit

def u64s (xs : List Nat) : List Value := xs.map fun (x : Nat) => Value.int .u64 (x : Int)
def numsB (xs : List Nat) : List UInt8 := xs.flatMap num
theorem numsB_snoc {xs : List Nat} {j x : Nat} (h : xs[j]? = some x) : numsB (xs.take (j + 1)) = numsB (xs.take j) ++ num x := by
  unfold numsB
  rw [List.take_add_one, h, List.flatMap_append]
  simp
theorem numsB_len (xs : List Nat) (h : ∀ x ∈ xs, x < two64) : (numsB xs).length ≤ 10 * xs.length := by
  induction xs with
  | nil => simp [numsB]
  | cons x t ih =>
    have h1 := ih (fun y hy => h y (List.mem_cons_of_mem _ hy))
    have h2 := num_len10 x (h x List.mem_cons_self)
    unfold numsB at h1 ⊢
    rw [List.flatMap_cons, List.length_append, List.length_cons]
    omega
def NumsRel (w : World) (l : List UInt8) (xs : List Nat) (gk : Nat) (p i : Value) (wr : World) : Prop :=
  ∃ (j : Nat) (A : Option Addr) (n c : Nat), gk + j = xs.length ∧ i = .int .i64 (j : Int) ∧ p = .slice A n c ∧ Sl wr wr.heap.size A n c (l ++ numsB (xs.take j)) ∧
    (0 < j → wr.ownsRow w.heap.size 5 1 (.slice A n c) n (cbs (l ++ numsB (xs.take j)))) ∧ Below w.heap.size w wr

set_option maxRecDepth 100000 in
set_option maxHeartbeats 800000 in
theorem nums_any (w : World) (A Al : Option Addr) (m c nl cl : Nat) (l : List UInt8) (xs : List Nat) (hs : Sl w w.heap.size A m c l) (hx : Sn w w.heap.size Al nl cl 1 (u64s xs)) (hlt : ∀ x ∈ xs, x < two64)
    (hb : l.length + 10 * xs.length ≤ 900000) (hp : 0 < xs.length) :
    Calls Tryd.prog 35 #[.slice A m c, .slice Al nl cl] w (Fresh w (l ++ numsB xs)) := by
  have hln : xs.length = nl := by have := hx.len; unfold u64s at this; rw [List.length_map] at this; omega
  subst hln
  have hle := hx.le
  have hmx := hx.max
  unfold maxLen at hmx
  have HS := Lib.hid hs
  have HX := Lib.hid hx
  have HLT := Lib.hid hlt
  have HB := Lib.hid hb
  have HP := Lib.hid hp
  clear hs hx hlt hb hp
  go_enter Tryd.func35, Tryd.ntmps35
  go_wp2
  go_loopg [0, 9] xs.length (fun gk p i wr => NumsRel w l xs gk p i wr)
  case atStart => exact ⟨0, A, m, c, by omega, rfl, rfl, by simpa [numsB] using HS.out, fun h => absurd h (by omega), Below.refl _ _⟩
  case round =>
    obtain ⟨j, A1, n1, c1, hj, rfl, rfl, hs1, hown, hbel⟩ := hrel
    have HJ := Lib.hid hj
    have HO := Lib.hid hown
    have HB1 := Lib.hid hbel
    have HS1 := Lib.hid hs1
    clear hj hown hs1
    by_cases hlt : j < xs.length
    · obtain ⟨b, o, v, rfl, hbb, hv, hc⟩ := HX.out.at_ (j := j) (t := 0) hlt (by omega)
      rw [Nat.mul_one, Nat.add_zero] at hv hc
      obtain ⟨x, HXX⟩ : ∃ x, Hid (xs[j]? = some x) := ⟨_, List.getElem?_eq_getElem hlt⟩
      have hvx : v = .int .u64 (x : Int) := by
        unfold u64s at hv
        rw [List.getElem?_map, HXX.out] at hv
        injection hv with hv
        exact hv.symm
      subst hvx
      have hx64 := HLT.out x (List.mem_of_getElem? HXX.out)
      have hcr := (hbel.cell (p := ⟨b, o + j, none⟩) hbb).trans hc
      have HX64 := Lib.hid hx64
      clear hv hc hx64 hbel
      go_wp2_with fail
      have hlen : (l ++ numsB (xs.take j)).length ≤ 1000000 := by
        have h1 := numsB_len (xs.take j) (fun y hy => HLT.out y (List.mem_of_mem_take hy))
        rw [List.length_take] at h1
        rw [List.length_append]
        have := HB.out
        omega
      refine (packNum_any wr A1 n1 c1 _ x HS1.out HX64.out hlen).mono ?_
      rintro e w2 ⟨A2, n2, c2, rfl, hown2, hb2⟩
      rw [List.append_assoc, ← numsB_snoc HXX.out] at hown2
      have HO2 := Lib.hid hown2
      have HB2 := Lib.hid hb2
      clear hown2 hb2 hlen
      go_wp2
      go_roundg (gk - 1)
      case measure => have := HJ.out; omega
      case rel =>
        have hbz := HB1.out.size
        exact ⟨j + 1, A2, n2, c2, by have := HJ.out; omega, by go_num, rfl, Sl.of_own HO2.out, fun _ => own_lower HO2.out hbz, HB1.out.trans (HB2.out.mono hbz)⟩
    · have HE : Hid (xs.take j = xs) := List.take_of_length_le (by omega)
      have HJP : Hid (0 < j) := by have := HP.out; show 0 < j; omega
      clear hbel
      go_wp2
      go_ret
      have h1 := HO.out HJP.out
      rw [HE.out] at h1
      exact ⟨A1, n1, c1, rfl, h1, HB1.out⟩
end Go.Proofs.YtlkcnpmgafckoaaDoor
