/-
  MATHEMATICS of items written one behind the other: read again, and cut off.
  No statement is proved here.
-/
import Derived.Test.YtlkcnpmgafckoaaDoorLawPuts
import Derived.Test.YtlkcnpmgafckoaaDoorReadMath
namespace Go.Proofs.YtlkcnpmgafckoaaDoor

theorem num_high (n : Nat) : ∀ (i : Nat) (x : UInt8), (num n)[i]? = some x → i + 1 < (num n).length → 128 ≤ x.toNat := by
  induction n using Nat.strongRecOn with
  | ind n ih =>
    intro i x hx hi
    by_cases h : n < 128
    · rw [num_lo h] at hi
      simp at hi
    · rw [num_hi (by omega)] at hx hi
      rcases i with _ | i
      · rw [List.getElem?_cons_zero] at hx
        injection hx with hx
        subst hx
        rw [UInt8.toNat_ofNat']
        omega
      · simp at hx hi
        exact ih (n / 128) (by omega) i x hx hi
theorem rd_short {n m : Nat} (hn : n < two64) (hm : m < (num n).length) : rd ((num n).take m) = (0, 0, 2) := by
  have h10 := num_len10 n hn
  have hl : ((num n).take m).length = m := by rw [List.length_take]; omega
  refine rd_none (j := m) (by omega) hl.symm ?_
  intro i x hi hx
  rw [List.getElem?_take, if_pos (by omega)] at hx
  exact num_high n i x hx (by omega)
theorem stBytes_err {l : List UInt8} {er : Nat} {most : Int} (h : er ≠ 0) : stBytes l er most = ([], l, er) := by simp [stBytes, h]
theorem stByte_err {l : List UInt8} {er : Nat} (h : er ≠ 0) : stByte l er = (0, l, er) := by simp [stByte, h]
theorem stSpan_err {l : List UInt8} {er : Nat} (h : er ≠ 0) : stSpan l er = (0, [], l, er) :=
  stSpan_no (stByte_err h) (by rw [show cls8 0 er = er from by unfold cls8; rw [if_neg (by omega)]]; exact stBytes_err h) h
theorem take_app {l t : List UInt8} {m : Nat} (h : m ≤ l.length) : (l ++ t).take m = l.take m := by rw [List.take_append_of_le_length h]
theorem stBytes_short {b : List UInt8} {m : Nat} (hb : b.length ≤ 4096) (hm : m < (byts b).length) : stBytes ((byts b).take m) 0 4096 = ([], (byts b).take m, 2) := by
  unfold byts at *
  rw [List.length_append] at hm
  by_cases h : m < (num b.length).length
  · rw [take_app (by omega)]
    simp [stBytes, rd_short (show b.length < two64 by unfold two64; omega) h]
  · rw [List.take_append, List.take_of_length_le (by omega)]
    have hr := rd_num b.length (b.take (m - (num b.length).length)) (by unfold two64; omega)
    have hj : judgeN b.length 4096 (b.take (m - (num b.length).length)).length = 2 := by
      unfold judgeN
      rw [if_neg (by omega), if_pos (by rw [List.length_take]; omega)]
    have hlen : ((num b.length ++ b.take (m - (num b.length).length)).length - (num b.length).length) = (b.take (m - (num b.length).length)).length := by simp
    unfold stBytes
    rw [hr]
    simp only [if_true, hlen, hj]
    simp
theorem stSpan_short {C : Int} {b : List UInt8} {m : Nat} (h : rightB C b.length = true) (hm : m < (spanB C b).length) : ∃ l, stSpan ((spanB C b).take m) 0 = (0, [], l, 2) := by
  obtain ⟨h1, h2, h3, h4⟩ := clsB_nat h
  unfold spanB at *
  rcases m with _ | m
  · refine ⟨[], ?_⟩
    have hb : stByte ((clsB C :: byts b).take 0) 0 = (0, [], 2) := by simp [stByte]
    exact stSpan_no hb (by rw [show cls8 0 2 = 2 from rfl]; exact stBytes_err (by omega)) (by omega)
  · rw [List.length_cons] at hm
    have hb : stByte ((clsB C :: byts b).take (m + 1)) 0 = ((clsB C).toNat, (byts b).take m, 0) := by simp [stByte]
    rw [h1] at hb
    exact ⟨_, stSpan_no hb (by rw [show cls8 C.toNat 0 = 0 from by unfold cls8; rw [if_neg (by omega)]]; exact stBytes_short h4 (by omega)) (by omega)⟩
theorem stItem_short {N : Nat} {C : Int} {b : List UInt8} {m : Nat} (hN : N < two64) (h : rightB C b.length = true) (hm : m < (itemB N C b).length) : ∃ l, stItem ((itemB N C b).take m) 0 = (0, 0, [], l, 2) := by
  unfold itemB at *
  rw [List.length_append] at hm
  by_cases hc : m < (num N).length
  · rw [take_app (by omega)]
    have hs : stNum ((num N).take m) 0 = (0, (num N).take m, 2) := by simp [stNum, rd_short hN hc]
    exact ⟨_, stItem_no hs (stSpan_err (by omega)) (by omega)⟩
  · rw [List.take_append, List.take_of_length_le (by omega)]
    obtain ⟨l, hl⟩ := stSpan_short (m := m - (num N).length) h (by omega)
    exact ⟨l, stItem_no (stNum_num N _ hN) hl (by omega)⟩

/-- An item; what is read of many, one behind the other. -/
structure It where
  N : Nat
  C : Int
  b : List UInt8
def It.ok (x : It) : Prop := x.N < two64 ∧ rightB x.C x.b.length = true
def itB (x : It) : List UInt8 := itemB x.N x.C x.b
def itsB (xs : List It) : List UInt8 := xs.flatMap itB
theorem itsB_snoc {xs : List It} {j : Nat} {x : It} (h : xs[j]? = some x) : itsB (xs.take (j + 1)) = itsB (xs.take j) ++ itB x := by
  unfold itsB
  rw [List.take_add_one, h, List.flatMap_append]
  simp
theorem itsB_split (xs : List It) (j : Nat) : itsB xs = itsB (xs.take j) ++ itsB (xs.drop j) := by
  unfold itsB
  rw [← List.flatMap_append, List.take_append_drop]
theorem itsB_drop {xs : List It} {j : Nat} {x : It} (h : xs[j]? = some x) : itsB (xs.drop j) = itB x ++ itsB (xs.drop (j + 1)) := by
  obtain ⟨hl, rfl⟩ := List.getElem?_eq_some_iff.1 h
  unfold itsB
  rw [List.drop_eq_getElem_cons hl, List.flatMap_cons]
/-- What is left of all bytes but those behind k, once the first j items are read. -/
def leftB (xs : List It) (k j : Nat) : List UInt8 := ((itsB xs).take k).drop (itsB (xs.take j)).length
theorem leftB_eq (xs : List It) (k j : Nat) : leftB xs k j = (itsB (xs.drop j)).take (k - (itsB (xs.take j)).length) := by
  unfold leftB
  rw [List.drop_take]
  conv => lhs; rw [itsB_split xs j]
  rw [List.drop_left]
theorem leftB_ok {xs : List It} {k j : Nat} {x : It} (h : xs[j]? = some x) (hx : x.ok) (hk : (itsB (xs.take (j + 1))).length ≤ k) : stItem (leftB xs k j) 0 = (x.N, x.C.toNat, x.b, leftB xs k (j + 1), 0) := by
  rw [leftB_eq, leftB_eq, itsB_drop h]
  have hs := itsB_snoc h
  have hl : (itsB (xs.take (j + 1))).length = (itsB (xs.take j)).length + (itB x).length := by rw [hs, List.length_append]
  rw [List.take_append, List.take_of_length_le (by omega), show k - (itsB (xs.take j)).length - (itB x).length = k - (itsB (xs.take (j + 1))).length from by omega]
  exact stItem_put hx.1 hx.2
theorem leftB_short {xs : List It} {k j : Nat} {x : It} (h : xs[j]? = some x) (hx : x.ok) (hk : k < (itsB (xs.take (j + 1))).length) (hj : (itsB (xs.take j)).length ≤ k) : ∃ l, stItem (leftB xs k j) 0 = (0, 0, [], l, 2) := by
  rw [leftB_eq, itsB_drop h]
  have hs := itsB_snoc h
  have hl : (itsB (xs.take (j + 1))).length = (itsB (xs.take j)).length + (itB x).length := by rw [hs, List.length_append]
  rw [take_app (by omega)]
  exact stItem_short hx.1 hx.2 (by unfold itB at hl; omega)
theorem leftB_start (xs : List It) (k : Nat) : leftB xs k 0 = (itsB xs).take k := by simp [leftB, itsB]
theorem leftB_end {xs : List It} {k : Nat} {j : Nat} (hj : xs.length ≤ j) (hk : k ≤ (itsB xs).length) : leftB xs k j = [] := by
  unfold leftB
  rw [List.take_of_length_le hj]
  exact List.drop_eq_nil_of_le (by rw [List.length_take]; omega)
end Go.Proofs.YtlkcnpmgafckoaaDoor
