/-
  THE WALK of the law RunsMakes: whatever the runs, it returns true, and turns nothing that was there.
-/
import Derived.Test.YtefoeebchjnfaaaRunsBun
namespace Go.Proofs.Ytefoeebchjnfaaa
open Go.RowKit

theorem canon_set_iff {L : List Rn} (h : ∀ q ∈ L, q.1 < two64 ∧ q.2 < two64) : Canon L ↔ L = setL L := by
  obtain ⟨h1, h2, _⟩ := set_spec L h
  constructor
  · exact fun hc => okl_ext ⟨hc, h⟩ h1 fun x => (h2 x).symm
  · intro he
    rw [he]
    exact h1.can
set_option maxRecDepth 100000 in
set_option maxHeartbeats 1000000 in
theorem runsMakes_law (w : World) (A : Option Addr) (n c : Nat) (l : List Rn) (hs : Rs w w.heap.size A n c l) :
    Calls Try.prog 5 #[.slice A n c] w (Says w (.bool true)) := by
  have HB := Lib.hid ((Bun.start w).addR (m := n) hs (Nat.le_refl _))
  clear hs
  go_enter Try.func5, Try.ntmps5
  go_wp2_with fail
  refine (awake_b HB.out).mono ?_
  rintro e w1 ⟨rfl, hb⟩
  have HB1 := Lib.hid hb
  clear hb HB
  go_wp2_with fail
  refine (few_b HB1.out List.mem_cons_self).mono ?_
  rintro e w1' ⟨rfl, rfl⟩
  have HB2 := Lib.hid (HB1.out.few List.mem_cons_self)
  have HLT := Lib.hid (HB2.out.lt List.mem_cons_self)
  generalize l.take (min n 20) = L at *
  generalize min n 20 = m at *
  clear HB1
  by_cases hc : Canon L
  · have HC := Lib.hid hc
    have HE := Lib.hid ((canon_set_iff HLT.out).1 hc)
    clear hc
    go_wp2_with fail
    refine (make_yes HB2.out List.mem_cons_self (by omega) HC.out).mono ?_
    rintro e w2 ⟨A2, n2, c2, rfl, hb⟩
    have HB3 := Lib.hid (hb.box (.slice A2 n2 c2) 27)
    clear hb HB2
    go_wp2_with fail
    generalize w2.alloc (.cells #[.slice A2 n2 c2] 27) = w3 at *
    refine (own_b HB3.out List.mem_cons_self (by omega)).mono ?_
    rintro e w4 ⟨A4, n4, c4, rfl, hb⟩
    have HB4 := Lib.hid hb
    clear hb HB3
    go_wp2_with fail
    refine (own_b HB4.out (.tail _ List.mem_cons_self) (by omega)).mono ?_
    rintro e w5 ⟨A5, n5, c5, rfl, hb⟩
    have HB5 := Lib.hid hb
    clear hb HB4
    go_wp2_with fail
    refine (plain_b HB5.out List.mem_cons_self (by omega)).mono ?_
    rintro e w6 ⟨A6, n6, c6, rfl, hb⟩
    have HB6 := Lib.hid hb
    clear hb HB5
    go_wp2_with fail
    refine (refSame_yes HB6.out (.tail _ (.tail _ List.mem_cons_self)) List.mem_cons_self HE.out).mono ?_
    rintro e w7 ⟨rfl, hb⟩
    have HB7 := Lib.hid hb
    have hc7 := hb.cell _ List.mem_cons_self
    simp only at hc7
    clear hb HB6
    go_wp2_with fail
    refine (runs_b HB7.out List.mem_cons_self (by omega)).mono ?_
    rintro e w8 ⟨A8, n8, c8, rfl, hb⟩
    have HB8 := Lib.hid hb
    clear hb HB7 hc7
    go_wp2_with fail
    refine (own_b HB8.out List.mem_cons_self (by omega)).mono ?_
    rintro e w9 ⟨A9, n9, c9, rfl, hb⟩
    have HB9 := Lib.hid hb
    clear hb HB8
    go_wp2_with fail
    refine (own_b HB9.out (.tail _ (.tail _ (.tail _ (.tail _ (.tail _ List.mem_cons_self))))) (by omega)).mono ?_
    rintro e w10 ⟨A10, n10, c10, rfl, hb⟩
    have HB10 := Lib.hid hb
    clear hb HB9
    go_wp2_with fail
    refine (refSame_yes HB10.out (.tail _ List.mem_cons_self) List.mem_cons_self rfl).mono ?_
    rintro e w11 ⟨rfl, hb⟩
    have HB11 := Lib.hid hb
    clear hb HB10
    go_wp2
    go_ret
    exact ⟨rfl, HB11.out.bel⟩
  · have HC := Lib.hid hc
    have HE : Hid (sameR L (setL L) = false) := by
      show _ = _
      unfold sameR
      rw [decide_eq_false_iff_not]
      exact fun h => hc ((canon_set_iff HLT.out).2 h)
    clear hc
    go_wp2_with fail
    refine (make_no HB2.out List.mem_cons_self (by omega) HC.out).mono ?_
    rintro e w2 ⟨rfl, hb⟩
    have HB3 := Lib.hid ((hb.add (St.nil_ _ _) Okl.nil (Nat.le_refl 0)).box (.slice none 0 0) 27)
    clear hb HB2
    go_wp2_with fail
    generalize w2.alloc (.cells #[.slice none 0 0] 27) = w3 at *
    refine (own_b HB3.out List.mem_cons_self (by omega)).mono ?_
    rintro e w4 ⟨A4, n4, c4, rfl, hb⟩
    have HB4 := Lib.hid hb
    clear hb HB3
    go_wp2_with fail
    refine (own_b HB4.out (.tail _ List.mem_cons_self) (by omega)).mono ?_
    rintro e w5 ⟨A5, n5, c5, rfl, hb⟩
    have HB5 := Lib.hid hb
    clear hb HB4
    go_wp2_with fail
    refine (plain_b HB5.out List.mem_cons_self (by omega)).mono ?_
    rintro e w6 ⟨A6, n6, c6, rfl, hb⟩
    have HB6 := Lib.hid hb
    have hsm := refSame_b hb (.tail _ (.tail _ List.mem_cons_self)) List.mem_cons_self
    rw [HE.out] at hsm
    have HSM := Lib.hid hsm
    clear hb HB5 hsm
    go_wp2_with fail
    refine HSM.out.mono ?_
    rintro e w7 ⟨rfl, hb⟩
    have HB7 := Lib.hid hb
    have hc7 := hb.cell _ List.mem_cons_self
    simp only at hc7
    clear hb HB6 HSM
    go_wp2_with fail
    refine (same_yes HB7.out List.mem_cons_self List.mem_cons_self rfl).mono ?_
    rintro e w8 ⟨rfl, hb⟩
    have HB8 := Lib.hid hb
    clear hb HB7
    go_wp2
    go_ret
    exact ⟨rfl, HB8.out.bel⟩
end Go.Proofs.Ytefoeebchjnfaaa
