/-
  THE WALK of the law SpanPuts: whatever the bytes, the span and the number, it returns true, and turns nothing that was there.
-/
import Derived.Test.YtlkcnpmgafckoaaDoorLawGets
namespace Go.Proofs.YtlkcnpmgafckoaaDoor
open Go.RowKit

theorem clsB_nat {C : Int} {n : Nat} (h : rightB C n = true) : (clsB C).toNat = C.toNat ∧ (C.toNat : Int) = C ∧ C.toNat < 8 ∧ n ≤ 4096 := by
  unfold rightB at h
  simp at h
  refine ⟨?_, by omega, by omega, by omega⟩
  unfold clsB
  rw [UInt8.toNat_ofNat']
  omega
theorem stSpan_put {C : Int} {b t : List UInt8} (h : rightB C b.length = true) : stSpan (spanB C b ++ t) 0 = (C.toNat, b, t, 0) := by
  obtain ⟨h1, h2, h3, h4⟩ := clsB_nat h
  have hb : stByte (spanB C b ++ t) 0 = ((clsB C).toNat, byts b ++ t, 0) := by simp [stByte, spanB]
  rw [h1] at hb
  refine stSpan_ok hb ?_
  rw [show cls8 C.toNat 0 = 0 from by unfold cls8; rw [if_neg (by omega)]]
  exact stBytes_byts b t 4096 (by unfold two64; omega) (by omega)
theorem stItem_put {N : Nat} {C : Int} {b t : List UInt8} (hN : N < two64) (h : rightB C b.length = true) : stItem (itemB N C b ++ t) 0 = (N, C.toNat, b, t, 0) := by
  unfold itemB
  rw [List.append_assoc]
  exact stItem_ok (stNum_num N _ hN) (stSpan_put h)

theorem own_on {w w' : World} {base : Nat} {e : TypeId} {v : Value} {n : Nat} {xs : List Value} (h : w.ownsRow base e 1 v n xs) (hb : Below w.heap.size w w') : w'.ownsRow base e 1 v n xs := by
  refine ⟨h.1, ?_⟩
  rcases h.2 with hn | ⟨g, cap, cur, hv, hbg, hh, rest⟩
  · exact .inl hn
  · exact .inr ⟨g, cap, cur, hv, hbg, (hb.block g (Array.getElem?_eq_some_iff.1 hh).1).trans hh, rest⟩

end Go.Proofs.YtlkcnpmgafckoaaDoor
