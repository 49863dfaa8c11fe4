/-
  TEXTS OF EARLIER ROUNDS, laid together: part 16.
  No statement is proved here.
-/
import Derived.Test.YtbnhemmklbbnmaaBdLot9
import Derived.Test.YtbnhemmklbbnmaaBdLot15

/-! ## PauseCame -/
namespace Go.Proofs.Ytbnhemmklbbnmaa
open Go.ChangeShapes Go.WideShapes Go.ChangeAt Go.RowKit

set_option maxRecDepth 100000 in
theorem came_params {H : Type} {enc : TypeId × Value → H} {W : World} {base : Nat} {v : Value} {d : DataW H} {p : List MemPlace}
    (hv : Value.okWide Try.prog W .any base 26 v) (h : DataW.Trod enc Try.prog W 0 (fun _ => true) true 26 v d p) :
    ∃ G N, v = prv G N := by
  obtain ⟨c0, c1, y0, y1, m, rfl, -, -, hy0, hy1⟩ := Joins.open_agg2 Try.underlying26 (by kernel_rfl) (by kernel_rfl) hv h
  obtain ⟨G, hG, -, _⟩ := DataW.trod_int Try.underlying2 hy0
  obtain ⟨N, hN, -, _⟩ := DataW.trod_int Try.underlying2 hy1
  injection hG with hG
  injection hN with hN
  subst hG hN
  exact ⟨G, N, rfl⟩
end Go.Proofs.Ytbnhemmklbbnmaa
