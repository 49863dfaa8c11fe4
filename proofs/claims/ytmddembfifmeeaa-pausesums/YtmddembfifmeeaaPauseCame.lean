/-
  ARGUMENTS THAT CAME IN: params.
  No statement is proved here.
-/
import Derived.Test.YtmddembfifmeeaaPauseOne
import Derived.Test.YtmddembfifmeeaaCameBase
namespace Go.Proofs.Ytmddembfifmeeaa
open Go.ChangeShapes Go.WideShapes Go.ChangeAt Go.RowKit

theorem came_params {H : Type} {enc : TypeId × Value → H} {W : World} {base : Nat} {v : Value} {d : DataW H} {p : List MemPlace}
    (hv : Value.okWide Try.prog W .any base 24 v) (h : DataW.Trod enc Try.prog W 0 (fun _ => true) true 24 v d p) :
    ∃ G N, v = prv G N := by
  obtain ⟨c0, c1, y0, y1, m, rfl, -, -, hy0, hy1⟩ := Joins.open_agg2 Try.underlying24 (by kernel_rfl) (by kernel_rfl) hv h
  obtain ⟨G, hG, -, _⟩ := DataW.trod_int Try.underlying2 hy0
  obtain ⟨N, hN, -, _⟩ := DataW.trod_int Try.underlying2 hy1
  injection hG with hG
  injection hN with hN
  subst hG hN
  exact ⟨G, N, rfl⟩
end Go.Proofs.Ytmddembfifmeeaa
