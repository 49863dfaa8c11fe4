/-
  CONTRACTS of Span, Add; of sort.Search with reach's own test, reach, Has, Gap.
  No statement is proved here.
-/
import Derived.Test.YtlkcnpmgafckoaaDoorRunsJoin
import Derived.StillTailTactics
namespace Go.Proofs.YtlkcnpmgafckoaaDoor
open Go.RowKit

/-- A set laid into its result's cell. -/
theorem res_set {w w4 : World} {B R : Nat} {A : Option Addr} {n c : Nat} {L : List Rn} {M : Nat} (hb : Below w.heap.size w w4) (hR : w.heap.size ≤ R) (hRM : R < M) (hs : St w4 w4.heap.size A n c L) (hp : ∀ b o, A = some ⟨b, o, none⟩ → b < B ∨ M ≤ b) (hB : B ≤ w.heap.size) (u : Value) :
    SaysS w B L (.returned (.agg #[.slice A n c])) (w4.setCell ⟨R, 0, none⟩ u) := by
  have hz : w4.heap.size ≤ (w4.setCell ⟨R, 0, none⟩ u).heap.size := by simp [World.setCell]
  refine ⟨A, n, c, rfl, ⟨?_, fun b o e => Nat.lt_of_lt_of_le (hs.lies b o e) hz⟩, fun b o e => (hp b o e).imp id fun h => by omega, hb.setCell hR _⟩
  exact (hs.rs.off (p := ⟨R, 0, none⟩) (fun b o e => by have := hp b o e; show b ≠ R; omega) u).more hz

end Go.Proofs.YtlkcnpmgafckoaaDoor
