/-
  CONTRACT of the reference's Plain.
  No statement is proved here.
-/
import Derived.Test.YtjgkfoldbnjpeaaPlainMath
namespace Go.Proofs.Ytjgkfoldbnjpeaa
open Go.RowKit

def OwnP (w : World) (base : Nat) (A : Option Addr) (n c : Nat) (L : List Rn) : Prop := w.ownsRow base 59 2 (.slice A n c) n (rvs L)
def PlainRel (w : World) (l : List Rn) (gk : Nat) (vo va : Value) (wr : World) : Prop :=
  ∃ (A : Option Addr) (n c a : Nat) (P : List Rn), vo = .slice A n c ∧ va = .int .u64 (a : Int) ∧ OwnP wr w.heap.size A n c P ∧ PlainSt l a P ∧ left l a ≤ gk ∧ n + left l a ≤ l.length ∧ Below w.heap.size w wr
/-- While a run grows: its cell is block Y; below Y nothing has turned since wp. -/
def GrowRel (wp : World) (Y : Nat) (l : List Rn) (a f t1 gk : Nat) (vg : Value) (wr : World) : Prop :=
  ∃ (t : Nat) (g : Bool), vg = .bool g ∧ wr.heap[Y]? = some (.cells #[.int .u64 (f : Int), .int .u64 (t : Int)] 59 (0, 0)) ∧ GrowSt l a f t ∧ t1 ≤ t ∧ (g = false → closed3 l t) ∧ left l (t + 1) + (if g = true then 1 else 0) ≤ gk ∧ Below Y wp wr
def PassRel (wp : World) (Y : Nat) (l : List Rn) (a f t0 gk : Nat) (vg vi : Value) (wr : World) : Prop :=
  ∃ (k t : Nat) (g : Bool), gk + k = l.length ∧ vg = .bool g ∧ vi = .int .i64 (k : Int) ∧ wr.heap[Y]? = some (.cells #[.int .u64 (f : Int), .int .u64 (t : Int)] 59 (0, 0)) ∧ GrowSt l a f t ∧ t0 ≤ t ∧
    (g = false → t = t0 ∧ ∀ j x, j < k → l[j]? = some x → ¬ ext x t) ∧ (g = true → t0 < t ∧ ∃ x ∈ l, x.2 = t) ∧ Below Y wp wr

theorem Far.of_ownP {w : World} {base X : Nat} {A : Option Addr} {n c : Nat} {L : List Rn} (h : OwnP w base A n c L) (hX : w.heap.size ≤ X) : Far X A := by
  intro p e
  subst e
  have := (h.lt p.block (by simp [Value.ownBlock])).2
  omega
theorem setCell1_row (w : World) (X : Nat) (t : TypeId) (a u v : Value) (h : w.heap[X]? = some (.cells #[a, u] t (0, 0))) : (w.setCell ⟨X, 1, none⟩ v).heap[X]? = some (.cells #[a, v] t (0, 0)) := by
  simp [World.setCell, Array.getElem?_modify, h]

end Go.Proofs.Ytjgkfoldbnjpeaa
