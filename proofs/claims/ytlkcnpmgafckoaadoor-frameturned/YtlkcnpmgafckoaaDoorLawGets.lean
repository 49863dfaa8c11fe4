/-
  THE WALK of the law SpanGets: whatever the bytes, it returns true, and turns nothing that was there.
-/
import Derived.Test.YtlkcnpmgafckoaaDoorRefSpan
namespace Go.Proofs.YtlkcnpmgafckoaaDoor
open Go.RowKit

theorem own_grown {w w' : World} {base k : Nat} {v : Value} {n : Nat} {xs : List Value} (h : w.ownsRow base 5 1 v n xs) (hg : w.grownBy w' (some k)) (hk : k < base) : w'.ownsRow base 5 1 v n xs := by
  obtain ⟨h1, h2⟩ := h
  refine ⟨h1, ?_⟩
  rcases h2 with h2 | ⟨g, cap, cur, hv, hg', hh, r⟩
  · exact Or.inl h2
  · exact Or.inr ⟨g, cap, cur, hv, hg', by rw [hg.block g (Array.getElem?_eq_some_iff.1 hh).1 (fun e => by injection e with e; omega)]; exact hh, r⟩
theorem below_grown {w0 w w' : World} {B k : Nat} (h : Below B w0 w) (hg : w.grownBy w' (some k)) (hk : B ≤ k) (hB : B ≤ w.heap.size) : Below B w0 w' :=
  ⟨hg.os.trans h.os, hg.tape.trans h.tape, hg.output.trans h.output, Nat.le_trans h.size hg.size, fun i hi => (hg.block i (by omega) (fun e => by injection e with e; omega)).trans (h.block i hi)⟩
theorem Sl.past {w w' : World} {B : Nat} {row : Option Nat} {A : Option Addr} {n c : Nat} {l : List UInt8} (h : Sl w B A n c l) (hg : w.grownBy w' row) (hB : B ≤ w.heap.size) (hr : ∀ k, row = some k → B ≤ k) : Sl w' B A n c l :=
  h.keep fun b o hb => World.cell?_of_block (a := ⟨b, o, none⟩) (hg.block b (by show b < _; omega) (fun e => by have := hr b e.symm; omega))
theorem ever_in {w : World} {g : Nat} {A : Option Addr} {n c er : Nat} {l : List UInt8} (h : InAt w g A n c er l) : Ever (fun w2 => InAt w2 g A n c er l) w := fun _ hb => h.below hb h.lt
theorem says_same {P : Program} {f : FuncId} {args : Array Value} {w : World} {v : Value} (h : Calls P f args w fun e w' => e = .returned v ∧ w = w') : Calls P f args w (Says w v) := h.mono fun _ _ ⟨he, hw⟩ => ⟨he, hw ▸ Below.refl _ _⟩

end Go.Proofs.YtlkcnpmgafckoaaDoor
