/-
  WHAT STAYS while calls only make new memory: 'Ever Ps w': Ps now, and in each world that differs from w in new blocks alone. For regions that draw their order and hold calls.
  No statement is proved here; it holds for every program.
-/
import Derived.Test.YthhmgbeigeagdaaWords
import Derived.Deep.RegionHeld3
namespace Go.Proofs.Ythhmgbeigeagdaa
open Go.RowKit

theorem below_box (w : World) (o : Obj) : Below w.heap.size w (w.alloc o) := (Below.refl _ w).alloc (Nat.le_refl _) o
/-- A cell of the block that was made last. -/
theorem cell_last (w : World) (cs : Array Value) (t : TypeId) (g i : Nat) (hg : w.heap.size = g) : (w.alloc (.cells cs t)).cell? ⟨g, i, none⟩ = cs[i]? := by
  subst hg
  exact cell_of_row _ _ _ _ _ _ (heap_alloc_new w _)
def Ever (Ps : World → Prop) (w : World) : Prop := ∀ w2, Below w.heap.size w w2 → Ps w2
theorem Ever.now {Ps : World → Prop} {w : World} (h : Ever Ps w) : Ps w := h w (Below.refl _ _)
theorem Ever.next {Ps : World → Prop} {w w2 : World} (h : Ever Ps w) (hb : Below w.heap.size w w2) : Ever Ps w2 := fun w3 h3 => h w3 (hb.trans (h3.mono hb.size))
theorem Ever.drewN {Ps : World → Prop} {w : World} (h : Ever Ps w) (k : Nat) : Ever Ps (w.drewN k) := h.next (below_drewN (Below.refl _ _) k)
theorem Ever.alloc {Ps : World → Prop} {w : World} (h : Ever Ps w) (o : Obj) : Ever Ps (w.alloc o) := h.next ((Below.refl _ w).alloc (Nat.le_refl _) o)
theorem Ever.mk2 {Ps Qs : World → Prop} {w : World} (h : Ever Ps w) (k : ∀ w2, Ps w2 → Qs w2) : Ever Qs w := fun w2 h2 => k w2 (h w2 h2)
theorem Ever.and {Ps Qs : World → Prop} {w : World} (h : Ever Ps w) (k : Ever Qs w) : Ever (fun w2 => Ps w2 ∧ Qs w2) w := fun w2 h2 => ⟨h w2 h2, k w2 h2⟩
theorem ever_cell {w : World} {g i : Nat} {v : Value} (h : w.cell? ⟨g, i, none⟩ = some v) : Ever (fun w2 => w2.cell? ⟨g, i, none⟩ = some v) w := fun _ hb => (hb.cell (p := ⟨g, i, none⟩) (World.block_lt_of_cell? w _ h)).trans h
theorem ever_sl {w : World} {A : Option Addr} {n c : Nat} {l : List UInt8} (h : Sl w w.heap.size A n c l) : Ever (fun w2 => Sl w2 w2.heap.size A n c l) w := fun _ hb => h.on hb (Nat.le_refl _)
theorem ever_below {w0 w : World} {B : Nat} (h : Below B w0 w) (hB : B ≤ w.heap.size) : Ever (fun w2 => Below B w0 w2) w := fun _ hb => h.trans (hb.mono hB)
theorem ever_lt {w : World} {g : Nat} (h : g < w.heap.size) : Ever (fun w2 => g < w2.heap.size) w := fun _ hb => Nat.lt_of_lt_of_le h hb.size

/-- An operation that is passed by. -/
theorem not_wanted {b : Bool} {p q : Prop} (h : b = false) (hq : q) : if b = true then p else q := by subst h; simpa using hq
/-- A value is handed back, and nothing that was there has turned. -/
def Says (w : World) (v : Value) (e : Ending) (w' : World) : Prop := e = .returned v ∧ Below w.heap.size w w'
/-- A call in a region: whose contract says a value, in whatever world keeps Ps. -/
theorem calls_ever {P : Program} {f : FuncId} {args : Array Value} {W : World} {R : Ending → World → Prop} {Ps : World → Prop} {c : Prop} {v : Value}
    (hE : c ∧ Ever Ps W) (hc : ∀ w', Ps w' → Calls P f args w' (Says w' v)) (h : ∀ w2, Ever Ps w2 → R (.returned v) w2) : Calls P f args W R :=
  (hc W hE.2.now).mono fun _ w' hs => hs.1 ▸ h w' (hE.2.next hs.2)
end Go.Proofs.Ythhmgbeigeagdaa
