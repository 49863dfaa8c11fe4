/-
  WORDS for a window in its box beside a row of numbers of one's own.
  No statement is proved here.
-/
import Derived.Test.YthhmgbeigeagdaaWinFine
import Derived.Test.YthhmgbeigeagdaaOnlyW
namespace Go.Proofs.Ythhmgbeigeagdaa
open Go.RowKit

theorem St.grown {w w' : World} {A : Option Addr} {n c : Nat} {L : List Rn} {r : Option Nat} (h : St w w.heap.size A n c L) (hg : w.grownBy w' r) (ha : ∀ b o, A = some ⟨b, o, none⟩ → some b ≠ r) : St w' w'.heap.size A n c L := by
  refine ⟨⟨⟨h.rs.sn.len, h.rs.sn.le, h.rs.sn.max, fun hn => ?_⟩, h.rs.lt⟩, fun b o e => Nat.lt_of_lt_of_le (h.lies b o e) hg.size⟩
  obtain ⟨b, o, e, hb, hc⟩ := h.rs.sn.cell hn
  exact ⟨b, o, e, Nat.lt_of_lt_of_le hb hg.size, fun j x hx => hg.cell (hc j x hx) (ha b o e)⟩
theorem Kept.grown {X : Nat} {A : Option Addr} {n c : Nat} {W : Wn} {w0 w w' : World} {r : Option Nat} (h : Kept X A n c W w0 w) (hg : w.grownBy w' r) (hx : some X ≠ r) (ha : ∀ b o, A = some ⟨b, o, none⟩ → some b ≠ r) (hb : Below w0.heap.size w0 w') : Kept X A n c W w0 w' :=
  ⟨(hg.block X h.lt hx).trans h.row, ⟨h.at_.st.grown hg ha, h.at_.low, h.at_.width, h.at_.ok⟩, h.far, hb⟩
theorem nv_at {w : World} {B n c j : Nat} {A : Option Addr} {L : List Nat} (h : Sn w B A n c 1 (nvs L)) (hj : j < n) : ∃ b o x, A = some ⟨b, o, none⟩ ∧ b < B ∧ L[j]? = some x ∧ w.cell? ⟨b, o + j, none⟩ = some (.int .u64 (x : Int)) := by
  have hl : j < L.length := by have := h.len; rw [nvs_len] at this; omega
  obtain ⟨b, o, e, hb, hc⟩ := h.cell (by omega)
  exact ⟨b, o, L[j], e, hb, List.getElem?_eq_getElem hl, hc _ _ (by simp [nvs, hl, nv])⟩
/-- A window in its box, and a row of numbers. -/
structure On (w0 : World) (base X : Nat) (A : Option Addr) (n c : Nat) (W : Wn) (Ad : Option Addr) (nd cd : Nat) (l : List Nat) (w : World) : Prop where
  kp : Kept X A n c W w0 w
  own : OwnN w base Ad nd cd l
  far : ∀ g, (Value.slice Ad nd cd).ownBlock = some g → g ≠ X ∧ ∀ b o, A = some ⟨b, o, none⟩ → b ≠ g
  lo : w0.heap.size ≤ X
  b1 : w0.heap.size ≤ base
  b2 : base ≤ w.heap.size
section
variable {w0 : World} {base X : Nat} {A : Option Addr} {n c : Nat} {W : Wn} {Ad : Option Addr} {nd cd : Nat} {l : List Nat} {w w' : World}
theorem On.next (h : On w0 base X A n c W Ad nd cd l w) (hb : Below w.heap.size w w') : On w0 base X A n c W Ad nd cd l w' :=
  ⟨h.kp.next hb, own_same h.own fun b e => hb.block b (h.own.lt b e).2, h.far, h.lo, h.b1, Nat.le_trans h.b2 hb.size⟩
theorem On.store {A' : Option Addr} {n' c' : Nat} {W' : Wn} {s : Nat} (h : On w0 base X A n c W Ad nd cd l w) (hs : X < s) (hd : ∀ g, (Value.slice Ad nd cd).ownBlock = some g → g < s) (h' : Wat w A' n' c' W') (hp : ∀ b o, A' = some ⟨b, o, none⟩ → A' = A ∨ s ≤ b) : On w0 base X A' n' c' W' Ad nd cd l (set3 w X (.int .u64 (W'.low : Int)) (.int .u64 (W'.width : Int)) (.slice A' n' c')) := by
  refine ⟨h.kp.store h.lo hs h' hp, own_same h.own fun b e => ?_, fun g e => ⟨(h.far g e).1, fun b o eb => ?_⟩, h.lo, h.b1, by rw [set3_size]; exact h.b2⟩
  · have hx := (h.far b e).1
    unfold set3
    rw [row_off' _ hx, row_off' _ hx, row_off' _ hx]
  · rcases hp b o eb with h1 | h1
    · exact (h.far g e).2 b o (h1 ▸ eb)
    · have := hd g e
      omega
theorem On.own_lt (h : On w0 base X A n c W Ad nd cd l w) : ∀ g, (Value.slice Ad nd cd).ownBlock = some g → g < w.heap.size := fun g e => (h.own.lt g e).2
theorem On.app {Ad' : Option Addr} {nd' cd' : Nat} {l' : List Nat} {r : Option Nat} (h : On w0 base X A n c W Ad nd cd l w) (hb : Below base w w') (hg : w.grownBy w' r) (hr : ∀ g, r = some g → (Value.slice Ad nd cd).ownBlock = some g) (ho : OwnN w' base Ad' nd' cd' l') (hn : Ad' = Ad ∨ ∃ b, Ad' = some ⟨b, 0, none⟩ ∧ w.heap.size ≤ b) : On w0 base X A n c W Ad' nd' cd' l' w' := by
  refine ⟨h.kp.grown hg (fun e => (h.far X (hr X e.symm)).1 rfl) (fun b o eb e => (h.far b (hr b e.symm)).2 b o eb rfl) (h.kp.bel.trans (hb.mono h.b1)), ho, fun g e => ?_, h.lo, h.b1, Nat.le_trans h.b2 hg.size⟩
  rcases hn with rfl | ⟨b, rfl, hb2⟩
  · exact h.far g (by rw [own_block Ad' nd cd nd' cd']; exact e)
  · have : g = b := by
      simp [Value.ownBlock] at e
      exact e.symm
    subst this
    exact ⟨by have := h.kp.lt; omega, fun b o eb => by have := h.kp.at_.st.lies b o eb; omega⟩
theorem own_if {A : Option Addr} {n c : Nat} {g : Nat} (h : (if n = c then none else (Value.slice A n c).ownBlock) = some g) : (Value.slice A n c).ownBlock = some g := by
  split at h
  · cases h
  · exact h
theorem On.more {Ad' : Option Addr} {cd' u : Nat} (h : On w0 base X A n c W Ad nd cd l w) (h3 : w.ownsRow base 25 1 (.slice Ad nd cd) nd (nvs l) → w'.ownsRow base 25 1 (.slice Ad' (nd + 1) cd') (nd + 1) (nvs l ++ nvs [u])) (h4 : Below base w w') (h5 : w.grownBy w' (if nd = cd then none else (Value.slice Ad nd cd).ownBlock)) (h6 : Ad' = Ad ∨ ∃ b, Ad' = some ⟨b, 0, none⟩ ∧ w.heap.size ≤ b) : On w0 base X A n c W Ad' (nd + 1) cd' (l ++ [u]) w' :=
  h.app h4 h5 (fun _ e => own_if e) (by have := h3 h.own; unfold OwnN; rw [show nvs (l ++ [u]) = nvs l ++ nvs [u] from by simp [nvs]]; exact this) h6
end
end Go.Proofs.Ythhmgbeigeagdaa
