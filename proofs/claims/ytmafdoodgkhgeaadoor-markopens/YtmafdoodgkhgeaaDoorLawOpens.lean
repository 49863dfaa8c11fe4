/-
  THE WALK of the law MarkOpens: where the table is as the program's text lays it, it returns true, whatever the bytes, and turns nothing that was there.
-/
import Derived.Test.YtmafdoodgkhgeaaDoorMarkClose
namespace Go.Proofs.YtmafdoodgkhgeaaDoor
open Go.RowKit

set_option maxHeartbeats 1000000 in
set_option maxRecDepth 100000 in
theorem markOpens_law (w : World) (ht : TabAt w) (A0 : Option Addr) (n0 c0 : Nat) (l0 : List UInt8) (h0 : Sl w w.heap.size A0 n0 c0 l0) :
    Calls Tryd.prog 5 #[.slice A0 n0 c0] w (Yes w) := by
  have HT := Lib.hid ht; clear ht
  go_enter Tryd.func5, Tryd.ntmps5
  go_wp2_with fail
  refine (awake_any w HT.out).mono ?_
  rintro e w1 ⟨rfl, hb1⟩
  have h0' := h0.on hb1 (Nat.le_refl _)
  have HT1 := Lib.hid (HT.out.below hb1)
  clear h0 HT
  go_wp2_with fail
  refine (cut_any w1 A0 n0 c0 l0 300 h0' (by omega)).mono ?_
  rintro e w2 ⟨A3, n3, c3, rfl, hown3, hbel⟩
  have h3 := Sl.of_own hown3
  have HT2 := Lib.hid (HT1.out.below hbel)
  have hb2 := hb1.trans (hbel.mono hb1.size)
  have hl3 : (l0.take 300).length ≤ 300 := by rw [List.length_take]; omega
  generalize l0.take 300 = p at *
  clear hown3 hbel hb1 h0' HT1
  go_wp2_with fail
  refine (open_any w2 A3 n3 c3 p HT2.out h3 (by omega)).mono ?_
  rintro e w3 ⟨A4, n4, c4, rfl, h4, hbel⟩
  have h3' := h3.on hbel (Nat.le_refl _)
  have hb3 := hb2.trans (hbel.mono hb2.size)
  clear hbel hb2 h3 HT2
  go_wp2_with fail
  refine (refOpen_any w3 A3 n3 c3 p h3' (by omega)).mono ?_
  rintro e w4 ⟨A5, n5, c5, rfl, h5, hbel⟩
  have h4' := h4.on hbel (Nat.le_refl _)
  have hb4 := hb3.trans (hbel.mono hb3.size)
  generalize (opn p).1 = r at *
  generalize (opn p).2 = er at *
  clear hbel hb3 h4 h3'
  go_wp2_with fail
  refine (same_yes w4 w4.heap.size A4 A5 n4 c4 n5 c5 r h4' h5).mono ?_
  rintro e w5 ⟨rfl, q, rfl⟩
  go_wp2
  go_ret
  exact ⟨rfl, below_drewN hb4 q⟩
end Go.Proofs.YtmafdoodgkhgeaaDoor
