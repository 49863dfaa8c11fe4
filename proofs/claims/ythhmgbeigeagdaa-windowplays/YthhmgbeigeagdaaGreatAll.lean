/-
  CONTRACT of slices.Sort at uint64 (fewer than 30000 numbers).
  No statement is proved here.
-/
import Derived.Test.YthhmgbeigeagdaaGreatPdq
import Derived.Test.YthhmgbeigeagdaaGreatLen
namespace Go.Proofs.Ythhmgbeigeagdaa
open Go.RowKit Go.Sort

set_option maxRecDepth 100000 in
set_option maxHeartbeats 800000 in
theorem sort_s {w0 W : World} {blk off cap N : Nat} {d : Array Nat} (h : Srt w0 blk off d W) (hN : d.size = N) (hsz : N < 30000) :
    Calls Try.prog 37 #[.slice (some ⟨blk, off, none⟩) N cap] W (SortsTo w0 blk off 0 N d) := by
  have H := Lib.hid h
  have HN := Lib.hid hN
  have hw : IntKind.u64.wrap (N : Int) = (N : Int) := by rw [IntKind.wrap_u64]; omega
  have HB : Hid (Below ltB 0 N d) := Or.inl rfl
  clear h hN
  go_enter Try.func37, Try.ntmps37
  go_wp2_with fail
  refine (len_b W N (by omega)).mono ?_
  rintro e w' ⟨⟨n, rfl, h16, _, _⟩, rfl⟩
  have HL : Hid (n ≤ 64) := by show _ ≤ _; omega
  clear h16
  go_wp2_with fail
  have hc := pdq_s (w0 := w0) (blk := blk) (off := off) (cap := cap) hsz N (W := W) (a := 0) (b := N) (l := n) (d := d) (by omega) (Nat.zero_le _) (Nat.le_refl _) H.out HN.out HB.out HL.out
  refine hc.mono ?_
  rintro e w2 ⟨rfl, d', h1, h2, h3⟩
  have H3 := Lib.hid h3
  clear hc h3
  go_wp2
  go_end0
  exact ⟨rfl, d', h1, h2, H3.out⟩
end Go.Proofs.Ythhmgbeigeagdaa
