/-
  CONTRACT of slices.Sort at uint64 (fewer than 50 numbers).
  No statement is proved here.
-/
import Derived.Test.YtjgkfoldbnjpeaaSortPdq
import Derived.Test.YtjgkfoldbnjpeaaSortLen
namespace Go.Proofs.Ytjgkfoldbnjpeaa
open Go.RowKit Go.Sort

theorem lenN_le : ∀ x : Fin 50, lenN x.val ≤ 64 := by decide +kernel
set_option maxRecDepth 100000 in
set_option maxHeartbeats 800000 in
theorem sort_s {w0 W : World} {blk off cap N : Nat} {d : Array Nat} (h : Srt w0 blk off d W) (hN : d.size = N) (hsz : N < 50) :
    Calls Try.prog 17 #[.slice (some ⟨blk, off, none⟩) N cap] W (SortsTo w0 blk off 0 N d) := by
  have H := Lib.hid h
  have HN := Lib.hid hN
  have hw : IntKind.u64.wrap (N : Int) = (N : Int) := by rw [IntKind.wrap_u64]; omega
  have hl := lenN_le ⟨N, hsz⟩
  have HL := Lib.hid hl
  have HB : Hid (Below ltB 0 N d) := Or.inl rfl
  clear h hN hl
  go_enter Try.func17, Try.ntmps17
  go_wp2_with fail
  refine (len_x W N hsz).mono ?_
  rintro e w' ⟨rfl, rfl⟩
  go_wp2_with fail
  have hc := pdq_s (w0 := w0) (blk := blk) (off := off) (cap := cap) hsz N (W := W) (a := 0) (b := N) (l := lenN N) (d := d) (by omega) (Nat.zero_le _) (Nat.le_refl _) H.out HN.out HB.out HL.out
  refine hc.mono ?_
  rintro e w2 ⟨rfl, d', h1, h2, h3⟩
  have H3 := Lib.hid h3
  clear hc h3
  go_wp2
  go_end0
  exact ⟨rfl, d', h1, h2, H3.out⟩
end Go.Proofs.Ytjgkfoldbnjpeaa
