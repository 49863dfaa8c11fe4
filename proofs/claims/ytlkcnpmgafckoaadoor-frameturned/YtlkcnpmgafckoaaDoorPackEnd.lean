/-
  CONTRACTS: In.End, Of, the law's own awake.
  No statement is proved here.
-/
import Derived.Test.YtlkcnpmgafckoaaDoorPackIn
namespace Go.Proofs.YtlkcnpmgafckoaaDoor
open Go.RowKit

set_option maxHeartbeats 400000 in
theorem end_any {w : World} {g : Nat} {A : Option Addr} {n c er : Nat} {l : List UInt8} (h : InAt w g A n c er l) :
    Calls Tryd.prog 40 #[.pointer (some ⟨g, 0, none⟩)] w (Told w g (.int .i64 (endN l er : Nat)) l (endN l er)) := by
  have hln := h.sl.len
  by_cases hl : 0 < n
  · have hst : endN l er = failN er 2 := by unfold endN; rw [if_pos (by omega)]
    rw [hst]
    have HI := Lib.hid h
    clear hst h hln
    have hl' : (0 : Int) < (n : Int) := by omega
    go_enter Tryd.func40, Tryd.ntmps40
    go_wp2_with fail
    refine (left_any HI.out).mono ?_
    rintro e w' ⟨rfl, rfl⟩
    go_wp2_with fail
    refine (fail_any HI.out 2).mono ?_
    rintro e w' ⟨A2, n2, c2, rfl, hin, hg⟩
    go_wp2_with fail
    refine (err_any hin).mono ?_
    rintro e w' ⟨rfl, rfl⟩
    go_wp2
    go_ret
    exact ⟨A2, n2, c2, rfl, hin, hg⟩
  · have hst : endN l er = er := by unfold endN; rw [if_neg (by omega)]
    rw [hst]
    have HI := Lib.hid h
    clear hst h hln
    have hl' : ¬ (0 : Int) < (n : Int) := by omega
    go_enter Tryd.func40, Tryd.ntmps40
    go_wp2_with fail
    refine (left_any HI.out).mono ?_
    rintro e w' ⟨rfl, rfl⟩
    go_wp2_with fail
    refine (err_any HI.out).mono ?_
    rintro e w' ⟨rfl, rfl⟩
    go_wp2
    go_ret
    exact ⟨A, n, c, rfl, HI.out, only_refl _ _⟩

set_option maxHeartbeats 400000 in
theorem end_nil (w : World) : Calls Tryd.prog 40 #[.pointer none] w fun e w' => e = .returned (.int .i64 4) ∧ w = w' := by
  go_enter Tryd.func40, Tryd.ntmps40
  go_wp2_with fail
  refine (left_nil w).mono ?_
  rintro e w' ⟨rfl, rfl⟩
  go_wp2_with fail
  refine (err_nil w).mono ?_
  rintro e w' ⟨rfl, rfl⟩
  go_wp2
  go_ret
  exact ⟨rfl, rfl⟩

/-- A new reader is handed back. -/
def Reader (w : World) (l : List UInt8) (e : Ending) (w' : World) : Prop :=
  ∃ g A n c, w.heap.size ≤ g ∧ e = .returned (.pointer (some ⟨g, 0, none⟩)) ∧ InAt w' g A n c 0 l ∧ Below w.heap.size w w'

set_option maxHeartbeats 400000 in
theorem of_any (w : World) (A : Option Addr) (n c : Nat) (l : List UInt8) (hs : Sl w w.heap.size A n c l) (hb : l.length ≤ 2000000) :
    Calls Tryd.prog 38 #[.slice A n c] w (Reader w l) := by
  go_enter Tryd.func38, Tryd.ntmps38
  go_wp2_with fail
  refine (clone_any w A n c l hs hb).mono ?_
  rintro e w' ⟨A1, n1, c1, rfl, hown, hbel⟩
  go_wp2
  go_ret
  have hsl := Sl.of_own hown
  refine ⟨w'.heap.size, A1, n1, c1, hbel.size, rfl, ⟨heap_alloc_new w' _, hsl.alloc (Nat.le_refl _) _, hb⟩, hbel.alloc hbel.size _⟩

theorem num300 : num 300 = [172, 2] := by
  rw [num_hi (by omega), num_lo (by omega)]
  decide

theorem num300_any (w : World) : Calls Tryd.prog 62 #[.slice none 0 0, .int .u64 300] w (Fresh w [172, 2]) := by
  have h := packNum_any w none 0 0 [] 300 (Sl.nil_ w _ none 0 (by unfold maxLen; omega)) (by unfold two64; omega) (by simp)
  rw [num300, List.nil_append] at h
  exact h

end Go.Proofs.YtlkcnpmgafckoaaDoor
