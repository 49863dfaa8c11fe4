/-
  CONTRACTS: In.End, Of, the law's own awake.
  No statement is proved here.
-/
import Derived.Test.YtmafdoodgkhgeaaPackIn
namespace Go.Proofs.Ytmafdoodgkhgeaa
open Go.RowKit

set_option maxHeartbeats 400000 in
theorem end_any {w : World} {g : Nat} {A : Option Addr} {n c er : Nat} {l : List UInt8} (h : InAt w g A n c er l) :
    Calls Try.prog 28 #[.pointer (some ⟨g, 0, none⟩)] w (Told w g (.int .i64 (endN l er : Nat)) l (endN l er)) := by
  have hln := h.sl.len
  by_cases hl : 0 < n
  · have hst : endN l er = failN er 2 := by unfold endN; rw [if_pos (by omega)]
    rw [hst]
    have HI := Lib.hid h
    clear hst h hln
    have hl' : (0 : Int) < (n : Int) := by omega
    go_enter Try.func28, Try.ntmps28
    go_wp2_with fail
    refine (left_any HI.out).mono ?_
    rintro e w' ⟨rfl, rfl⟩
    go_wp2_with fail
    refine (fail_any HI.out 2).mono ?_
    rintro e w' ⟨A2, n2, c2, rfl, hin, hg⟩
    go_wp2_with fail
    refine (err_any hin).mono ?_
    rintro e w' ⟨rfl, rfl⟩
    go_wp2
    go_ret
    exact ⟨A2, n2, c2, rfl, hin, hg⟩
  · have hst : endN l er = er := by unfold endN; rw [if_neg (by omega)]
    rw [hst]
    have HI := Lib.hid h
    clear hst h hln
    have hl' : ¬ (0 : Int) < (n : Int) := by omega
    go_enter Try.func28, Try.ntmps28
    go_wp2_with fail
    refine (left_any HI.out).mono ?_
    rintro e w' ⟨rfl, rfl⟩
    go_wp2_with fail
    refine (err_any HI.out).mono ?_
    rintro e w' ⟨rfl, rfl⟩
    go_wp2
    go_ret
    exact ⟨A, n, c, rfl, HI.out, only_refl _ _⟩

set_option maxHeartbeats 400000 in
theorem end_nil (w : World) : Calls Try.prog 28 #[.pointer none] w fun e w' => e = .returned (.int .i64 4) ∧ w = w' := by
  go_enter Try.func28, Try.ntmps28
  go_wp2_with fail
  refine (left_nil w).mono ?_
  rintro e w' ⟨rfl, rfl⟩
  go_wp2_with fail
  refine (err_nil w).mono ?_
  rintro e w' ⟨rfl, rfl⟩
  go_wp2
  go_ret
  exact ⟨rfl, rfl⟩

/-- A new reader is handed back. -/
def Reader (w : World) (l : List UInt8) (e : Ending) (w' : World) : Prop :=
  ∃ g A n c, w.heap.size ≤ g ∧ e = .returned (.pointer (some ⟨g, 0, none⟩)) ∧ InAt w' g A n c 0 l ∧ Below w.heap.size w w'

set_option maxHeartbeats 400000 in
theorem of_any (w : World) (A : Option Addr) (n c : Nat) (l : List UInt8) (hs : Sl w w.heap.size A n c l) (hb : l.length ≤ 2000000) :
    Calls Try.prog 15 #[.slice A n c] w (Reader w l) := by
  go_enter Try.func15, Try.ntmps15
  go_wp2_with fail
  refine (clone_any w A n c l hs hb).mono ?_
  rintro e w' ⟨A1, n1, c1, rfl, hown, hbel⟩
  go_wp2
  go_ret
  have hsl := Sl.of_own hown
  refine ⟨w'.heap.size, A1, n1, c1, hbel.size, rfl, ⟨heap_alloc_new w' _, hsl.alloc (Nat.le_refl _) _, hb⟩, hbel.alloc hbel.size _⟩

/-- True is handed back, and nothing that was there has turned. -/
def Yes (w : World) (e : Ending) (w' : World) : Prop := e = .returned (.bool true) ∧ Below w.heap.size w w'

theorem num300 : num 300 = [172, 2] := by
  rw [num_hi (by omega), num_lo (by omega)]
  decide

theorem num300_any (w : World) : Calls Try.prog 12 #[.slice none 0 0, .int .u64 300] w (Fresh w [172, 2]) := by
  have h := packNum_any w none 0 0 [] 300 (Sl.nil_ w _ none 0 (by unfold maxLen; omega)) (by unfold two64; omega) (by simp)
  rw [num300, List.nil_append] at h
  exact h

set_option maxHeartbeats 800000 in
set_option maxRecDepth 100000 in
theorem awake_any (w : World) : Calls Try.prog 9 #[] w (Yes w) := by
  go_enter Try.func9, Try.ntmps9
  go_wp2_with fail
  have h1 := lit_sl w 5 [128, 0] 2 rfl (by unfold maxLen; omega)
  refine (of_any _ _ 2 2 [128, 0] (by exact h1.more (by simp)) (by simp)).mono ?_
  rintro e w1 ⟨g, A1, n1, c1, hg, rfl, hin, hbel⟩
  have hb1 : Below w.heap.size w w1 := ((Below.refl _ w).alloc (Nat.le_refl _) _).trans (hbel.mono (by simp))
  clear h1 hbel
  have hgw : w.heap.size ≤ g := by simp at hg; omega
  clear hg
  have HI := Lib.hid hin; clear hin
  go_wp2_with fail
  refine (num300_any w1).mono ?_
  rintro e w2 ⟨A2, n2, c2, rfl, hown, hbel⟩
  have HI2 := Lib.hid (HI.out.below hbel HI.out.lt)
  have hb2 : Below w.heap.size w w2 := hb1.trans (hbel.mono hb1.size)
  have hlt := Nat.lt_of_lt_of_le HI.out.lt hbel.size
  clear hb1 hbel HI
  go_wp2_with fail
  have h1 := lit_sl w2 5 [172, 2] 2 rfl (by unfold maxLen; omega)
  refine (same_any _ (w2.heap.size + 1) A2 _ n2 c2 2 2 [172, 2] [172, 2] (by exact ((Sl.of_own hown).alloc (Nat.le_refl _) _).more (by omega)) (by exact h1)).mono ?_
  rintro e w3 ⟨rfl, q, rfl⟩
  have hs : sameB [172, 2] [172, 2] = true := by decide
  rw [hs]
  have HI3 : Hid (InAt ((w2.alloc (Obj.cells #[Value.int IntKind.u8 172, Value.int IntKind.u8 2] 5)).drewN q) g A1 n1 c1 0 [128, 0]) :=
    (HI2.out.below ((Below.refl w2.heap.size w2).alloc (Nat.le_refl _) _) hlt).drewN q
  have hb3 : Below w.heap.size w ((w2.alloc (Obj.cells #[Value.int IntKind.u8 172, Value.int IntKind.u8 2] 5)).drewN q) := by
    have := hb2.alloc hb2.size (.cells #[Value.int IntKind.u8 172, Value.int IntKind.u8 2] 5)
    exact ⟨this.os, this.tape, this.output, this.size, this.block⟩
  clear hs h1
  go_wp2_with fail
  refine (inNum_any (by exact HI3.out)).mono ?_
  rintro e w4 ⟨A4, n4, c4, rfl, hin4, hg4⟩
  have hst : stNum [128, 0] 0 = (0, [128, 0], 2) := by decide
  rw [hst] at hin4 ⊢
  have hb4 : Below w.heap.size w w4 := hb3.grown hg4 hb3.size (fun k hk => by injection hk with hk; omega)
  clear hst
  go_wp2_with fail
  refine (err_any hin4).mono ?_
  rintro e w5 ⟨rfl, rfl⟩
  go_wp2
  go_ret
  exact ⟨rfl, hb4⟩
end Go.Proofs.Ytmafdoodgkhgeaa
