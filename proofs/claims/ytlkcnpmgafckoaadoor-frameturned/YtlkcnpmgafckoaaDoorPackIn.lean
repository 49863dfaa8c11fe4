/-
  CONTRACTS: pack's reader In: Of, reads, take, judge, Err, Left, Num, Bytes, Byte, Fail, End.
  No statement is proved here.
-/
import Derived.Test.YtlkcnpmgafckoaaDoorPackRead
namespace Go.Proofs.YtlkcnpmgafckoaaDoor
open Go.RowKit

/-- A reader in block g: what is left to read (below g), the error. -/
structure InAt (w : World) (g : Nat) (A : Option Addr) (n c : Nat) (er : Nat) (l : List UInt8) : Prop where
  blk : w.heap[g]? = some (.cells #[.slice A n c, .int .i64 (er : Int)] 112 (0, 0))
  sl : Sl w g A n c l
  small : l.length ≤ 2000000

section
variable {w w' : World} {g : Nat} {A : Option Addr} {n c er : Nat} {l : List UInt8}
theorem InAt.lt (h : InAt w g A n c er l) : g < w.heap.size := (Array.getElem?_eq_some_iff.1 h.blk).1
theorem InAt.cell0 (h : InAt w g A n c er l) : w.cell? ⟨g, 0, none⟩ = some (.slice A n c) := by rw [cell_of_row w g 0 _ _ _ h.blk]; rfl
theorem InAt.cell1 (h : InAt w g A n c er l) : w.cell? ⟨g, 1, none⟩ = some (.int .i64 (er : Int)) := by rw [cell_of_row w g 1 _ _ _ h.blk]; rfl
theorem InAt.frz (h : InAt w g A n c er l) (i : Nat) : w.frozen? ⟨g, i, none⟩ = false := by simp [World.frozen?, h.blk]
theorem InAt.drewN (h : InAt w g A n c er l) (k : Nat) : InAt (w.drewN k) g A n c er l := ⟨h.blk, h.sl.drewN k, h.small⟩
theorem InAt.kept {row : Option Nat} (h : InAt w g A n c er l) (hg : w.grownBy w' row) (hr : ∀ k, row = some k → g < k) : InAt w' g A n c er l := by
  have hb : ∀ k, k ≤ g → w'.heap[k]? = w.heap[k]? := fun k hk => hg.block k (Nat.lt_of_le_of_lt hk h.lt) (fun e => by have := hr k e.symm; omega)
  exact ⟨(hb g (Nat.le_refl _)).trans h.blk, h.sl.keep fun b o hbg => World.cell?_of_block (a := ⟨b, o, none⟩) (hb b (by omega)), h.small⟩
theorem InAt.below {B : Nat} (h : InAt w g A n c er l) (hb : Below B w w') (hB : g < B) : InAt w' g A n c er l :=
  ⟨(hb.block g hB).trans h.blk, h.sl.below hb (by omega), h.small⟩
theorem InAt.setErr (h : InAt w g A n c er l) (e : Nat) : InAt (w.setCell ⟨g, 1, none⟩ (.int .i64 (e : Int))) g A n c e l := by
  refine ⟨?_, h.sl.setCell (p := ⟨g, 1, none⟩) (Nat.le_refl _) _, h.small⟩
  have hb := h.blk
  simp [World.setCell, Array.getElem?_modify, hb]
theorem InAt.setRest (h : InAt w g A n c er l) {A' : Option Addr} {n' c' : Nat} {l' : List UInt8} (hs : Sl w g A' n' c' l') (hl : l'.length ≤ 2000000) : InAt (w.setCell ⟨g, 0, none⟩ (.slice A' n' c')) g A' n' c' er l' := by
  refine ⟨?_, hs.setCell (p := ⟨g, 0, none⟩) (Nat.le_refl _) _, hl⟩
  have hb := h.blk
  simp [World.setCell, Array.getElem?_modify, hb]
theorem only_set (w : World) (g i : Nat) (u : Value) : w.grownBy (w.setCell ⟨g, i, none⟩ u) (some g) :=
  ⟨rfl, rfl, rfl, by simp [World.setCell], fun k _ hne => Below.heap_setCell w ⟨g, i, none⟩ u k (fun e => hne (by rw [e]))⟩
theorem only_refl (w : World) (row : Option Nat) : w.grownBy w row := ⟨rfl, rfl, rfl, Nat.le_refl _, fun _ _ _ => rfl⟩
theorem only_trans {a b c : World} {row : Option Nat} (h : a.grownBy b row) (k : b.grownBy c row) : a.grownBy c row :=
  ⟨k.os.trans h.os, k.tape.trans h.tape, k.output.trans h.output, Nat.le_trans h.size k.size, fun i hi hne => (k.block i (Nat.lt_of_lt_of_le hi h.size) hne).trans (h.block i hi hne)⟩
theorem only_below {a b : World} (h : Below a.heap.size a b) (row : Option Nat) : a.grownBy b row := ⟨h.os, h.tape, h.output, h.size, fun i hi _ => h.block i hi⟩
theorem only_drewN {a w : World} {row : Option Nat} (h : a.grownBy w row) (n : Nat) : a.grownBy (w.drewN n) row := ⟨h.os, h.tape, h.output, h.size, h.block⟩
end

/-! ### judge -/
set_option maxRecDepth 100000 in
set_option maxHeartbeats 400000 in
theorem judge_any (w : World) (v : Nat) (most : Int) (left : Nat) (hv : v < two64) (hm : IntKind.u64.wrap most = most ∨ most < 0) (hl : left ≤ 2000000) :
    Calls Tryd.prog 96 #[.int .u64 (v : Int), .int .i64 most, .int .i64 (left : Int)] w fun e w' => e = .returned (.int .i64 (judgeN v most left : Nat)) ∧ w = w' := by
  have HV := Lib.hid hv; clear hv
  by_cases h1 : most < 0
  · have hj : judgeN v most left = 6 := by unfold judgeN; rw [if_pos (.inl h1)]
    rw [hj]
    clear hm hj
    go_enter Tryd.func96, Tryd.ntmps96
    go_wp2
    go_ret
    exact ⟨rfl, rfl⟩
  · have hm' : IntKind.u64.wrap most = most := hm.resolve_right h1
    by_cases h2 : most < (v : Int)
    · have hj : judgeN v most left = 6 := by unfold judgeN; rw [if_pos (.inr h2)]
      rw [hj]
      clear hm hj
      go_enter Tryd.func96, Tryd.ntmps96
      go_wp2
      go_ret
      exact ⟨rfl, rfl⟩
    · by_cases h3 : left < v
      · have hj : judgeN v most left = 2 := by unfold judgeN; rw [if_neg (by omega), if_pos h3]
        rw [hj]
        clear hm hj
        go_enter Tryd.func96, Tryd.ntmps96
        go_wp2
        go_ret
        exact ⟨rfl, rfl⟩
      · have hj : judgeN v most left = 0 := by unfold judgeN; rw [if_neg (by omega), if_neg h3]
        rw [hj]
        clear hm hj
        go_enter Tryd.func96, Tryd.ntmps96
        go_wp2
        go_ret
        exact ⟨rfl, rfl⟩

/-! ### The short ones -/
set_option maxHeartbeats 400000 in
theorem reads_yes {w : World} {g : Nat} {A : Option Addr} {n c : Nat} {l : List UInt8} (h : InAt w g A n c 0 l) :
    Calls Tryd.prog 84 #[.pointer (some ⟨g, 0, none⟩)] w fun e w' => e = .returned (.bool true) ∧ w = w' := by
  have hc := h.cell1
  clear h
  go_enter Tryd.func84, Tryd.ntmps84
  go_wp2
  go_ret
  exact ⟨rfl, rfl⟩
set_option maxHeartbeats 400000 in
theorem reads_no {w : World} {g : Nat} {A : Option Addr} {n c er : Nat} {l : List UInt8} (h : InAt w g A n c er l) (he : er ≠ 0) :
    Calls Tryd.prog 84 #[.pointer (some ⟨g, 0, none⟩)] w fun e w' => e = .returned (.bool false) ∧ w = w' := by
  have hc := h.cell1
  have hq : ((er : Int) == 0) = false := by simp; omega
  clear h he
  go_enter Tryd.func84, Tryd.ntmps84
  go_wp2
  go_ret
  exact ⟨rfl, rfl⟩
set_option maxHeartbeats 400000 in
theorem reads_nil (w : World) : Calls Tryd.prog 84 #[.pointer none] w fun e w' => e = .returned (.bool false) ∧ w = w' := by
  go_enter Tryd.func84, Tryd.ntmps84
  go_wp2
  go_ret
  exact ⟨rfl, rfl⟩
set_option maxHeartbeats 400000 in
theorem err_any {w : World} {g : Nat} {A : Option Addr} {n c er : Nat} {l : List UInt8} (h : InAt w g A n c er l) :
    Calls Tryd.prog 72 #[.pointer (some ⟨g, 0, none⟩)] w fun e w' => e = .returned (.int .i64 (er : Int)) ∧ w = w' := by
  have hc := h.cell1
  clear h
  go_enter Tryd.func72, Tryd.ntmps72
  go_wp2
  go_ret
  exact ⟨rfl, rfl⟩
set_option maxHeartbeats 400000 in
theorem err_nil (w : World) : Calls Tryd.prog 72 #[.pointer none] w fun e w' => e = .returned (.int .i64 4) ∧ w = w' := by
  go_enter Tryd.func72, Tryd.ntmps72
  go_wp2
  go_ret
  exact ⟨rfl, rfl⟩
set_option maxHeartbeats 400000 in
theorem left_any {w : World} {g : Nat} {A : Option Addr} {n c er : Nat} {l : List UInt8} (h : InAt w g A n c er l) :
    Calls Tryd.prog 71 #[.pointer (some ⟨g, 0, none⟩)] w fun e w' => e = .returned (.int .i64 (n : Int)) ∧ w = w' := by
  have hc := h.cell0
  clear h
  go_enter Tryd.func71, Tryd.ntmps71
  go_wp2
  go_ret
  exact ⟨rfl, rfl⟩
set_option maxHeartbeats 400000 in
theorem left_nil (w : World) : Calls Tryd.prog 71 #[.pointer none] w fun e w' => e = .returned (.int .i64 0) ∧ w = w' := by
  go_enter Tryd.func71, Tryd.ntmps71
  go_wp2
  go_ret
  exact ⟨rfl, rfl⟩

/-! ### take -/
def Took (w : World) (g : Nat) (k : Nat) (l : List UInt8) (er : Nat) (e : Ending) (w' : World) : Prop :=
  ∃ A1 c1 A2 n2 c2, e = .returned (.slice A1 k c1) ∧ Sl w' g A1 k c1 (l.take k) ∧ InAt w' g A2 n2 c2 er (l.drop k) ∧ w.grownBy w' (some g)
set_option maxHeartbeats 400000 in
theorem take_any {w : World} {g : Nat} {A : Option Addr} {n c er : Nat} {l : List UInt8} (h : InAt w g A n c er l) (k : Nat) (hk : k ≤ l.length) :
    Calls Tryd.prog 85 #[.pointer (some ⟨g, 0, none⟩), .int .i64 (k : Int)] w (Took w g k l er) := by
  have hc := h.cell0
  have hf := h.frz 0
  have hln := h.sl.len
  have hkn : k ≤ n := by omega
  have hle := h.sl.le
  have hmax := h.sl.max
  unfold maxLen at hmax
  have ht := h.sl.take (k := k) (m := c) hkn (by omega) (Nat.le_refl _)
  have hd := h.sl.drop (k := k) hkn
  have HI := Lib.hid h; clear h
  have HLN := Lib.hid hln; clear hln hk
  have hsm : (l.drop k).length ≤ 2000000 := by have := HI.out.small; rw [List.length_drop]; omega
  by_cases hck : c = k
  · subst hck
    rw [if_pos rfl, Nat.sub_self, show n - c = 0 from by omega] at hd
    go_enter Tryd.func85, Tryd.ntmps85
    go_wp2
    go_ret
    exact ⟨A, c, _, _, _, rfl, ht.setCell (p := ⟨g, 0, none⟩) (Nat.le_refl _) _, HI.out.setRest hd hsm, only_set w g 0 _⟩
  · rw [if_neg hck] at hd
    go_enter Tryd.func85, Tryd.ntmps85
    go_wp2
    go_ret
    exact ⟨A, c, _, _, _, rfl, ht.setCell (p := ⟨g, 0, none⟩) (Nat.le_refl _) _, HI.out.setRest hd hsm, only_set w g 0 _⟩

/-! ### Num, Byte, Bytes -/
/-- A number is handed back; the reader has gone on to l', with the error er'. -/
def Told (w : World) (g : Nat) (v : Value) (l' : List UInt8) (er' : Nat) (e : Ending) (w' : World) : Prop :=
  ∃ A n c, e = .returned v ∧ InAt w' g A n c er' l' ∧ w.grownBy w' (some g)

set_option maxHeartbeats 400000 in
theorem inNum_any {w : World} {g : Nat} {A : Option Addr} {n c er : Nat} {l : List UInt8} (h : InAt w g A n c er l) :
    Calls Tryd.prog 70 #[.pointer (some ⟨g, 0, none⟩)] w (Told w g (.int .u64 ((stNum l er).1 : Nat)) (stNum l er).2.1 (stNum l er).2.2) := by
  by_cases her : er = 0
  · subst her
    obtain ⟨⟨v, s, e⟩, hr⟩ : ∃ x, rd l = x := ⟨_, rfl⟩
    have hbd := rd_bd hr
    have hc := h.cell0
    have hf := h.frz 1
    have hc1 := h.cell1
    by_cases he : e = 0
    · subst he
      have hst : stNum l 0 = (v, l.drop s, 0) := by simp [stNum, hr]
      rw [hst]
      have HB := Lib.hid hbd
      have HR := Lib.hid hr
      have HI := Lib.hid h
      clear hst hbd hr h
      go_enter Tryd.func70, Tryd.ntmps70
      go_wp2_with fail
      refine (reads_yes HI.out).mono ?_
      rintro e w' ⟨rfl, rfl⟩
      go_wp2_with fail
      refine (number_any w g A n c l v s 0 HI.out.sl HR.out HI.out.small).mono ?_
      rintro e w' ⟨rfl, rfl⟩
      go_wp2_with fail
      refine (take_any HI.out s HB.out.2.1).mono ?_
      rintro e w' ⟨A1, c1, A2, n2, c2, rfl, _, hin, hg⟩
      go_wp2
      go_ret
      exact ⟨A2, n2, c2, rfl, hin, hg⟩
    · have hst : stNum l 0 = (0, l, e) := by simp [stNum, hr, he]
      rw [hst]
      have HR := Lib.hid hr
      have HI := Lib.hid h
      have hne : ((e : Int) != 0) = true := by simp; omega
      clear hst hbd hr h he
      go_enter Tryd.func70, Tryd.ntmps70
      go_wp2_with fail
      refine (reads_yes HI.out).mono ?_
      rintro e w' ⟨rfl, rfl⟩
      go_wp2_with fail
      refine (number_any w g A n c l v s _ HI.out.sl HR.out HI.out.small).mono ?_
      rintro e w' ⟨rfl, rfl⟩
      go_wp2
      go_ret
      exact ⟨A, n, c, rfl, HI.out.setErr _, only_set w g 1 _⟩
  · have hst : stNum l er = (0, l, er) := by simp [stNum, her]
    rw [hst]
    have HI := Lib.hid h
    clear hst h
    go_enter Tryd.func70, Tryd.ntmps70
    go_wp2_with fail
    refine (reads_no HI.out her).mono ?_
    rintro e w' ⟨rfl, rfl⟩
    go_wp2
    go_ret
    exact ⟨A, n, c, rfl, HI.out, only_refl _ _⟩

theorem inNum_nil (w : World) : Calls Tryd.prog 70 #[.pointer none] w fun e w' => e = .returned (.int .u64 0) ∧ w = w' := by
  go_enter Tryd.func70, Tryd.ntmps70
  go_wp2_with fail
  refine (reads_nil w).mono ?_
  rintro e w' ⟨rfl, rfl⟩
  go_wp2
  go_ret
  exact ⟨rfl, rfl⟩

/-- Bytes are handed back, in a new row; the reader has gone on. -/
def ToldRow (w : World) (g : Nat) (b : List UInt8) (l' : List UInt8) (er' : Nat) (e : Ending) (w' : World) : Prop :=
  ∃ A n c A1 n1 c1, e = .returned (.slice A1 n1 c1) ∧ w'.ownsRow w.heap.size 5 1 (.slice A1 n1 c1) n1 (cbs b) ∧ InAt w' g A n c er' l' ∧ w.grownBy w' (some g)

theorem own_nil (w : World) (base : Nat) : w.ownsRow base 5 1 (.slice none 0 0) 0 (cbs []) := ⟨rfl, .inl ⟨rfl, rfl⟩⟩

theorem own_lower {w : World} {base base' : Nat} {v : Value} {n : Nat} {xs : List Value} (h : w.ownsRow base 5 1 v n xs) (hb : base' ≤ base) : w.ownsRow base' 5 1 v n xs := by
  refine ⟨h.1, ?_⟩
  rcases h.2 with hn | ⟨g, cap, cur, hv, hbg, rest⟩
  · exact .inl hn
  · exact .inr ⟨g, cap, cur, hv, Nat.le_trans hb hbg, rest⟩
theorem judge_lt (v : Nat) (most : Int) (left : Nat) : judgeN v most left < 8 := by unfold judgeN; split <;> (try split) <;> omega

set_option maxRecDepth 100000 in
set_option maxHeartbeats 400000 in
theorem inBytes_any {w : World} {g : Nat} {A : Option Addr} {n c er : Nat} {l : List UInt8} (h : InAt w g A n c er l) (most : Int) (hm : IntKind.u64.wrap most = most ∨ most < 0) :
    Calls Tryd.prog 95 #[.pointer (some ⟨g, 0, none⟩), .int .i64 most] w (ToldRow w g (stBytes l er most).1 (stBytes l er most).2.1 (stBytes l er most).2.2) := by
  have HM := Lib.hid hm; clear hm
  by_cases her : er = 0
  · subst her
    obtain ⟨⟨v, s, e⟩, hr⟩ : ∃ x, rd l = x := ⟨_, rfl⟩
    have hbd := rd_bd hr
    have hc := h.cell0
    have hf := h.frz 1
    have hc1 := h.cell1
    have hln := h.sl.len
    have hsm := h.small
    by_cases he : e = 0
    · subst he
      have hsn : s ≤ n := by omega
      have hn2 : n ≤ 2000000 := by omega
      have hsub : ((n : Int) - (s : Int)) = ((n - s : Nat) : Int) := by omega
      have HSUB := Lib.hid hsub; clear hsub
      obtain ⟨jv, hjv⟩ : ∃ jv, judgeN v most (l.length - s) = jv := ⟨_, rfl⟩
      by_cases hj : jv = 0
      · subst hj
        have hst : stBytes l 0 most = ((l.drop s).take v, l.drop (s + v), 0) := by simp [stBytes, hr, hjv]
        have hv : v ≤ (l.drop s).length := by
          rw [List.length_drop]
          unfold judgeN at hjv
          by_cases h1 : most < 0 ∨ most < (v : Int)
          · rw [if_pos h1] at hjv; omega
          · rw [if_neg h1] at hjv
            by_cases h2 : l.length - s < v
            · rw [if_pos h2] at hjv; omega
            · omega
        rw [hst]
        rw [hln] at hjv
        have hvn : v ≤ n - s := by rw [List.length_drop] at hv; omega
        have HV := Lib.hid hv
        have HB := Lib.hid hbd
        have HR := Lib.hid hr
        have HI := Lib.hid h
        have HJ := Lib.hid hjv
        clear hst hbd hr h hjv hln hsm hv
        go_enter Tryd.func95, Tryd.ntmps95
        go_wp2_with fail
        refine (reads_yes HI.out).mono ?_
        rintro e w' ⟨rfl, rfl⟩
        go_wp2_with fail
        refine (number_any w g A n c l v s 0 HI.out.sl HR.out HI.out.small).mono ?_
        rintro e w' ⟨rfl, rfl⟩
        go_wp2_with fail
        rw [HSUB.out]
        refine (judge_any w v most (n - s) HB.out.1 HM.out (by omega)).mono ?_
        rintro e w' ⟨rfl, rfl⟩
        rw [HJ.out]
        go_wp2_with fail
        refine (take_any HI.out s HB.out.2.1).mono ?_
        rintro e w' ⟨A1, c1, A2, n2, c2, rfl, _, hin, hg⟩
        go_wp2_with fail
        refine (take_any hin v HV.out).mono ?_
        rintro e w2 ⟨A3, c3, A4, n4, c4, rfl, hsl, hin2, hg2⟩
        clear hc hf hc1
        go_wp2_with fail
        refine (clone_any w2 A3 v c3 ((l.drop s).take v) (hsl.more (Nat.le_of_lt hin2.lt)) ?_).mono ?_
        · have := HV.out; rw [List.length_take]; omega
        rintro e w3 ⟨A5, n5, c5, rfl, hown, hbel⟩
        go_wp2
        go_ret
        refine ⟨A4, n4, c4, A5, n5, c5, rfl, own_lower hown (Nat.le_trans hg.size hg2.size), ?_, only_trans (only_trans hg hg2) (only_below hbel _)⟩
        have hin3 := hin2.below hbel hin2.lt
        rw [List.drop_drop] at hin3
        exact hin3
      · have hst : stBytes l 0 most = ([], l, jv) := by simp [stBytes, hr, hjv, hj]
        rw [hst]
        rw [hln] at hjv
        have hne : ((jv : Int) != 0) = true := by simp; omega
        have HB := Lib.hid hbd
        have HR := Lib.hid hr
        have HI := Lib.hid h
        have HJ := Lib.hid hjv
        clear hst hbd hr h hjv hln hsm hj
        go_enter Tryd.func95, Tryd.ntmps95
        go_wp2_with fail
        refine (reads_yes HI.out).mono ?_
        rintro e w' ⟨rfl, rfl⟩
        go_wp2_with fail
        refine (number_any w g A n c l v s 0 HI.out.sl HR.out HI.out.small).mono ?_
        rintro e w' ⟨rfl, rfl⟩
        go_wp2_with fail
        rw [HSUB.out]
        refine (judge_any w v most (n - s) HB.out.1 HM.out (by omega)).mono ?_
        rintro e w' ⟨rfl, rfl⟩
        rw [HJ.out]
        go_wp2
        go_ret
        exact ⟨A, n, c, none, 0, 0, rfl, own_nil _ _, HI.out.setErr _, only_set w g 1 _⟩
    · have hst : stBytes l 0 most = ([], l, e) := by simp [stBytes, hr, he]
      rw [hst]
      have HR := Lib.hid hr
      have HI := Lib.hid h
      have hne : ((e : Int) != 0) = true := by simp; omega
      have hne' : ((e : Int) == 0) = false := by simp; omega
      clear hst hbd hr h he hln hsm
      go_enter Tryd.func95, Tryd.ntmps95
      go_wp2_with fail
      refine (reads_yes HI.out).mono ?_
      rintro e w' ⟨rfl, rfl⟩
      go_wp2_with fail
      refine (number_any w g A n c l v s _ HI.out.sl HR.out HI.out.small).mono ?_
      rintro e w' ⟨rfl, rfl⟩
      go_wp2
      go_ret
      exact ⟨A, n, c, none, 0, 0, rfl, own_nil _ _, HI.out.setErr _, only_set w g 1 _⟩
  · have hst : stBytes l er most = ([], l, er) := by simp [stBytes, her]
    rw [hst]
    have HI := Lib.hid h
    clear hst h
    go_enter Tryd.func95, Tryd.ntmps95
    go_wp2_with fail
    refine (reads_no HI.out her).mono ?_
    rintro e w' ⟨rfl, rfl⟩
    go_wp2
    go_ret
    exact ⟨A, n, c, none, 0, 0, rfl, own_nil _ _, HI.out, only_refl _ _⟩

theorem inBytes_nil (w : World) (most : Int) : Calls Tryd.prog 95 #[.pointer none, .int .i64 most] w fun e w' => e = .returned (.slice none 0 0) ∧ w = w' := by
  go_enter Tryd.func95, Tryd.ntmps95
  go_wp2_with fail
  refine (reads_nil w).mono ?_
  rintro e w' ⟨rfl, rfl⟩
  go_wp2
  go_ret
  exact ⟨rfl, rfl⟩

theorem inByte_nil (w : World) : Calls Tryd.prog 67 #[.pointer none] w fun e w' => e = .returned (.int .u8 0) ∧ w = w' := by
  go_enter Tryd.func67, Tryd.ntmps67
  go_wp2_with fail
  refine (reads_nil w).mono ?_
  rintro e w' ⟨rfl, rfl⟩
  go_wp2
  go_ret
  exact ⟨rfl, rfl⟩

set_option maxHeartbeats 400000 in
theorem inByte_any {w : World} {g : Nat} {A : Option Addr} {n c er : Nat} {l : List UInt8} (h : InAt w g A n c er l) :
    Calls Tryd.prog 67 #[.pointer (some ⟨g, 0, none⟩)] w (Told w g (.int .u8 ((stByte l er).1 : Nat)) (stByte l er).2.1 (stByte l er).2.2) := by
  by_cases her : er = 0
  · subst her
    have hc := h.cell0
    have hf := h.frz 1
    have hc1 := h.cell1
    have hln := h.sl.len
    rcases l with _ | ⟨b, t⟩
    · have hn : n = 0 := by simpa using hln.symm
      subst hn
      have hst : stByte [] 0 = (0, [], 2) := by simp [stByte]
      rw [hst]
      have HI := Lib.hid h
      clear hst h hln
      go_enter Tryd.func67, Tryd.ntmps67
      go_wp2_with fail
      refine (reads_yes HI.out).mono ?_
      rintro e w' ⟨rfl, rfl⟩
      go_wp2
      go_ret
      exact ⟨A, 0, c, rfl, HI.out.setErr 2, only_set w g 1 _⟩
    · have hst : stByte (b :: t) 0 = (b.toNat, t, 0) := by simp [stByte]
      have hn : ((n : Int) == 0) = false := by simp at hln; simp; omega
      rw [hst]
      have HI := Lib.hid h
      clear hst h hln
      go_enter Tryd.func67, Tryd.ntmps67
      go_wp2_with fail
      refine (reads_yes HI.out).mono ?_
      rintro e w' ⟨rfl, rfl⟩
      go_wp2_with fail
      refine (take_any HI.out 1 (by simp)).mono ?_
      rintro e w' ⟨A1, c1, A2, n2, c2, rfl, hsl, hin, hg⟩
      obtain ⟨b', o', x, rfl, _, hx, hcell⟩ := hsl.at_ (k := 0) (by omega)
      have hxb : x = b := by simpa using hx.symm
      subst hxb
      simp only [Nat.add_zero] at hcell
      clear hc hf hc1 hx
      go_wp2
      go_ret
      exact ⟨A2, n2, c2, rfl, hin, hg⟩
  · have hst : stByte l er = (0, l, er) := by simp [stByte, her]
    rw [hst]
    have HI := Lib.hid h
    clear hst h
    go_enter Tryd.func67, Tryd.ntmps67
    go_wp2_with fail
    refine (reads_no HI.out her).mono ?_
    rintro e w' ⟨rfl, rfl⟩
    go_wp2
    go_ret
    exact ⟨A, n, c, rfl, HI.out, only_refl _ _⟩

/-! ### Fail, End, Of -/
def failN (er e : Nat) : Nat := if er = 0 then e else er
def endN (l : List UInt8) (er : Nat) : Nat := if 0 < l.length then failN er 2 else er
def Done (w : World) (g : Nat) (l' : List UInt8) (er' : Nat) (e : Ending) (w' : World) : Prop :=
  ∃ A n c, e = .returned (.tuple #[]) ∧ InAt w' g A n c er' l' ∧ w.grownBy w' (some g)
set_option maxHeartbeats 400000 in
theorem fail_any {w : World} {g : Nat} {A : Option Addr} {n c er : Nat} {l : List UInt8} (h : InAt w g A n c er l) (e : Nat) :
    Calls Tryd.prog 68 #[.pointer (some ⟨g, 0, none⟩), .int .i64 (e : Int)] w (Done w g l (failN er e)) := by
  by_cases her : er = 0
  · subst her
    have hst : failN 0 e = e := by simp [failN]
    rw [hst]
    have hf := h.frz 1
    have hc1 := h.cell1
    have HI := Lib.hid h
    clear hst h
    go_enter Tryd.func68, Tryd.ntmps68
    go_wp2_with fail
    refine (reads_yes HI.out).mono ?_
    rintro e w' ⟨rfl, rfl⟩
    go_wp2
    go_end0
    exact ⟨A, n, c, rfl, HI.out.setErr _, only_set w g 1 _⟩
  · have hst : failN er e = er := by simp [failN, her]
    rw [hst]
    have HI := Lib.hid h
    clear hst h
    go_enter Tryd.func68, Tryd.ntmps68
    go_wp2_with fail
    refine (reads_no HI.out her).mono ?_
    rintro e w' ⟨rfl, rfl⟩
    go_wp2
    go_end0
    exact ⟨A, n, c, rfl, HI.out, only_refl _ _⟩
theorem fail_nil (w : World) (e : Int) : Calls Tryd.prog 68 #[.pointer none, .int .i64 e] w fun e w' => e = .returned (.tuple #[]) ∧ w = w' := by
  go_enter Tryd.func68, Tryd.ntmps68
  go_wp2_with fail
  refine (reads_nil w).mono ?_
  rintro e w' ⟨rfl, rfl⟩
  go_wp2
  go_end0
  exact ⟨rfl, rfl⟩
end Go.Proofs.YtlkcnpmgafckoaaDoor
