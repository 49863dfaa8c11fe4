/-
  ROWS OF ROWS made by appends; CONTRACTS of the statements' own few, of the reference's Fits, of share.Plan when it can't be asked.
  No statement is proved here.
-/
import Derived.Test.YtfmfamnngfanfaaShareTop
namespace Go.Proofs.Ytfmfamnngfanfaa
open Go.RowKit Go.Sort

theorem ints8_info : (Try.prog.info? 22).map (fun i => (i.zero, i.size, i.bytes)) = some (some (.slice none 0 0), 1, 24) := by kernel_rfl
/-- A row of rows: the outer one is the call's own; the inner ones lie apart from it. -/
structure Bx (w : World) (base : Nat) (A : Option Addr) (n c : Nat) (R : List Ic) : Prop where
  own : w.ownsRow base 22 1 (.slice A n c) n (icvs R)
  each : ∀ x ∈ R, Is w w.heap.size x.A x.n x.c x.L
  off : ∀ x ∈ R, ∀ b o, x.A = some ⟨b, o, none⟩ → b < w.heap.size ∧ (Value.slice A n c).ownBlock ≠ some b
section
variable {w w' w9 : World} {base n c c9 : Nat} {A A9 : Option Addr} {R : List Ic} {x : Ic} {o : Obj}
theorem Bx.len (h : Bx w base A n c R) : R.length = n := by have := h.own.1; rw [icvs_len] at this; omega
theorem Bx.nil_ (w : World) (base : Nat) : Bx w base none 0 0 [] := ⟨World.ownsRow_nil _ _ _ _, fun x hx => (by cases hx), fun x hx => (by cases hx)⟩
/-- Other blocks have turned. -/
theorem Bx.only {Q : Nat → Prop} (h : Bx w base A n c R) (ho : Only Q w w') (h1 : ∀ k, (Value.slice A n c).ownBlock = some k → ¬ Q k) (h2 : ∀ x ∈ R, ∀ b o, x.A = some ⟨b, o, none⟩ → ¬ Q b) : Bx w' base A n c R :=
  ⟨own_same h.own (fun b hb => ho.block b (h.own.lt b hb).2 (h1 b hb)), fun y hy => (h.each y hy).only ho (fun b o e _ => h2 y hy b o e), fun y hy b o e => ⟨Nat.lt_of_lt_of_le (h.off y hy b o e).1 ho.size, (h.off y hy b o e).2⟩⟩
theorem Bx.below (h : Bx w base A n c R) (hb : RowKit.Below w.heap.size w w') : Bx w' base A n c R := h.only (Only.of_below (S := fun _ => False) hb) (fun _ _ k => k) (fun _ _ _ _ _ k => k)
/-- One more is appended. -/
theorem Bx.put (h : Bx w base A n c R) (hx : Is w w.heap.size x.A x.n x.c x.L) (hxo : ∀ b o, x.A = some ⟨b, o, none⟩ → b < w.heap.size ∧ (Value.slice A n c).ownBlock ≠ some b)
    (ho : w9.ownsRow base 22 1 (.slice A9 (n + 1) c9) (n + 1) (icvs R ++ icvs [x])) (hg : (w.alloc o).grownBy w9 (if n = c then none else (Value.slice A n c).ownBlock)) (hn : A9 = A ∨ ∃ b, A9 = some ⟨b, 0, none⟩ ∧ (w.alloc o).heap.size ≤ b) : Bx w9 base A9 (n + 1) c9 (R ++ [x]) := by
  have hon : Only (fun k => (Value.slice A n c).ownBlock = some k) w w9 := (Only.of_below (below_box w o)).trans (Only.of_grown hg (S := fun k => (Value.slice A n c).ownBlock = some k) (fun k e => by split at e; cases e; exact e.symm)) (fun _ _ k => k)
  have hall : ∀ y ∈ R ++ [x], Is w w.heap.size y.A y.n y.c y.L ∧ ∀ b o, y.A = some ⟨b, o, none⟩ → b < w.heap.size ∧ (Value.slice A n c).ownBlock ≠ some b := fun y hy => by
    rcases List.mem_append.1 hy with hy | hy
    · exact ⟨h.each y hy, h.off y hy⟩
    · simp at hy; subst hy; exact ⟨hx, hxo⟩
  refine ⟨by rw [show icvs (R ++ [x]) = icvs R ++ icvs [x] from by simp [icvs]]; exact ho, fun y hy => (hall y hy).1.only hon (fun b o e _ => ((hall y hy).2 b o e).2), fun y hy b o2 e => ?_⟩
  have h1 := (hall y hy).2 b o2 e
  refine ⟨Nat.lt_of_lt_of_le h1.1 hon.size, ?_⟩
  rcases hn with rfl | ⟨b9, rfl, hb9⟩
  · rw [own_block _ _ _ n c]; exact h1.2
  · intro e9
    simp [Value.ownBlock] at e9
    simp at hb9
    omega
end
/-- A row that was made later lies apart. -/
theorem fresh_off {w w2 : World} {base k k2 n n2 c c2 : Nat} {e e2 : TypeId} {A A2 : Option Addr} {xs ys : List Value} {b o : Nat} (h2 : w2.ownsRow w.heap.size e2 k2 (.slice A2 n2 c2) n2 ys) (h : w.ownsRow base e k (.slice A n c) n xs) (ha : A2 = some ⟨b, o, none⟩) : b < w2.heap.size ∧ (Value.slice A n c).ownBlock ≠ some b := by
  have hb : (Value.slice A2 n2 c2).ownBlock = some b := by
    rcases h2.2 with ⟨h3, _⟩ | ⟨g, cap, cur, hv, _⟩
    · rw [ha] at h3; cases h3
    · injection hv with h3 _ _
      rw [ha] at h3
      injection h3 with h3
      injection h3 with h3 h4
      subst h3 h4 ha
      rfl
  have h4 := h2.lt b hb
  exact ⟨h4.2, fun e => by have := (h.lt b e).2; omega⟩
/-- What few keeps. -/
def fewL (Q : List Ic) (k : Nat) : List (List Int) := ((Q.take k).take 10).map fun x => x.L.take 30
theorem few_step {Q : List Ic} {k : Nat} {x : Ic} (hx : Q[k]? = some x) : (k < 10 → fewL Q (k + 1) = fewL Q k ++ [x.L.take 30]) ∧ (10 ≤ k → fewL Q (k + 1) = fewL Q k) := by
  have hl := (List.getElem?_eq_some_iff.1 hx).1
  constructor
  · intro hk
    unfold fewL
    rw [List.take_of_length_le (l := Q.take (k + 1)) (by simp; omega), List.take_of_length_le (l := Q.take k) (by simp; omega), List.take_add_one, hx]
    simp
  · intro hk
    unfold fewL
    rw [List.take_take, List.take_take, Nat.min_eq_left (by omega), Nat.min_eq_left (by omega)]
def FewRel (w : World) (Q : List Ic) (nq gk : Nat) (v3 vi : Value) (wr : World) : Prop :=
  ∃ (k : Nat) (A : Option Addr) (n c : Nat) (R : List Ic), gk + k = nq ∧ vi = .int .i64 (k : Int) ∧ v3 = .slice A n c ∧ Bx wr w.heap.size A n c R ∧ R.map (·.L) = fewL Q k ∧ RowKit.Below w.heap.size w wr
def SaysFew (w : World) (Q : List Ic) (e : Ending) (w' : World) : Prop := ∃ A n c R, e = .returned (.slice A n c) ∧ Iss w' w'.heap.size A n c R ∧ R.map (·.L) = fewL Q Q.length ∧ RowKit.Below w.heap.size w w'
set_option maxRecDepth 100000 in
set_option maxHeartbeats 4000000 in
theorem few8_any (w : World) (Aq : Option Addr) (nq cq : Nat) (Q : List Ic) (h : Iss w w.heap.size Aq nq cq Q) :
    Calls Try.prog 14 #[.slice Aq nq cq] w (SaysFew w Q) := by
  obtain ⟨i0, hi0, hz0, hz1, hz2⟩ := info_parts int_info
  obtain ⟨i1, hj0, hj1, hj2, hj3⟩ := info_parts ints8_info
  have H := Lib.hid h
  have HL := Lib.hid h.len
  have hnm : nq ≤ 9223372036854775807 := Nat.le_trans h.sn.le h.sn.max
  clear h
  go_enter Try.func14, Try.ntmps14
  go_wp2_with fail
  go_loopg [3, 8] nq (fun gk v3 vi wr => FewRel w Q nq gk v3 vi wr)
  case atStart => exact ⟨0, none, 0, 0, [], rfl, rfl, rfl, Bx.nil_ _ _, by simp [fewL], RowKit.Below.refl _ _⟩
  case round =>
    obtain ⟨k, A, n, c, R, hgk, rfl, rfl, hbx, hR, hbel⟩ := hrel
    have HBX := Lib.hid hbx
    have HR := Lib.hid hR
    have HB := Lib.hid hbel
    have hn10 : n ≤ 10 := by
      have h1 := hbx.len
      have h2 := congrArg List.length hR
      simp [fewL] at h2
      omega
    have hbz := hbel.size
    clear hbx hR hbel
    by_cases hlt : k < nq
    · obtain ⟨b, o, x, rfl, hb, hx, hc, hxi⟩ := (H.out.below HB.out (Nat.le_refl _)).at_ hlt
      have HST := Lib.hid (few_step hx)
      by_cases hk10 : k < 10
      · have hk10I : (k : Int) < 10 := by omega
        have HXI := Lib.hid (hxi.more hbz)
        have hxl := hxi.len
        have hxc := hxi.sn.le
        have hxm := hxi.sn.max
        by_cases h30 : 30 < x.n
        · have h30I : (30 : Int) < (x.n : Int) := by omega
          have h30c : (30 : Int) ≤ (x.c : Int) := by omega
          have HTK : Hid (Sn (wr.alloc (.cells #[] 3)) wr.heap.size x.A 30 x.c 1 (ivs (x.L.take 30))) := Lib.hid ((hxi.more hbz).take (show 30 ≤ x.n by omega) (by omega) (Nat.le_refl _)).sn.alloc (Nat.le_refl _) (.cells #[] 3)
          go_wp2_with (first
            | (at_builtin; refine wpList_append_dstN _ rfl (.tmp 15) (.tmp 23) 23 23 rfl w.heap.size 22 i1 _ 1 24 Try.underlying23 hj0 hj1 hj2 hj3 rfl A n c (icvs R) rfl (.inr (HBX2.out.own.alloc _)) _ 1 (icvs [⟨A2, 30, c2, x.L.take 30⟩]) rfl (HL2.out.src Try.underlying23 (by intro u hu; simp [icvs, icv] at hu; subst hu; rfl)) (by omega) (by omega) (by have := HB2.out.size; simp; omega) ?_; intro A3 c3 w3 g1 g2 g3 g4 g5 g6; have HX3 := Lib.hid (Bx.put (x := ⟨A2, 30, c2, x.L.take 30⟩) HBX2.out HI2.out HO2O.out (g2 (by omega)) g5 g6); have HB3 := Lib.hid ((HB2.out.alloc HB2.out.size _).trans g4); clear g1 g2 g3 g4 g5 g6)
            | (at_builtin; refine wpList_append_dstN _ rfl (.tmp 16) (.tmp 21) 22 22 rfl wr.heap.size 3 i0 _ 1 8 Try.underlying22 hi0 hz0 hz1 hz2 rfl _ 0 0 [] rfl (.inr (World.ownsRow_made wr #[] 0 (Nat.le_refl _) (Nat.zero_le _) rfl)) _ 30 (ivs (x.L.take 30)) rfl (HTK.out.src Try.underlying22 (ivs_one _)) (by omega) (by omega) (by simp) ?_; intro A2 c2 w2 g1 g2 g3 g4 g5 g6; have HO2 : Hid (w2.ownsRow wr.heap.size 3 1 (.slice A2 30 c2) 30 (ivs (x.L.take 30))) := Lib.hid (by have h := g3 (World.ownsRow_made wr #[] 0 (Nat.le_refl _) (Nat.zero_le _) rfl); rw [Nat.zero_add, List.nil_append] at h; exact h); have HW2 := Lib.hid (((RowKit.Below.refl _ wr).alloc (Nat.le_refl _) _).trans g4); have HBX2 := Lib.hid (HBX.out.below HW2.out); have HB2 := Lib.hid (HB.out.trans (HW2.out.mono HB.out.size)); have HI2 : Hid (Is w2 w2.heap.size A2 30 c2 (x.L.take 30)) := Lib.hid ⟨Sn.of_own HO2.out, fun y hy => HXI.out.rng y (List.mem_of_mem_take hy)⟩; have HO2O : Hid (∀ b o, A2 = some ⟨b, o, none⟩ → b < w2.heap.size ∧ (Value.slice A n c).ownBlock ≠ some b) := Lib.hid (fun b o e => fresh_off HO2.out HBX.out.own e); have HL2 : Hid (Sn (w2.alloc (.cells #[.slice A2 30 c2] 22)) (w2.heap.size + 1) (some ⟨w2.heap.size, 0, none⟩) 1 1 1 (icvs [⟨A2, 30, c2, x.L.take 30⟩])) := lit_sn w2 22 (icvs [⟨A2, 30, c2, x.L.take 30⟩]) 1 1 rfl (by unfold maxLen; omega); clear g1 g2 g3 g4 g5 g6))
          go_roundg (gk - 1)
          case measure => omega
          case rel =>
            refine ⟨k + 1, A3, n + 1, c3, R ++ [⟨A2, 30, c2, x.L.take 30⟩], by omega, by go_num, rfl, HX3.out, ?_, HB3.out⟩
            rw [List.map_append, HR.out, HST.out.1 hk10]
            rfl
        · have h30I : ¬ (30 : Int) < (x.n : Int) := by omega
          have h30c : (x.n : Int) ≤ (x.c : Int) := by omega
          have hx140 : x.n ≤ 30 := by omega
          have HXLM : Hid (x.L.take 30 = x.L.take x.n) := Lib.hid (by rw [List.take_of_length_le (by omega), List.take_of_length_le (by omega)])
          have HTK : Hid (Sn (wr.alloc (.cells #[] 3)) wr.heap.size x.A x.n x.c 1 (ivs (x.L.take x.n))) := Lib.hid ((hxi.more hbz).take (Nat.le_refl x.n) (by omega) (Nat.le_refl _)).sn.alloc (Nat.le_refl _) (.cells #[] 3)
          go_wp2_with (first
            | (at_builtin; refine wpList_append_dstN _ rfl (.tmp 15) (.tmp 23) 23 23 rfl w.heap.size 22 i1 _ 1 24 Try.underlying23 hj0 hj1 hj2 hj3 rfl A n c (icvs R) rfl (.inr (HBX2.out.own.alloc _)) _ 1 (icvs [⟨A2, x.n, c2, x.L.take x.n⟩]) rfl (HL2.out.src Try.underlying23 (by intro u hu; simp [icvs, icv] at hu; subst hu; rfl)) (by omega) (by omega) (by have := HB2.out.size; simp; omega) ?_; intro A3 c3 w3 g1 g2 g3 g4 g5 g6; have HX3 := Lib.hid (Bx.put (x := ⟨A2, x.n, c2, x.L.take x.n⟩) HBX2.out HI2.out HO2O.out (g2 (by omega)) g5 g6); have HB3 := Lib.hid ((HB2.out.alloc HB2.out.size _).trans g4); clear g1 g2 g3 g4 g5 g6)
            | (at_builtin; refine wpList_append_dstN _ rfl (.tmp 16) (.tmp 21) 22 22 rfl wr.heap.size 3 i0 _ 1 8 Try.underlying22 hi0 hz0 hz1 hz2 rfl _ 0 0 [] rfl (.inr (World.ownsRow_made wr #[] 0 (Nat.le_refl _) (Nat.zero_le _) rfl)) _ x.n (ivs (x.L.take x.n)) rfl (HTK.out.src Try.underlying22 (ivs_one _)) (by omega) (by omega) (by simp) ?_; intro A2 c2 w2 g1 g2 g3 g4 g5 g6; have HO2 : Hid (w2.ownsRow wr.heap.size 3 1 (.slice A2 x.n c2) x.n (ivs (x.L.take x.n))) := Lib.hid (by have h := g3 (World.ownsRow_made wr #[] 0 (Nat.le_refl _) (Nat.zero_le _) rfl); rw [Nat.zero_add, List.nil_append] at h; exact h); have HW2 := Lib.hid (((RowKit.Below.refl _ wr).alloc (Nat.le_refl _) _).trans g4); have HBX2 := Lib.hid (HBX.out.below HW2.out); have HB2 := Lib.hid (HB.out.trans (HW2.out.mono HB.out.size)); have HI2 : Hid (Is w2 w2.heap.size A2 x.n c2 (x.L.take x.n)) := Lib.hid ⟨Sn.of_own HO2.out, fun y hy => HXI.out.rng y (List.mem_of_mem_take hy)⟩; have HO2O : Hid (∀ b o, A2 = some ⟨b, o, none⟩ → b < w2.heap.size ∧ (Value.slice A n c).ownBlock ≠ some b) := Lib.hid (fun b o e => fresh_off HO2.out HBX.out.own e); have HL2 : Hid (Sn (w2.alloc (.cells #[.slice A2 x.n c2] 22)) (w2.heap.size + 1) (some ⟨w2.heap.size, 0, none⟩) 1 1 1 (icvs [⟨A2, x.n, c2, x.L.take x.n⟩])) := lit_sn w2 22 (icvs [⟨A2, x.n, c2, x.L.take x.n⟩]) 1 1 rfl (by unfold maxLen; omega); clear g1 g2 g3 g4 g5 g6))
          go_roundg (gk - 1)
          case measure => omega
          case rel =>
            refine ⟨k + 1, A3, n + 1, c3, R ++ [⟨A2, x.n, c2, x.L.take x.n⟩], by omega, by go_num, rfl, HX3.out, ?_, HB3.out⟩
            rw [List.map_append, HR.out, HST.out.1 hk10, HXLM.out]
            rfl
      · have hk10I : ¬ (k : Int) < 10 := by omega
        go_wp2_with fail
        go_roundg (gk - 1)
        case measure => omega
        case rel => exact ⟨k + 1, A, n, c, R, by omega, by go_num, rfl, HBX.out, by rw [HST.out.2 (by omega)]; exact HR.out, HB.out⟩
    · have e : k = Q.length := by have := HL.out; omega
      have HR2 : Hid (R.map (·.L) = fewL Q Q.length) := by rw [← e]; exact HR
      have HK2 : Hid (Iss wr wr.heap.size A n c R) := Lib.hid ⟨Sn.of_own HBX.out.own, HBX.out.each⟩
      go_wp2_with fail
      go_ret
      exact ⟨A, n, c, R, rfl, HK2.out, HR2.out, HB.out⟩
/-! ### Fits; refusals -/
def fitsB (cap : Int) (W : List Int) (nq nw : Nat) (Q : List Ic) (cls size : Int) : Bool :=
  rightW W && decide (nq = nw) && decide (0 ≤ cls) && decide (cls < (nw : Int)) && decide (0 ≤ size) && decide (size ≤ 1048576) && decide (size ≤ cap) && decide (cap ≤ 1099511627776) && bndQ Q
theorem fits_iff (cap : Int) (W : List Int) (nq nw : Nat) (Q : List Ic) (cls size : Int) : fitsB cap W nq nw Q cls size = true ↔ rightW W = true ∧ nq = nw ∧ 0 ≤ cls ∧ cls < (nw : Int) ∧ 0 ≤ size ∧ size ≤ 1048576 ∧ size ≤ cap ∧ cap ≤ 1099511627776 ∧ bndQ Q = true := by
  unfold fitsB
  simp only [Bool.and_eq_true, decide_eq_true_eq]
  constructor
  · rintro ⟨⟨⟨⟨⟨⟨⟨⟨h1, h2⟩, h3⟩, h4⟩, h5⟩, h6⟩, h7⟩, h8⟩, h9⟩
    exact ⟨h1, h2, h3, h4, h5, h6, h7, h8, h9⟩
  · rintro ⟨h1, h2, h3, h4, h5, h6, h7, h8, h9⟩
    exact ⟨⟨⟨⟨⟨⟨⟨⟨h1, h2⟩, h3⟩, h4⟩, h5⟩, h6⟩, h7⟩, h8⟩, h9⟩
theorem fits_no {cap : Int} {W : List Int} {nq nw : Nat} {Q : List Ic} {cls size : Int} (h : ¬ (rightW W = true ∧ nq = nw ∧ 0 ≤ cls ∧ cls < (nw : Int) ∧ 0 ≤ size ∧ size ≤ 1048576 ∧ size ≤ cap ∧ cap ≤ 1099511627776 ∧ bndQ Q = true)) : fitsB cap W nq nw Q cls size = false := by
  cases hf : fitsB cap W nq nw Q cls size
  · rfl
  · exact absurd ((fits_iff _ _ _ _ _ _ _).1 hf) h
def FitRel (w : World) (Q : List Ic) (n gk : Nat) (vt vi : Value) (wr : World) : Prop :=
  ∃ k, gk + k = n ∧ vi = .int .i64 (k : Int) ∧ vt = .int .i64 (qcnt (Q.take k) : Nat) ∧ (∀ x ∈ Q.take k, x.L.all okS = true) ∧ w = wr
def FitIn (w : World) (L : List Int) (t n gk : Nat) (vt vi : Value) (wr : World) : Prop :=
  ∃ k, gk + k = n ∧ vi = .int .i64 (k : Int) ∧ vt = .int .i64 ((t + k : Nat) : Int) ∧ (∀ x ∈ L.take k, okS x = true) ∧ w = wr
set_option maxRecDepth 100000 in
set_option maxHeartbeats 4000000 in
theorem fits_any (w : World) (cap : Int) (Aw : Option Addr) (nw cw : Nat) (W : List Int) (Aq : Option Addr) (nq cq : Nat) (Q : List Ic) (cls size : Int) (hw : Is w w.heap.size Aw nw cw W) (hq : Iss w w.heap.size Aq nq cq Q) (hc : qcnt Q ≤ 1000000) :
    Calls Try.prog 54 #[.int .i64 cap, .slice Aw nw cw, .slice Aq nq cq, .int .i64 cls, .int .i64 size] w (fun e w' => e = .returned (.bool (fitsB cap W nq nw Q cls size)) ∧ w = w') := by
  have HW := Lib.hid hw
  have H := Lib.hid hq
  have HL := Lib.hid hq.len
  have hn : nq ≤ 9223372036854775807 := Nat.le_trans hq.sn.le hq.sn.max
  clear hw hq
  by_cases hr : rightW W = true
  · have HR := Lib.hid hr
    clear hr
    by_cases he : nq = nw
    · have heI : ((nq : Int) != (nw : Int)) = false := by simp; omega
      by_cases h3 : 0 ≤ cls
      · have g3 : ¬ cls < 0 := by omega
        by_cases h4 : cls < (nw : Int)
        · have g4 : ¬ (nw : Int) ≤ cls := by omega
          by_cases h5 : 0 ≤ size
          · have g5 : ¬ size < 0 := by omega
            by_cases h6 : size ≤ 1048576
            · have g6 : ¬ 1048576 < size := by omega
              by_cases h7 : size ≤ cap
              · have g7 : ¬ cap < size := by omega
                by_cases h8 : cap ≤ 1099511627776
                · have g8 : ¬ 1099511627776 < cap := by omega
                  obtain rfl : nw = nq := by omega
                  have HBQ : Hid (bndQ Q = fitsB cap W nw nw Q cls size) := Lib.hid (by
                    cases hb : bndQ Q
                    · exact (fits_no (fun h => by have := h.2.2.2.2.2.2.2.2; rw [hb] at this; cases this)).symm
                    · exact ((fits_iff _ _ _ _ _ _ _).2 ⟨HR.out, rfl, h3, h4, h5, h6, h7, h8, hb⟩).symm)
                  rw [← HBQ.out]
                  clear HBQ
                  go_enter Try.func54, Try.ntmps54
                  go_wp2_with fail
                  refine (refRight8_any w Aw nw cw W HW.out).mono ?_
                  rintro e w1 ⟨rfl, rfl⟩
                  rw [HR.out]
                  go_wp2_with fail
                  go_loopg [11, 55] nw (fun gk vt vi wr => FitRel w Q nw gk vt vi wr)
                  case atStart => exact ⟨0, rfl, rfl, rfl, by simp, rfl⟩
                  case round =>
                    obtain ⟨k, hk, rfl, rfl, hall, rfl⟩ := hrel
                    have HALL := Lib.hid hall
                    clear hall
                    by_cases hlt : k < nw
                    · obtain ⟨b, o, x, rfl, hb, hx, hcx, hxi⟩ := H.out.at_ hlt
                      have hm := qcnt_pre Q (k + 1)
                      have h1 := qcnt_take hx
                      rw [h1] at hm
                      have HXI := Lib.hid hxi
                      have HXL := Lib.hid hxi.len
                      have HMEM := Lib.hid (List.mem_of_getElem? hx)
                      have HX := Lib.hid hx
                      have H1 := Lib.hid h1
                      clear h1 hx hxi
                      generalize qcnt (Q.take k) = t at *
                      go_wp2_with fail
                      obtain ⟨g0, rfl⟩ : ∃ x, x = gk := ⟨_, rfl⟩
                      go_loopg [11, 61] x.n (fun gk vt vi wr => FitIn w x.L t x.n gk vt vi wr)
                      case atStart => exact ⟨0, rfl, rfl, rfl, by simp, rfl⟩
                      case round =>
                        obtain ⟨i, hi, rfl, rfl, hall, rfl⟩ := hrel
                        have HA2 := Lib.hid hall
                        clear hall
                        by_cases hlt2 : i < x.n
                        · obtain ⟨b2, o2, y, hA2, hb2, hy, hc2, hyr⟩ := HXI.out.at_ hlt2
                          obtain ⟨xA, xn, xc, xL⟩ := x
                          simp only at hA2
                          subst hA2
                          have HY := Lib.hid hy
                          have HYM := Lib.hid (List.mem_of_getElem? hy)
                          have hti : ((t + i : Nat) : Int) ≤ 1000000 := by simp only at hm hlt2; omega
                          clear hy
                          by_cases h1 : y < 0
                          · go_wp2_with fail
                            go_ret
                            rw [bnd_bad HMEM.out HYM.out (by unfold okS; simp; omega)]
                            exact ⟨rfl, rfl⟩
                          · by_cases h2 : 1048576 < y
                            · go_wp2_with fail
                              go_ret
                              rw [bnd_bad HMEM.out HYM.out (by unfold okS; simp; omega)]
                              exact ⟨rfl, rfl⟩
                            · obtain ⟨T, hT⟩ : ∃ T : Int, T = ((t + i : Nat) : Int) := ⟨_, rfl⟩
                              rw [← hT] at hti
                              have hT0 : 0 ≤ T := by omega
                              have HT := Lib.hid hT
                              rw [← hT]
                              clear hT
                              go_wp2_with fail
                              go_roundg (gk - 1)
                              case measure => omega
                              case rel =>
                                refine ⟨i + 1, by omega, by go_num, by rw [HT.out]; go_num, fun z hz => ?_, rfl⟩
                                rw [List.take_add_one, HY.out] at hz
                                rcases List.mem_append.1 hz with hz | hz
                                · exact HA2.out z hz
                                · simp at hz
                                  subst hz
                                  unfold okS
                                  simp
                                  omega
                        · have HT : Hid (x.L.all okS = true) := by
                            show _ = _
                            rw [List.all_eq_true]
                            intro z hz
                            exact HA2.out z (by rw [List.take_of_length_le (by have := HXL.out; omega)]; exact hz)
                          have hix : i = x.n := by omega
                          go_wp2_with fail
                          go_roundg (g0 - 1)
                          case measure => omega
                          case rel =>
                            refine ⟨k + 1, by omega, by go_num, by rw [H1.out, hix], fun z hz => ?_, rfl⟩
                            rw [List.take_add_one, HX.out] at hz
                            rcases List.mem_append.1 hz with hz | hz
                            · exact HALL.out z hz
                            · simp at hz
                              subst hz
                              exact HT.out
                    · have hT : Q.all (fun x => x.L.all okS) = true := by
                        rw [List.all_eq_true]
                        intro x hx
                        exact HALL.out x (by rw [List.take_of_length_le (by have := HL.out; omega)]; exact hx)
                      have hQ : Q.take k = Q := List.take_of_length_le (by have := HL.out; omega)
                      have HRQ : Hid (bndQ Q = decide (((qcnt Q : Nat) : Int) ≤ 65536)) := by
                        show _ = _
                        unfold bndQ
                        rw [hT, Bool.eq_iff_iff]
                        simp
                        omega
                      clear hT
                      rw [hQ]
                      clear hQ
                      go_wp2_with fail
                      go_ret
                      rw [HRQ.out]
                      exact ⟨rfl, rfl⟩
                · have g8 : 1099511627776 < cap := by omega
                  have HF : Hid (fitsB cap W nq nw Q cls size = false) := Lib.hid (fits_no (fun h => by exact h8 h.2.2.2.2.2.2.2.1))
                  go_enter Try.func54, Try.ntmps54
                  go_wp2_with fail
                  refine (refRight8_any w Aw nw cw W HW.out).mono ?_
                  rintro e w1 ⟨rfl, rfl⟩
                  rw [HR.out]
                  go_wp2_with fail
                  go_ret
                  exact ⟨(by rw [HF.out]; first | done | rfl), rfl⟩
              · have g7 : cap < size := by omega
                have HF : Hid (fitsB cap W nq nw Q cls size = false) := Lib.hid (fits_no (fun h => by exact h7 h.2.2.2.2.2.2.1))
                go_enter Try.func54, Try.ntmps54
                go_wp2_with fail
                refine (refRight8_any w Aw nw cw W HW.out).mono ?_
                rintro e w1 ⟨rfl, rfl⟩
                rw [HR.out]
                go_wp2_with fail
                go_ret
                exact ⟨(by rw [HF.out]; first | done | rfl), rfl⟩
            · have g6 : 1048576 < size := by omega
              have HF : Hid (fitsB cap W nq nw Q cls size = false) := Lib.hid (fits_no (fun h => by exact h6 h.2.2.2.2.2.1))
              go_enter Try.func54, Try.ntmps54
              go_wp2_with fail
              refine (refRight8_any w Aw nw cw W HW.out).mono ?_
              rintro e w1 ⟨rfl, rfl⟩
              rw [HR.out]
              go_wp2_with fail
              go_ret
              exact ⟨(by rw [HF.out]; first | done | rfl), rfl⟩
          · have g5 : size < 0 := by omega
            have HF : Hid (fitsB cap W nq nw Q cls size = false) := Lib.hid (fits_no (fun h => by exact h5 h.2.2.2.2.1))
            go_enter Try.func54, Try.ntmps54
            go_wp2_with fail
            refine (refRight8_any w Aw nw cw W HW.out).mono ?_
            rintro e w1 ⟨rfl, rfl⟩
            rw [HR.out]
            go_wp2_with fail
            go_ret
            exact ⟨(by rw [HF.out]; first | done | rfl), rfl⟩
        · have g4 : (nw : Int) ≤ cls := by omega
          have HF : Hid (fitsB cap W nq nw Q cls size = false) := Lib.hid (fits_no (fun h => by exact h4 h.2.2.2.1))
          go_enter Try.func54, Try.ntmps54
          go_wp2_with fail
          refine (refRight8_any w Aw nw cw W HW.out).mono ?_
          rintro e w1 ⟨rfl, rfl⟩
          rw [HR.out]
          go_wp2_with fail
          go_ret
          exact ⟨(by rw [HF.out]; first | done | rfl), rfl⟩
      · have g3 : cls < 0 := by omega
        have HF : Hid (fitsB cap W nq nw Q cls size = false) := Lib.hid (fits_no (fun h => by exact h3 h.2.2.1))
        go_enter Try.func54, Try.ntmps54
        go_wp2_with fail
        refine (refRight8_any w Aw nw cw W HW.out).mono ?_
        rintro e w1 ⟨rfl, rfl⟩
        rw [HR.out]
        go_wp2_with fail
        go_ret
        exact ⟨(by rw [HF.out]; first | done | rfl), rfl⟩
    · have heI : ((nq : Int) != (nw : Int)) = true := by simp; omega
      have HF : Hid (fitsB cap W nq nw Q cls size = false) := Lib.hid (fits_no (fun h => by exact he h.2.1))
      go_enter Try.func54, Try.ntmps54
      go_wp2_with fail
      refine (refRight8_any w Aw nw cw W HW.out).mono ?_
      rintro e w1 ⟨rfl, rfl⟩
      rw [HR.out]
      go_wp2_with fail
      go_ret
      exact ⟨(by rw [HF.out]; first | done | rfl), rfl⟩
  · have hr2 : rightW W = false := by simpa using hr
    have HR := Lib.hid hr2
    clear hr2
    have HF : Hid (fitsB cap W nq nw Q cls size = false) := Lib.hid (fits_no (fun h => by exact hr h.1))
    go_enter Try.func54, Try.ntmps54
    go_wp2_with fail
    refine (refRight8_any w Aw nw cw W HW.out).mono ?_
    rintro e w1 ⟨rfl, rfl⟩
    rw [HR.out]
    go_wp2_with fail
    go_ret
    exact ⟨(by rw [HF.out]; first | done | rfl), rfl⟩
end Go.Proofs.Ytfmfamnngfanfaa
