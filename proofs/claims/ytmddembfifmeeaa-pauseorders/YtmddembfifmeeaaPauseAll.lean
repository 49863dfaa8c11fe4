/-
  CONTRACTS of pause: plusAll, All.
  No statement is proved here.
-/
import Derived.Test.YtmddembfifmeeaaPauseOne
namespace Go.Proofs.Ytmddembfifmeeaa
open Go.RowKit

set_option maxRecDepth 100000 in
set_option maxHeartbeats 400000 in
theorem plusAll_any (w : World) (a n x : Nat) (ha : a ≤ 4611686018427387904) (_hn : n ≤ 9223372036854775807) (hx : 1 ≤ x) (hx2 : x ≤ 1099511627776) :
    Calls Try.prog 14 #[.int .i64 a, .int .i64 n, .int .i64 x] w (Ans w (.int .i64 (min (a + n * x) 4611686018427387904 : Nat))) := by
  have e1 : ((4611686018427387904 : Int) - a).tdiv x = (((4611686018427387904 - a) / x : Nat) : Int) := by
    have : ((4611686018427387904 : Int) - a) = ((4611686018427387904 - a : Nat) : Int) := by omega
    rw [this]; rfl
  have hq : wrap64 (((4611686018427387904 - a : Nat) : Int) / x) = (((4611686018427387904 - a) / x : Nat) : Int) := by
    have h1 : (4611686018427387904 - a) / x ≤ 4611686018427387904 - a := Nat.div_le_self _ _
    have h2 : (((4611686018427387904 - a : Nat) : Int) / x) = (((4611686018427387904 - a) / x : Nat) : Int) := by simp
    rw [h2]
    generalize (4611686018427387904 - a) / x = y at *
    unfold wrap64
    omega
  have HQ := Lib.hid hq
  clear hq
  go_enter Try.func14, Try.ntmps14
  go_wp2_with fail
  all_goals (rename_i h; rw [HQ.out] at h)
  · go_ret
    refine ⟨?_, Below.refl _ _⟩
    have hd : (4611686018427387904 - a) / x < n := by omega
    have hlt := (Nat.div_lt_iff_lt_mul (by omega : 0 < x)).1 hd
    rw [Nat.min_eq_right (by omega)]
    rfl
  · go_ret
    refine ⟨?_, Below.refl _ _⟩
    have hd : ¬ (4611686018427387904 - a) / x < n := by omega
    have hlt := mt (Nat.div_lt_iff_lt_mul (by omega : 0 < x)).2 hd
    rw [Nat.min_eq_left (by omega)]
    have h3 : wrap64 ((n : Int) * x) = ((n * x : Nat) : Int) := by
      have h4 : (n : Int) * x = ((n * x : Nat) : Int) := by simp
      rw [h4]
      unfold wrap64
      omega
    show Ending.returned (.int .i64 (wrap64 (a + wrap64 (n * x)))) = _
    rw [h3]
    congr 2
    unfold wrap64
    omega

/-- The cells of the params, and nothing turned. -/
structure Box (w : World) (g f m : Nat) : Prop where
  a : w.cell? ⟨g, 0, none⟩ = some (.int .i64 f)
  b : w.cell? ⟨g, 1, none⟩ = some (.int .i64 m)
  lt : g < w.heap.size
theorem Box.kept {w w' : World} {g f m B : Nat} (h : Box w g f m) (hb : Below B w w') (hB : g < B) : Box w' g f m :=
  ⟨(hb.cell (p := ⟨g, 0, none⟩) hB).trans h.a, (hb.cell (p := ⟨g, 1, none⟩) hB).trans h.b, Nat.lt_of_lt_of_le h.lt hb.size⟩
theorem Box.ans {w w' : World} {g f m : Nat} (h : Box w g f m) (hb : Below w.heap.size w w') : Box w' g f m := h.kept hb h.lt
theorem Box.new (w : World) (f m : Nat) (t : TypeId) : Box (w.alloc (.cells #[.int .i64 f, .int .i64 m] t)) w.heap.size f m := ⟨by simp, by simp, by simp⟩

def AllRel (w : World) (f m t k : Nat) (a i : Value) (wr : World) : Prop :=
  ∃ j, k + j = t ∧ j ≤ 40 ∧ i = .int .i64 (j : Nat) ∧ a = .int .i64 (al f m j : Nat) ∧ Box wr w.heap.size f m ∧ Below w.heap.size w wr

set_option maxRecDepth 100000 in
set_option maxHeartbeats 400000 in
theorem all_any (w : World) (f m : Nat) (t : Int) (hp : Pr f m) (ht : -9223372036854775808 ≤ t ∧ t ≤ 9223372036854775807) :
    Calls Try.prog 12 #[prv f m, .int .i64 t] w (Ans w (.int .i64 (min (al f m t.toNat) 4611686018427387904 : Nat))) := by
  have HP := Lib.hid hp
  clear hp
  unfold prv
  go_enter Try.func12, Try.ntmps12
  go_wp2_with fail
  refine (right_any _ f m).mono ?_
  rintro e w1 ⟨rfl, hb1⟩
  rw [rightI_yes HP.out]
  have hx := (Box.new w f m 24).ans hb1
  have hb : Below w.heap.size w w1 := ((Below.refl _ _).alloc (Nat.le_refl _) _).trans (hb1.mono (by simp))
  clear hb1
  go_wp2_with fail
  go_loopg [5, 12] t.toNat (fun k a i wr => AllRel w f m t.toNat k a i wr)
  case atStart => exact ⟨0, by omega, by omega, rfl, rfl, hx, hb⟩
  case round =>
    clear hx hb
    obtain ⟨j, hj, hj40, rfl, rfl, hx, hb⟩ := hrel
    have hal := al_le f m j
    have hal2 : j * m ≤ 40 * 1099511627776 := Nat.mul_le_mul hj40 HP.out.most
    have hal3 : al f m j ≤ 43980465111040 := by omega
    have hc0 := hx.a
    have hc1 := hx.b
    clear hal hal2
    by_cases hlt : (j : Int) < t
    · go_wp2_with fail
      refine (wait_nat wr f m j HP.out (by omega)).mono ?_
      rintro e w2 ⟨rfl, hb2⟩
      have hx2 := hx.ans hb2
      have hc0' := hx2.a
      have hc1' := hx2.b
      have hb' := hb.trans (hb2.mono (hb.size))
      have hwl := wt_le f m j
      by_cases he : wt f m j = m
      · have hee : ((wt f m j : Nat) : Int) = (m : Int) := by rw [he]
        have HE := Lib.hid he
        clear he
        go_wp2_with fail
        have ht' : t - (j : Int) = ((t.toNat - j : Nat) : Int) := by omega
        rw [ht']
        refine (plusAll_any w2 (al f m j) (t.toNat - j) m (by omega) (by omega) (by have := HP.out.one; have := HP.out.le; omega) HP.out.most).mono ?_
        rintro e w3 ⟨rfl, hb3⟩
        have hr := al_rest HE.out (t.toNat - j)
        rw [show j + (t.toNat - j) = t.toNat by omega] at hr
        rw [← hr]
        clear hr
        go_wp2_with fail
        go_ret
        exact ⟨rfl, hb'.trans (hb3.mono hb'.size)⟩
      · have hee : ¬ ((wt f m j : Nat) : Int) = (m : Int) := by omega
        have hj41 := few_of_lt HP.out he
        have HE := Lib.hid he
        have hm := HP.out.most
        clear he
        go_wp2_with fail
        go_roundg (gk - 1)
        case measure => omega
        case rel =>
          exact ⟨j + 1, by omega, by omega, by go_num, by show _ = Value.int .i64 ((al f m j + wt f m j : Nat) : Int); go_num, hx2, hb'⟩
    · go_wp2_with fail
      go_ret
      refine ⟨?_, hb⟩
      have : t.toNat = j := by omega
      rw [this, Nat.min_eq_left (by omega)]
      rfl
end Go.Proofs.Ytmddembfifmeeaa
