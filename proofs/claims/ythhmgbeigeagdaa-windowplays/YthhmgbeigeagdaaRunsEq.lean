/-
  CONTRACTS of slices.Equal at runs, Same, the reference's Same; slices.Clone at runs, Runs.
  No statement is proved here.
-/
import Derived.Test.YthhmgbeigeagdaaRunsCut
namespace Go.Proofs.Ythhmgbeigeagdaa
open Go.RowKit

def sameR (L M : List Rn) : Bool := decide (L = M)
theorem take_eq_succR {l m : List Rn} {j : Nat} {x : Rn} (h1 : l[j]? = some x) (h2 : m[j]? = some x) (h : l.take j = m.take j) : l.take (j + 1) = m.take (j + 1) := by
  rw [List.take_add_one, List.take_add_one, h, h1, h2]
def SameRelR (w : World) (l m : List Rn) (k : Nat) (i : Value) (wr : World) : Prop :=
  ∃ (j q : Nat), k + j = l.length ∧ i = .int .i64 (j : Int) ∧ wr = w.drewN q ∧ l.take j = m.take j

theorem eqIn_eqR (a b : Rn) (w : World) : (Op.equalIn 10000 48 (.agg #[.int .u64 (a.1 : Int), .int .u64 (a.2 : Int)]) (.agg #[.int .u64 (b.1 : Int), .int .u64 (b.2 : Int)])).run Try.prog w = .ok (decide (a = b)) w := by
  have hS : Try.prog.underlying 48 = some (.struct (Try.prog.fieldsOf 48)) := by kernel_rfl
  have hp : Try.prog.stoodInHeld 48 = false := by kernel_rfl
  have u3 := Try.underlying25
  have a3 := Try.isAgg25
  have z3 := Try.sizeOf25
  rw [show (10000 : Nat) = 9999 + 1 from rfl, run_equalIn_agg w 9999 48 _ _ hS hp]
  simp only [Program.fieldsOf, Try.underlying48]
  go_simp
  obtain ⟨a1, a2⟩ := a
  obtain ⟨b1, b2⟩ := b
  by_cases h1 : a1 = b1 <;> by_cases h2 : a2 = b2 <;> simp [h1, h2] <;> omega
theorem guard_eqR : Try.prog.eqGuardType Try.prog.depth 48 = false := by kernel_rfl
set_option maxRecDepth 100000 in
set_option maxHeartbeats 400000 in
theorem eqR_any (w : World) (B : Nat) (A A' : Option Addr) (n c n' c' : Nat) (l l' : List Rn) (hs : Rs w B A n c l) (hs' : Rs w B A' n' c' l') :
    Calls Try.prog 45 #[.slice A n c, .slice A' n' c'] w fun e w' => e = .returned (.bool (sameR l l')) ∧ ∃ q, w' = w.drewN q := by
  have hle := hs.sn.le
  have hmax := hs.sn.max
  have hle' := hs'.sn.le
  have hmax' := hs'.sn.max
  unfold maxLen at hmax hmax'
  have hlen := Lib.hid hs.len
  have hlen' := Lib.hid hs'.len
  have hG := guard_eqR
  by_cases hnn : n = n'
  · subst hnn
    have HS := Lib.hid hs; clear hs
    have HS' := Lib.hid hs'; clear hs'
    have hne : ((n : Int) != (n : Int)) = false := by simp
    go_enter Try.func45, Try.ntmps45
    go_wp2
    go_loopg [13] n (fun k i wr => SameRelR w l l' k i wr)
    case atStart => exact ⟨0, 0, by have := hlen.out; omega, rfl, rfl, rfl⟩
    case round =>
      obtain ⟨j, q, hj, rfl, rfl, hq⟩ := hrel
      have HJ := Lib.hid hj; clear hj
      have HQ := Lib.hid hq; clear hq
      by_cases hlt : j < n
      · obtain ⟨b, o, x, rfl, _, hx, hc0, hc1, _, _⟩ := HS.out.at_ hlt
        obtain ⟨b', o', x', rfl, _, hx', hc0', hc1', _, _⟩ := HS'.out.at_ hlt
        have HX := Lib.hid hx; clear hx
        have HX' := Lib.hid hx'; clear hx'
        have hj0 : (0 : Int) ≤ (j : Int) := by omega
        have hjn : (j : Int) < (n : Int) := by omega
        have he := eqIn_eqR x x'
        by_cases hxx : x = x'
        · rw [decide_eq_true hxx] at he
          have HXX := Lib.hid hxx; clear hxx
          go_wp2
          go_quiet (fail)
          go_wp2
          go_roundg (gk - 1)
          case measure => have := HJ.out; have := hlen.out; omega
          case rel => exact ⟨j + 1, _, by have := HJ.out; have := hlen.out; omega, by go_num, rfl, take_eq_succR HX.out (by rw [HX'.out, HXX.out]) HQ.out⟩
        · rw [decide_eq_false hxx] at he
          have HXX := Lib.hid hxx; clear hxx
          go_wp2
          go_quiet (fail)
          go_wp2
          go_ret
          have : sameR l l' = false := by
            unfold sameR
            rw [decide_eq_false_iff_not]
            rintro rfl
            have h1 := HX.out
            rw [HX'.out] at h1
            injection h1 with h1
            exact HXX.out h1.symm
          exact ⟨by rw [this]; rfl, _, World.drewN_drewN ..⟩
      · have hjj : j = n := by have := HJ.out; have := hlen.out; omega
        have : sameR l l' = true := by
          have h1 := HQ.out
          rw [List.take_of_length_le (by have := hlen.out; omega), List.take_of_length_le (by have := hlen'.out; omega)] at h1
          unfold sameR
          rw [h1]
          simp
        have HT := Lib.hid this
        clear this hjj
        go_wp2
        go_ret
        exact ⟨by rw [HT.out]; rfl, _, rfl⟩
  · have hne : ((n : Int) != (n' : Int)) = true := by simp; omega
    go_enter Try.func45, Try.ntmps45
    go_wp2
    go_ret
    have : sameR l l' = false := by
      unfold sameR
      rw [decide_eq_false_iff_not]
      rintro rfl
      exact hnn (hlen.out.symm.trans hlen'.out)
    exact ⟨by rw [this]; rfl, 0, rfl⟩

theorem below_drewN' (w : World) (q : Nat) : Below w.heap.size w (w.drewN q) := below_drewN (Below.refl _ _) q
set_option maxHeartbeats 400000 in
theorem setSame_any (w : World) (A A' : Option Addr) (n c n' c' : Nat) (l l' : List Rn) (hs : Rs w w.heap.size A n c l) (hs' : Rs w w.heap.size A' n' c' l') :
    Calls Try.prog 34 #[.agg #[.slice A n c], .agg #[.slice A' n' c']] w (Says w (.bool (sameR l l'))) := by
  have H := Lib.hid hs
  have H' := Lib.hid hs'
  clear hs hs'
  go_enter Try.func34, Try.ntmps34
  go_wp2_with fail
  refine (eqR_any _ w.heap.size A A' n c n' c' l l' ((H.out.alloc (Nat.le_refl _) _).alloc (by simp) _) ((H'.out.alloc (Nat.le_refl _) _).alloc (by simp) _)).mono ?_
  rintro e w' ⟨rfl, q, rfl⟩
  go_wp2
  go_ret
  exact ⟨rfl, below_drewN ((below_box w _).alloc (by simp) _) q⟩

/-! ### Clone, Runs -/
theorem own_noneR (w : World) : (w.alloc (.cells #[] 48)).ownsRow w.heap.size 48 2 (.slice (some ⟨w.heap.size, 0, none⟩) 0 0) 0 (rvs []) :=
  ⟨rfl, .inr ⟨w.heap.size, 0, _, rfl, Nat.le_refl _, heap_alloc_new w _, Nat.le_refl _, by unfold maxLen; omega, rfl, rfl⟩⟩
theorem eqIn_nilR (w : World) (d : Nat) (a : Option Addr) (l c : Nat) : (Op.equalIn (d + 1) 26 (.slice a l c) (.slice none 0 0)).run Try.prog w = .ok a.isNone w := by
  cases a <;> simp [Op.equalIn, run_underlying Try.underlying26]
theorem eql_nilR (w : World) (a : Option Addr) (l c : Nat) : (binOp .eql 26 (.slice a l c) (.slice none 0 0)).run Try.prog w = .ok (.bool a.isNone) w := by
  have h : (Op.equal 26 (.slice a l c) (.slice none 0 0)).run Try.prog w = .ok a.isNone w := eqIn_nilR w 9999 a l c
  simp [binOp, h]
set_option maxHeartbeats 400000 in
theorem cloneR_any (w : World) (A : Option Addr) (n c : Nat) (l : List Rn) (hs : Rs w w.heap.size A n c l) (hb : n ≤ 1000000) :
    Calls Try.prog 35 #[.slice A n c] w (SaysOwn w w.heap.size l) := by
  obtain ⟨i0, hi0, hz0, hz1, hz2⟩ := info_parts run_info
  rcases A with _ | ad
  · have hn : n = 0 := by
      rcases Nat.eq_zero_or_pos n with h | h
      · exact h
      · obtain ⟨b, o, h1, _⟩ := hs.sn.cell (by omega)
        cases h1
    subst hn
    have hl : l = [] := List.eq_nil_of_length_eq_zero hs.len
    subst hl
    have hq := eql_nilR w none 0 c
    go_enter Try.func35, Try.ntmps35
    go_wp2_with fail
    go_ret
    exact ⟨none, 0, 0, rfl, ⟨rfl, .inl ⟨rfl, rfl⟩⟩, Below.refl _ _⟩
  · have hq := eql_nilR w (some ad) n c
    have H := Lib.hid hs
    clear hs
    go_enter Try.func35, Try.ntmps35
    go_wp2_with (at_builtin; refine wpList_append_dstN _ rfl (.tmp 5) (.tmp 6) 26 26 rfl w.heap.size 48 i0 _ 2 16 Try.underlying26 hi0 hz0 hz1 hz2 rfl _ 0 0 (rvs []) rfl (.inr (own_noneR w)) _ n (rvs l) rfl ((H.out.alloc (Nat.le_refl _) _).sn.src Try.underlying26 (rvs_one l)) (by omega) (by omega) (by simp) ?_; intro A3 c3 w3 h1 h2 h3 h4 h5 h6)
    go_ret
    exact ⟨A3, 0 + n, c3, by simp, h3 (own_noneR w), ((Below.refl _ w).alloc (Nat.le_refl _) _).trans h4⟩
theorem SaysOwn.of {w w1 w' : World} {L : List Rn} {e : Ending} (h : SaysOwn w1 w1.heap.size L e w') (hb : Below w.heap.size w w1) : SaysOwn w w.heap.size L e w' := by
  obtain ⟨A, n, c, he, hown, hbel⟩ := h
  have hz := hb.size
  refine ⟨A, n, c, he, ⟨hown.1, ?_⟩, hb.trans (hbel.mono hz)⟩
  rcases hown.2 with hn | ⟨g, cap, cur, hv, hbg, rest⟩
  · exact .inl hn
  · exact .inr ⟨g, cap, cur, hv, Nat.le_trans hz hbg, rest⟩
set_option maxHeartbeats 400000 in
theorem runs_any (w : World) (A : Option Addr) (n c : Nat) (l : List Rn) (hs : Rs w w.heap.size A n c l) (hb : n ≤ 1000000) :
    Calls Try.prog 24 #[.agg #[.slice A n c]] w (SaysOwn w w.heap.size l) := by
  have H := Lib.hid hs
  clear hs
  go_enter Try.func24, Try.ntmps24
  go_wp2_with fail
  refine (cloneR_any _ A n c l (H.out.onA _) hb).mono ?_
  rintro e w' h'
  have h2 := h'.of (below_box w _)
  obtain ⟨A', n', c', rfl, h3⟩ := h2
  go_wp2
  go_ret
  exact ⟨A', n', c', rfl, h3⟩
end Go.Proofs.Ythhmgbeigeagdaa
