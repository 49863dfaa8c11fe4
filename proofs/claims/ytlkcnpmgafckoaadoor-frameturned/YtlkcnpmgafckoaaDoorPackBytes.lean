/-
  CONTRACTS: pack.Bytes, the reference's Bytes, bytes.Clone.
  No statement is proved here.
-/
import Derived.Test.YtlkcnpmgafckoaaDoorPackNum
namespace Go.Proofs.YtlkcnpmgafckoaaDoor
open Go.RowKit

set_option maxRecDepth 100000 in
set_option maxHeartbeats 400000 in
theorem packBytes_any (w : World) (A A' : Option Addr) (m c m' c' : Nat) (l b : List UInt8) (hs : Sl w w.heap.size A m c l) (hs' : Sl w w.heap.size A' m' c' b) (hb : l.length + b.length ≤ 900000) :
    Calls Tryd.prog 94 #[.slice A m c, .slice A' m' c'] w (Fresh w (l ++ byts b)) := by
  have hmax := hs'.max
  have hle := hs'.le
  unfold maxLen at hmax
  have hlen' := hs'.len
  have hm : m' ≤ 1000000 := by omega
  clear hmax hle
  obtain ⟨i0, hi0, hz0, hz1, hz2⟩ := info_parts u8_info
  have HL := Lib.hid hlen'; clear hlen'
  go_enter Tryd.func94, Tryd.ntmps94
  go_wp2_with fail
  refine (packNum_any w A m c l m' hs (by unfold two64; omega) (by omega)).mono ?_
  rintro e w' ⟨A2, n2, c2, rfl, hown, hbel⟩
  have hsl' : Sl w' w.heap.size A' m' c' b := hs'.below hbel (Nat.le_refl _)
  have hl2 := (Sl.of_own hown).len
  have h10 := num_len10 m' (by unfold two64; omega)
  have HBD : Hid (n2 + m' ≤ 140737488355328) := by show _ ≤ _; rw [List.length_append] at hl2; omega
  clear hl2 h10
  go_wp2_with (at_builtin; refine wpList_append_dst _ rfl (.tmp 9) (.tmp 10) 37 37 rfl w.heap.size 5 i0 Tryd.underlying37 hi0 hz0 hz1 hz2 A2 n2 c2 (l ++ num m') rfl (.inr hown) _ m' b rfl (hsl'.src Tryd.underlying37) HBD.out hbel.size ?_; intro A3 c3 w3 h1 h2 h3 h4 h5)
  go_ret
  refine ⟨A3, n2 + m', c3, rfl, ?_, hbel.trans h4⟩
  have h6 := h3 hown
  rw [List.append_assoc] at h6
  unfold byts
  rw [HL.out]
  exact h6

set_option maxRecDepth 100000 in
set_option maxHeartbeats 400000 in
theorem refBytes_any (w : World) (A : Option Addr) (m c : Nat) (b : List UInt8) (hs : Sl w w.heap.size A m c b) (hb : b.length ≤ 900000) :
    Calls Tryd.prog 92 #[.slice A m c] w (Fresh w (byts b)) := by
  have hmax := hs.max
  have hle := hs.le
  unfold maxLen at hmax
  have hlen := hs.len
  have hm : m ≤ 1000000 := by omega
  clear hmax hle
  have HL := Lib.hid hlen; clear hlen
  go_enter Tryd.func92, Tryd.ntmps92
  go_wp2_with fail
  refine (refNum_any m w (by unfold two64; omega)).mono ?_
  rintro e w' ⟨A2, n2, c2, rfl, hown, hbel⟩
  have hsl := (hs.below hbel (Nat.le_refl _)).more hbel.size
  have hsl2 := Sl.of_own hown
  have h10 := num_len10 m (by unfold two64; omega)
  go_wp2_with fail
  refine (join_two _ w'.heap.size A2 A n2 c2 m c (num m) b ?_ ?_ ?_ ?_ ?_ ?_).mono ?_
  · simp
  · simp
  · simp
  · exact (hsl2.alloc (Nat.le_refl _) _).more (by simp)
  · exact (hsl.alloc (Nat.le_refl _) _).more (by simp)
  · omega
  rintro e w3 h3
  have h4 := h3.of (hbel.alloc hbel.size _)
  obtain ⟨A3, n3, c3, rfl, h5⟩ := h4
  go_wp2
  go_ret
  refine ⟨A3, n3, c3, rfl, ?_⟩
  unfold byts
  rw [HL.out]
  exact h5

theorem own_none (w : World) : (w.alloc (.cells #[] 5)).ownsRow w.heap.size 5 1 (.slice (some ⟨w.heap.size, 0, none⟩) 0 0) 0 (cbs []) :=
  ⟨rfl, .inr ⟨w.heap.size, 0, _, rfl, Nat.le_refl _, heap_alloc_new w _, Nat.le_refl _, by unfold maxLen; omega, rfl, rfl⟩⟩
theorem eqIn_nil (w : World) (d : Nat) (a : Option Addr) (l c : Nat) : (Op.equalIn (d + 1) 37 (.slice a l c) (.slice none 0 0)).run Tryd.prog w = .ok a.isNone w := by
  cases a <;> simp [Op.equalIn, run_underlying Tryd.underlying37]
theorem eql_nil (w : World) (a : Option Addr) (l c : Nat) : (binOp .eql 37 (.slice a l c) (.slice none 0 0)).run Tryd.prog w = .ok (.bool a.isNone) w := by
  have h : (Op.equal 37 (.slice a l c) (.slice none 0 0)).run Tryd.prog w = .ok a.isNone w := eqIn_nil w 9999 a l c
  simp [binOp, h]

set_option maxHeartbeats 400000 in
theorem clone_any (w : World) (A : Option Addr) (n c : Nat) (l : List UInt8) (hs : Sl w w.heap.size A n c l) (hb : l.length ≤ 2000000) :
    Calls Tryd.prog 66 #[.slice A n c] w (Fresh w l) := by
  obtain ⟨i0, hi0, hz0, hz1, hz2⟩ := info_parts u8_info
  have HBD : Hid (0 + n ≤ 140737488355328) := by show _ ≤ _; have := hs.len; omega
  rcases A with _ | ad
  · have hn : n = 0 := by
      rcases Nat.eq_zero_or_pos n with h | h
      · exact h
      · obtain ⟨b, o, h1, _⟩ := hs.cell h
        cases h1
    subst hn
    have hl : l = [] := List.eq_nil_of_length_eq_zero hs.len
    subst hl
    have hq := eql_nil w none 0 c
    go_enter Tryd.func66, Tryd.ntmps66
    go_wp2_with fail
    go_ret
    exact ⟨none, 0, 0, rfl, ⟨rfl, .inl ⟨rfl, rfl⟩⟩, Below.refl _ _⟩
  · have hq := eql_nil w (some ad) n c
    go_enter Tryd.func66, Tryd.ntmps66
    go_wp2_with (at_builtin; refine wpList_append_dst _ rfl (.tmp 5) (.tmp 6) 37 37 rfl w.heap.size 5 i0 Tryd.underlying37 hi0 hz0 hz1 hz2 _ 0 0 [] rfl (.inr (own_none w)) _ n l rfl ((hs.alloc (Nat.le_refl _) _).src Tryd.underlying37) HBD.out (by simp) ?_; intro A3 c3 w3 h1 h2 h3 h4 h5)
    go_ret
    exact ⟨A3, 0 + n, c3, by simp, h3 (own_none w), ((Below.refl _ w).alloc (Nat.le_refl _) _).trans h4⟩
end Go.Proofs.YtlkcnpmgafckoaaDoor
