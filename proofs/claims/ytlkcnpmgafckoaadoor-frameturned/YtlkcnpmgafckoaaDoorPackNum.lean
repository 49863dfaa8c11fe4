/-
  CONTRACTS: writing of numbers and bytes: pack.Num, pack.Bytes, and the reference's.
  No statement is proved here.
-/
import Derived.Test.YtlkcnpmgafckoaaDoorRefOne
import Derived.Test.YtlkcnpmgafckoaaDoorPackMath
namespace Go.Proofs.YtlkcnpmgafckoaaDoor
open Go.RowKit

/-- A slice of one byte that was just made. -/
theorem one_sl (w : World) (t : TypeId) {u : Value} {b : UInt8} (h : u = cb b) : Sl (w.alloc (.cells #[u] t)) (w.heap.size + 1) (some ⟨w.heap.size, 0, none⟩) 1 1 [b] :=
  ⟨rfl, Nat.le_refl _, by unfold maxLen; omega, fun _ => ⟨w.heap.size, 0, rfl, by omega, fun j x hx => by
    rcases j with _ | j
    · simp at hx; subst hx; subst h; simp
    · simp at hx⟩⟩

theorem or_all : ∀ m : Fin 256, bits .or .u8 (m.val : Int) 128 = ((m.val % 128 + 128 : Nat) : Int) := by decide +kernel
theorem or_byte (gk : Nat) : Value.int .u8 (bits .or .u8 ((gk : Int) % 256) 128) = cb (UInt8.ofNat (gk % 128 + 128)) := by
  have h := or_all ⟨gk % 256, by omega⟩
  have e : ((gk : Int) % 256) = ((gk % 256 : Nat) : Int) := by omega
  rw [e]
  simp only at h
  rw [h]
  unfold cb
  congr 1
  simp
  omega
theorem low_byte {gk : Nat} (h : gk < 128) : Value.int .u8 (gk : Int) = cb (UInt8.ofNat gk) := by
  unfold cb
  congr 1
  simp
  omega
theorem u64_div (k : Nat) : Value.int .u64 ((k : Int) / 128) = Value.int .u64 ((k / 128 : Nat) : Int) := by
  congr 1

def NumRel (w : World) (tot : List UInt8) (k : Nat) (p n : Value) (wr : World) : Prop :=
  ∃ (A : Option Addr) (m c : Nat) (l : List UInt8), n = .int .u64 (k : Int) ∧ p = .slice A m c ∧ Dst wr w.heap.size 5 A m c l ∧ tot = l ++ num k ∧ Below w.heap.size w wr ∧ k < two64

set_option maxRecDepth 100000 in
set_option maxHeartbeats 400000 in
theorem packNum_any (w : World) (A : Option Addr) (m c : Nat) (l : List UInt8) (x : Nat) (hs : Sl w w.heap.size A m c l) (hx : x < two64) (hb : l.length ≤ 1000000) :
    Calls Tryd.prog 62 #[.slice A m c, .int .u64 (x : Int)] w (Fresh w (l ++ num x)) := by
  have hle := hs.le
  have hmax := hs.max
  unfold maxLen at hmax
  have hd : Dst w w.heap.size 5 A m m l := .inl ⟨rfl, by have h := hs.take (k := m) (m := m) (Nat.le_refl _) (Nat.le_refl _) hle; rwa [List.take_of_length_le (by rw [hs.len]; omega)] at h⟩
  have HTL : Hid ((l ++ num x).length ≤ 1000010) := by show _ ≤ _; rw [List.length_append]; have := num_len10 x hx; omega
  obtain ⟨tot, HT⟩ : ∃ tot, Hid (tot = l ++ num x) := ⟨_, rfl⟩
  rw [← HT.out] at HTL
  go_enter Tryd.func62, Tryd.ntmps62
  go_wp2
  go_loopg [0, 1] x (fun k p n wr => NumRel w tot k p n wr)
  case atStart => exact ⟨A, m, m, l, rfl, rfl, hd, HT.out, Below.refl _ _, hx⟩
  case round =>
    clear hd hs hle hmax
    obtain ⟨A', m', c', l', rfl, rfl, hd, ht, hbel, hk⟩ := hrel
    have HT' := Lib.hid ht; clear ht
    have hm' := hd.sl.len
    have hbd : m' + 1 ≤ 140737488355328 := by
      have h1 := HTL.out
      rw [HT'.out, List.length_append] at h1
      omega
    clear hm'
    have HBD := Lib.hid hbd; clear hbd
    have HK := Lib.hid hk; clear hk
    have HX := Lib.hid hx; clear hx
    obtain ⟨i0, hi0, hz0, hz1, hz2⟩ := info_parts u8_info
    by_cases h128 : 128 ≤ gk
    · have hi128 : (128 : Int) ≤ (gk : Int) := by omega
      have hbyte := or_byte gk
      have HBY := Lib.hid hbyte; clear hbyte
      go_wp2_with (at_builtin; refine wpList_append_dst _ rfl (.tmp 13) (.tmp 17) 37 37 rfl w.heap.size 5 i0 Tryd.underlying37 hi0 hz0 hz1 hz2 A' m' c' l' rfl (hd.alloc _) _ 1 [UInt8.ofNat (gk % 128 + 128)] rfl ((one_sl _ _ HBY.out).src Tryd.underlying37) HBD.out (by simp; have := hbel.size; omega) ?_; intro A2 c2 w2 h1 h2 h3 h4 h5)
      go_roundg (gk / 128)
      case measure => omega
      case rel =>
        refine ⟨A2, m' + 1, c2, _, u64_div gk, rfl, h1, ?_, (hbel.alloc hbel.size _).trans h4, ?_⟩
        · rw [HT'.out, num_hi h128, List.append_assoc]; rfl
        · have := HK.out; omega
    · have hi128 : ¬ (128 : Int) ≤ (gk : Int) := by omega
      have hbyte := low_byte (gk := gk) (by omega)
      have HBY := Lib.hid hbyte; clear hbyte
      go_wp2_with (at_builtin; refine wpList_append_dst _ rfl (.tmp 21) (.tmp 24) 37 37 rfl w.heap.size 5 i0 Tryd.underlying37 hi0 hz0 hz1 hz2 A' m' c' l' rfl (hd.alloc _) _ 1 [UInt8.ofNat gk] rfl ((one_sl _ _ HBY.out).src Tryd.underlying37) HBD.out (by simp; have := hbel.size; omega) ?_; intro A2 c2 w2 h1 h2 h3 h4 h5)
      go_ret
      refine ⟨A2, m' + 1, c2, rfl, ?_, (hbel.alloc hbel.size _).trans h4⟩
      have h6 := h2 (by omega)
      rw [← num_lo (by omega), ← HT'.out, HT.out] at h6
      exact h6

/-! ### The reference's Num: it calls itself -/
theorem own_one (w : World) {u : Value} {b : UInt8} (h : u = cb b) : (w.alloc (.cells #[u] 5)).ownsRow w.heap.size 5 1 (.slice (some ⟨w.heap.size, 0, none⟩) 1 1) 1 (cbs [b]) := by
  subst h
  exact ⟨rfl, .inr ⟨w.heap.size, 1, _, rfl, Nat.le_refl _, heap_alloc_new w _, Nat.le_refl _, by unfold maxLen; omega, rfl, rfl⟩⟩
theorem hi_byte (gk : Nat) : Value.int .u8 ((gk : Int) % 128 + 128) = cb (UInt8.ofNat (gk % 128 + 128)) := by
  unfold cb
  congr 1
  simp
  omega

theorem wrap_div (x : Nat) (h : x < two64) : IntKind.u64.wrap ((x : Int) / 128) = ((x / 128 : Nat) : Int) := by
  unfold two64 at h
  rw [IntKind.wrap_u64]
  omega

set_option maxRecDepth 100000 in
set_option maxHeartbeats 400000 in
theorem refNum_any (x : Nat) : ∀ (w : World), x < two64 → Calls Tryd.prog 63 #[.int .u64 (x : Int)] w (Fresh w (num x)) := by
  induction x using Nat.strongRecOn with
  | ind x ih =>
    intro w hx
    have IH := Lib.hid ih; clear ih
    have HX := Lib.hid hx; clear hx
    obtain ⟨i0, hi0, hz0, hz1, hz2⟩ := info_parts u8_info
    by_cases h128 : x < 128
    · have hi128 : (x : Int) < 128 := by omega
      go_enter Tryd.func63, Tryd.ntmps63
      go_wp2_with fail
      go_ret
      refine ⟨_, 1, 1, rfl, ?_, (Below.refl _ _).alloc (Nat.le_refl _) _⟩
      rw [num_lo h128]
      exact own_one w (low_byte h128)
    · have hi128 : ¬ (x : Int) < 128 := by omega
      go_enter Tryd.func63, Tryd.ntmps63
      go_wp2_with fail
      rw [wrap_div x HX.out]
      refine (IH.out (x / 128) (by omega) _ (by have := HX.out; omega)).mono ?_
      rintro e w' ⟨A, n, c, rfl, hown, hbel⟩
      have hsl := Sl.of_own hown
      have hlen := hsl.len
      have h10 := num_len10 (x / 128) (by have := HX.out; omega)
      have h1 : Dst w' w.heap.size 5 (some ⟨w.heap.size, 0, none⟩) 1 1 [UInt8.ofNat (x % 128 + 128)] :=
        .inl ⟨rfl, ((one_sl w 5 (hi_byte x)).below hbel (by simp)).more (by have := hbel.size; simp at this; omega)⟩
      have hbw : Below w.heap.size w w' := ((Below.refl _ w).alloc (Nat.le_refl _) _).trans (hbel.mono (by simp))
      have HBD : Hid (1 + n ≤ 140737488355328) := by show _ ≤ _; omega
      clear hlen h10
      go_wp2_with (at_builtin; refine wpList_append_dst _ rfl (.tmp 12) (.tmp 15) 37 37 rfl w.heap.size 5 i0 Tryd.underlying37 hi0 hz0 hz1 hz2 _ 1 1 [UInt8.ofNat (x % 128 + 128)] rfl h1 _ n (num (x / 128)) rfl (hsl.src Tryd.underlying37) HBD.out hbw.size ?_; intro A2 c2 w2 h1 h2 h3 h4 h5)
      go_ret
      refine ⟨A2, 1 + n, c2, rfl, ?_, hbw.trans h4⟩
      have hp := num_pos (x / 128)
      have h6 := h2 (by have := hsl.len; omega)
      rw [num_hi (by omega)]
      exact h6
end Go.Proofs.YtlkcnpmgafckoaaDoor
