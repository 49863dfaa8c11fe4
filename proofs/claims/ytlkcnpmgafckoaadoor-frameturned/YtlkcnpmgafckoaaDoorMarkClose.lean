/-
  CONTRACTS: mark.Close, bytes.Equal, mark.Open, the reference's Lay, Take, Close, Open.
  No statement is proved here.
-/
import Derived.Test.YtlkcnpmgafckoaaDoorMarkSum
import Derived.Test.YtlkcnpmgafckoaaDoorBytesEq
namespace Go.Proofs.YtlkcnpmgafckoaaDoor
open Go.RowKit

theorem cell_new1 (w : World) (u : Value) (t : TypeId) : (w.alloc (.cells #[u] t)).cell? ⟨w.heap.size, 0, none⟩ = some u := by simp
theorem lt_new1 (w : World) (o : Obj) : w.heap.size < (w.alloc o).heap.size := by simp
theorem one_slm (w : World) (t : TypeId) (s : Nat) : Sl (w.alloc (.cells #[.int .u8 ((s : Int) % 256)] t)) (w.heap.size + 1) (some ⟨w.heap.size, 0, none⟩) 1 1 [UInt8.ofNat (s % 256)] := by
  have e : Value.int .u8 ((s : Int) % 256) = cb (UInt8.ofNat (s % 256)) := by unfold cb; congr 1; simp
  rw [e]
  exact lit_sl w t [UInt8.ofNat (s % 256)] 1 rfl (by unfold maxLen; omega)
theorem four_sl (w : World) (t : TypeId) {u0 u1 u2 u3 : Value} {b0 b1 b2 b3 : UInt8} (h0 : u0 = cb b0) (h1 : u1 = cb b1) (h2 : u2 = cb b2) (h3 : u3 = cb b3) :
    Sl (w.alloc (.cells #[u0, u1, u2, u3] t)) (w.heap.size + 1) (some ⟨w.heap.size, 0, none⟩) 4 4 [b0, b1, b2, b3] := by
  subst h0 h1 h2 h3
  exact lit_sl w t [b0, b1, b2, b3] 4 rfl (by unfold maxLen; omega)
theorem low8 (s : Nat) : Value.int .u8 ((s : Int) % 256) = cb (UInt8.ofNat (s % 256)) := by
  unfold cb; congr 1; simp
theorem mid8 (s d : Nat) : Value.int .u8 ((s : Int) / (d : Int) % 256) = cb (UInt8.ofNat (s / d % 256)) := by
  unfold cb; congr 1; simp

set_option maxRecDepth 100000 in
set_option maxHeartbeats 400000 in
theorem close_any (w : World) (A : Option Addr) (n c : Nat) (l : List UInt8) (ht : TabAt w) (hs : Sl w w.heap.size A n c l) (hb : l.length ≤ 1000000) :
    Calls Tryd.prog 34 #[.slice A n c] w (Fresh w (closed l)) := by
  have hle := hs.le
  have hmax := hs.max
  unfold maxLen at hmax
  have hln := hs.len
  obtain ⟨i0, hi0, hz0, hz1, hz2⟩ := info_parts u8_info
  have hd : Dst w w.heap.size 5 A n n l := .inl ⟨rfl, by have h := hs.take (k := n) (m := n) (Nat.le_refl _) (Nat.le_refl _) hle; rwa [List.take_of_length_le (by rw [hs.len]; omega)] at h⟩
  have HBD : Hid (n + 4 ≤ 140737488355328) := by show _ ≤ _; omega
  have HT := Lib.hid ht; clear ht hln
  go_enter Tryd.func34, Tryd.ntmps34
  go_wp2_with fail
  refine (sum_any w _ A n c l HT.out hs).mono ?_
  rintro e w' ⟨rfl, rfl⟩
  have HSL := Lib.hid (sum_lt l)
  have HC : Hid (closed l = l ++ lay4 (sum l)) := rfl
  generalize sum l = s at *
  have hs4 := four_sl w 5 (low8 s) (mid8 s 256) (mid8 s 65536) (mid8 s 16777216)
  go_wp2_with (at_builtin; go_must (refine wpList_append_dst _ rfl (.tmp 11) (.tmp 23) 37 37 rfl w.heap.size 5 i0 Tryd.underlying37 hi0 hz0 hz1 hz2 A n n l rfl (hd.alloc _) _ 4 (lay4 s) rfl (Sl.src Tryd.underlying37 hs4) HBD.out (by simp) ?_); intro A2 c2 w2 h1 h2 h3 h4 h5)
  go_ret
  refine ⟨A2, n + 4, c2, rfl, ?_, ((Below.refl _ w).alloc (Nat.le_refl _) _).trans h4⟩
  rw [HC.out]
  exact h2 (by omega)

/-! ### bytes.Equal -/
/-! ### mark.Open -/
def Opened (w : World) (l : List UInt8) (er : Nat) (e : Ending) (w' : World) : Prop :=
  ∃ A n c, e = .returned (.tuple #[.slice A n c, .int .i64 (er : Int)]) ∧ Sl w' w'.heap.size A n c l ∧ Below w.heap.size w w'
theorem ret2 {u v : Value} {u' v' : Value} (h1 : u = u') (h2 : v = v') : Ending.returned (.tuple #[u, v]) = .returned (.tuple #[u', v']) := by rw [h1, h2]

set_option maxRecDepth 100000 in
set_option maxHeartbeats 400000 in
theorem open_any (w : World) (A : Option Addr) (n c : Nat) (l : List UInt8) (ht : TabAt w) (hs : Sl w w.heap.size A n c l) (hb : l.length ≤ 1000000) :
    Calls Tryd.prog 37 #[.slice A n c] w (Opened w (opn l).1 (opn l).2) := by
  have hle := hs.le
  have hmax := hs.max
  unfold maxLen at hmax
  have hln := hs.len
  by_cases h4 : n < 4
  · have ho : opn l = ([], 2) := by unfold opn; rw [if_pos (by omega)]
    rw [ho]
    have h4' : (n : Int) < 4 := by omega
    clear ho
    go_enter Tryd.func37, Tryd.ntmps37
    go_wp2
    go_ret2
    exact ⟨none, 0, 0, rfl, Sl.nil_ _ _ _ _ (by unfold maxLen; omega), Below.refl _ _⟩
  · have h4' : ¬ (n : Int) < 4 := by omega
    have hm0 : (0 : Int) ≤ (n : Int) - 4 := by omega
    have hm1 : (n : Int) - 4 ≤ (c : Int) := by omega
    have hmt : ((n : Int) - 4).toNat = n - 4 := by omega
    have hah := hs.take (k := n - 4) (m := c) (by omega) (by omega) (Nat.le_refl _)
    have HL := Lib.hid hln; clear hln
    have HT := Lib.hid ht; clear ht
    obtain ⟨m, hm⟩ : ∃ m, m = n - 4 := ⟨_, rfl⟩
    rw [← hm] at hah hmt
    have HM := Lib.hid hm; clear hm
    go_enter Tryd.func37, Tryd.ntmps37
    go_wp2_with fail
    refine (close_any w A m c (l.take m) HT.out hah (by rw [List.length_take]; omega)).mono ?_
    rintro e w' ⟨A2, n2, c2, rfl, hown, hbel⟩
    have h2 := Sl.of_own hown
    have hs' := hs.on hbel (Nat.le_refl _)
    clear hm0 hm1 hmt
    go_wp2_with fail
    refine (equal_any w' _ A2 A n2 c2 n c _ l h2 hs').mono ?_
    rintro e w'' ⟨rfl, rfl⟩
    have hln2 : n2 = m + 4 := by
      have h5 := h2.len
      rw [closed_len, List.length_take] at h5
      have := HL.out
      have := HM.out
      omega
    by_cases heq : closed (l.take m) = l
    · have ho : opn l = (l.take m, 0) := by
        unfold opn
        have := HL.out
        have := HM.out
        rw [if_neg (by omega), show l.length - 4 = m from by omega, if_pos heq]
      have hsb : sameB (closed (l.take m)) l = true := by unfold sameB; rw [heq]; simp
      rw [hsb]
      have HO := Lib.hid ho
      have hback := h2.take (k := m) (m := c2) (by omega) (by have := h2.le; omega) (Nat.le_refl _)
      rw [heq] at hback
      have hmc : m ≤ c2 := by have := h2.le; omega
      clear ho hsb hown h2 hln2 heq
      go_wp2
      go_ret2
      rw [HO.out]
      exact ⟨A2, m, c2, rfl, hback, hbel⟩
    · have ho : opn l = ([], 3) := by
        unfold opn
        have := HL.out
        have := HM.out
        rw [if_neg (by omega), show l.length - 4 = m from by omega, if_neg heq]
      have hsb : sameB (closed (l.take m)) l = false := by unfold sameB; simp [heq]
      rw [hsb]
      have HO := Lib.hid ho
      clear ho hsb hown h2 hln2 heq
      go_wp2
      go_ret2
      rw [HO.out]
      exact ⟨none, 0, 0, rfl, Sl.nil_ _ _ _ _ (by unfold maxLen; omega), hbel⟩

/-! ### The reference's Lay and Take -/
def layN : Nat → Nat → List UInt8
  | 0, _ => []
  | k + 1, s => UInt8.ofNat (s % 256) :: layN k (s / 256)
theorem layN_four (s : Nat) : layN 4 s = lay4 s := by
  simp only [layN, lay4, Nat.div_div_eq_div_mul]
theorem layN_len (k s : Nat) : (layN k s).length = k := by
  induction k generalizing s with
  | zero => rfl
  | succ k ih => simp [layN, ih]
theorem div_u64 (s : Nat) (h : s < two32) : Value.int .u64 (IntKind.u64.wrap ((s : Int) / 256)) = Value.int .u64 ((s / 256 : Nat) : Int) := by
  unfold two32 at h
  rw [IntKind.wrap_u64]
  congr 1
  omega
def LayRel (w : World) (tot : List UInt8) (k0 : Nat) (k : Nat) (s out i : Value) (wr : World) : Prop :=
  ∃ (s' j : Nat) (A : Option Addr) (n c : Nat) (l : List UInt8), k + j = k0 ∧ i = .int .i64 (j : Int) ∧ s = .int .u64 (s' : Int) ∧ out = .slice A n c ∧ wr.ownsRow w.heap.size 5 1 (.slice A n c) n (cbs l) ∧ tot = l ++ layN k s' ∧ s' < two32 ∧ Below w.heap.size w wr

set_option maxRecDepth 100000 in
set_option maxHeartbeats 400000 in
theorem lay_any (w : World) (s k : Nat) (hk : k ≤ 1000) (hs : s < two32) :
    Calls Tryd.prog 48 #[.int .u64 (s : Int), .int .i64 (k : Int)] w (Fresh w (layN k s)) := by
  have HS := Lib.hid hs; clear hs
  obtain ⟨tot, HT⟩ : ∃ tot, Hid (tot = layN k s) := ⟨_, rfl⟩
  obtain ⟨i0, hi0, hz0, hz1, hz2⟩ := info_parts u8_info
  go_enter Tryd.func48, Tryd.ntmps48
  go_wp2
  go_loopg [0, 5, 6] k (fun k' s out i wr => LayRel w tot k k' s out i wr)
  case atStart => exact ⟨s, 0, none, 0, 0, [], by omega, rfl, rfl, rfl, ⟨rfl, .inl ⟨rfl, rfl⟩⟩, HT.out, HS.out, Below.refl _ _⟩
  case round =>
    obtain ⟨s', j, A, n, c, l, hj, rfl, rfl, rfl, hown, htot, hs', hbel⟩ := hrel
    have HJ := Lib.hid hj; clear hj
    have HTOT := Lib.hid htot; clear htot
    have HS' := Lib.hid hs'; clear hs'
    by_cases hlt : j < k
    · obtain ⟨k1, hk1⟩ : ∃ k1, gk = k1 + 1 := ⟨gk - 1, by have := HJ.out; omega⟩
      have HK1 := Lib.hid hk1; clear hk1
      have hd : Dst wr w.heap.size 5 A n c l := .inr hown
      have hin := one_slm wr 5 s'
      have HBD : Hid (n + 1 ≤ 140737488355328) := by
        have h1 := (Sl.of_own hown).len
        have h2 := congrArg List.length (HT.out.symm.trans HTOT.out)
        rw [List.length_append, layN_len] at h2
        show _ ≤ _
        omega
      go_wp2_with (at_builtin; go_must (refine wpList_append_dst _ rfl (.tmp 12) (.tmp 16) 37 37 rfl w.heap.size 5 i0 Tryd.underlying37 hi0 hz0 hz1 hz2 A n c l rfl (hd.alloc _) _ 1 [UInt8.ofNat (s' % 256)] rfl (Sl.src Tryd.underlying37 hin) HBD.out (by simp; have := hbel.size; omega) ?_); intro A2 c2 w2 h1 h2 h3 h4 h5)
      go_roundg k1
      case measure => have := HK1.out; omega
      case rel =>
        refine ⟨s' / 256, j + 1, A2, n + 1, c2, l ++ [UInt8.ofNat (s' % 256)], by have := HJ.out; have := HK1.out; omega, by go_num, div_u64 s' HS'.out, rfl, h2 (by omega), ?_, by have := HS'.out; omega, (hbel.alloc hbel.size _).trans h4⟩
        rw [HTOT.out, HK1.out, List.append_assoc]
        rfl
    · have hgk : gk = 0 := by have := HJ.out; omega
      have HG := Lib.hid hgk; clear hgk
      go_wp2
      go_ret
      refine ⟨A, n, c, rfl, ?_, hbel⟩
      rw [← HT.out, HTOT.out, HG.out]
      simpa [layN] using hown

theorem tk_lt (l : List UInt8) : ∀ k, l.length ≤ k → tk l < 256 ^ k := by
  induction l with
  | nil => intro k _; exact Nat.pow_pos (by omega)
  | cons b t ih =>
    intro k hk
    rcases k with _ | k
    · simp at hk
    · have h1 := ih k (by simpa using hk)
      have hb := b.toNat_lt
      rw [tk, Nat.pow_succ]
      omega
theorem horner (a x : Nat) (ha : a < 256 ^ 3) (hx : x < 256) : Value.int .u64 (IntKind.u64.wrap (IntKind.u64.wrap (256 * (a : Int)) + (x : Int))) = Value.int .u64 ((x + 256 * a : Nat) : Int) := by
  rw [IntKind.wrap_u64, IntKind.wrap_u64]
  congr 1
  omega
theorem wrap_u32 (s : Nat) (h : s < two32) : IntKind.u64.wrap (s : Int) = (s : Int) := by
  unfold two32 at h
  rw [IntKind.wrap_u64]
  omega
def TakeRel (w : World) (l : List UInt8) (n : Nat) (k : Nat) (acc i : Value) (wr : World) : Prop :=
  k ≤ n ∧ i = .int .i64 ((k : Int) - 1) ∧ acc = .int .u64 ((tk (l.drop k) : Nat) : Int) ∧ w = wr

set_option maxRecDepth 100000 in
set_option maxHeartbeats 400000 in
theorem refTake_any (w : World) (B : Nat) (A : Option Addr) (n c : Nat) (l : List UInt8) (hs : Sl w B A n c l) (hn : n ≤ 4) :
    Calls Tryd.prog 73 #[.slice A n c] w fun e w' => e = .returned (.int .u64 ((tk l : Nat) : Int)) ∧ w = w' := by
  go_enter Tryd.func73, Tryd.ntmps73
  have hln := hs.len
  have hle := hs.le
  have HS := Lib.hid hs; clear hs
  have HL := Lib.hid hln; clear hln
  go_wp2
  go_loopg [3, 4] n (fun k acc i wr => TakeRel w l n k acc i wr)
  case atStart => exact ⟨by omega, rfl, by rw [List.drop_eq_nil_of_le (by have := HL.out; omega)]; rfl, rfl⟩
  case round =>
    obtain ⟨hk, rfl, rfl, rfl⟩ := hrel
    by_cases hlt : 0 < gk
    · obtain ⟨j, hj⟩ : ∃ j, gk = j + 1 := ⟨gk - 1, by omega⟩
      subst hj
      obtain ⟨b, o, x, rfl, _, hx, hc⟩ := HS.out.at_ (k := j) (by omega)
      have HD : Hid (tk (l.drop j) = x.toNat + 256 * tk (l.drop (j + 1))) := by
        show _ = _
        obtain ⟨hl, hx'⟩ := List.getElem?_eq_some_iff.1 hx
        rw [List.drop_eq_getElem_cons hl, hx']
        rfl
      have htl := tk_lt (l.drop (j + 1)) 3 (by rw [List.length_drop]; have := HL.out; omega)
      have hx8 := x.toNat_lt
      have HV := Lib.hid (horner (tk (l.drop (j + 1))) x.toNat htl (by omega))
      clear hx htl
      generalize tk (l.drop (j + 1)) = a at *
      go_wp2
      go_roundg j
      case measure => omega
      case rel => exact ⟨by omega, rfl, by rw [HV.out, HD.out], rfl⟩
    · have hg : gk = 0 := by omega
      subst hg
      clear hlt hk
      go_wp2
      go_ret
      exact ⟨rfl, rfl⟩

/-! ### The reference's Close and Open -/
set_option maxRecDepth 100000 in
set_option maxHeartbeats 400000 in
theorem refClose_any (w : World) (A : Option Addr) (n c : Nat) (l : List UInt8) (hs : Sl w w.heap.size A n c l) (hb : l.length ≤ 900000) :
    Calls Tryd.prog 24 #[.slice A n c] w (Fresh w (closed l)) := by
  have HW := Lib.hid (wrap_u32 (sum l) (sum_lt l))
  have HSL := Lib.hid (sum_lt l)
  have HC : Hid (closed l = l ++ layN 4 (sum l)) := by show _ = _; rw [layN_four]; rfl
  go_enter Tryd.func24, Tryd.ntmps24
  go_wp2_with fail
  refine (refSum_any w _ A n c l hs).mono ?_
  rintro e w' ⟨rfl, rfl⟩
  go_wp2_with fail
  rw [HW.out]
  refine (lay_any w (sum l) 4 (by omega) HSL.out).mono ?_
  rintro e w2 ⟨A2, n2, c2, rfl, hown, hbel⟩
  have h2 := Sl.of_own hown
  have hs' := hs.on hbel (Nat.le_refl _)
  clear hown hs
  go_wp2_with fail
  refine (join_two _ w2.heap.size A A2 n c n2 c2 l (layN 4 (sum l)) (by simp) (by simp) (by simp) (by exact hs'.onA _) (by exact h2.onA _) (by rw [layN_len]; omega)).mono ?_
  rintro e w3 h3
  have h4 := h3.of (hbel.alloc hbel.size _)
  obtain ⟨A3, n3, c3, rfl, h5⟩ := h4
  go_wp2
  go_ret
  rw [HC.out]
  exact ⟨A3, n3, c3, rfl, h5⟩

set_option maxRecDepth 100000 in
set_option maxHeartbeats 400000 in
theorem refOpen_any (w : World) (A : Option Addr) (n c : Nat) (l : List UInt8) (hs : Sl w w.heap.size A n c l) (hb : l.length ≤ 900000) :
    Calls Tryd.prog 41 #[.slice A n c] w (Opened w (opn l).1 (opn l).2) := by
  have hle := hs.le
  have hmax := hs.max
  unfold maxLen at hmax
  have hln := hs.len
  by_cases h4 : n < 4
  · have ho : opn l = ([], 2) := by unfold opn; rw [if_pos (by omega)]
    rw [ho]
    have h4' : (n : Int) < 4 := by omega
    clear ho
    go_enter Tryd.func41, Tryd.ntmps41
    go_wp2
    go_ret2
    exact ⟨none, 0, 0, rfl, Sl.nil_ _ _ _ _ (by unfold maxLen; omega), Below.refl _ _⟩
  · have h4' : ¬ (n : Int) < 4 := by omega
    obtain ⟨m, hm⟩ : ∃ m, n = m + 4 := ⟨n - 4, by omega⟩
    subst hm
    have hah := hs.take (k := m) (m := c) (by omega) (by omega) (Nat.le_refl _)
    have hbk := hs.drop (k := m) (by omega)
    rw [if_neg (by omega), show m + 4 - m = 4 from by omega] at hbk
    have HO : Hid (opn l = if tk (l.drop m) = sum (l.take m) then (l.take m, 0) else ([], 3)) := by
      show _ = _
      have h5 := tk_iff (l := l) (by omega)
      rw [show l.length - 4 = m from by omega] at h5
      unfold opn
      rw [if_neg (by omega), show l.length - 4 = m from by omega]
      by_cases h6 : closed (l.take m) = l
      · rw [if_pos h6, if_pos (h5.2 h6)]
      · rw [if_neg h6, if_neg (fun h => h6 (h5.1 h))]
    have HQ1 : Hid (∀ q, Calls Tryd.prog 73 #[.slice (A.map (·.add m)) 4 (c - m)] (w.drewN q) fun e w'' => e = .returned (.int .u64 ((tk (l.drop m) : Nat) : Int)) ∧ ∃ k, w'' = w.drewN k) :=
      fun q => quiet_l (refTake_any _ _ _ _ _ _ (hbk.drewN q) (by omega))
    have HQ2 : Hid (∀ q, Calls Tryd.prog 49 #[.slice A m c] (w.drewN q) fun e w'' => e = .returned (.int .u32 ((sum (l.take m) : Nat) : Int)) ∧ ∃ k, w'' = w.drewN k) :=
      fun q => quiet_l (refSum_any _ _ _ _ _ _ (hah.drewN q))
    have hmc : ¬ c = m := by omega
    have hw1 := wrap_u32 (sum (l.take m)) (sum_lt _)
    by_cases heq : tk (l.drop m) = sum (l.take m)
    · have ho : opn l = (l.take m, 0) := by rw [HO.out, if_pos heq]
      have HO2 := Lib.hid ho
      have hne : (((tk (l.drop m) : Nat) : Int) != ((sum (l.take m) : Nat) : Int)) = false := by rw [heq]; simp
      have HLN := Lib.hid hln
      clear ho heq HO hln
      go_enter Tryd.func41, Tryd.ntmps41
      go_wp2_with fail
      go_quiet ((first
        | (go_at_call 73; with_reducible exact HQ1.out _)
        | (go_at_call 49; with_reducible exact HQ2.out _)))
      clear HQ1 HQ2
      go_wp2_with fail
      refine (join_one _ w.heap.size A m c (l.take m) (by exact cell_new1 (w.drewN nq) _ _) (by exact lt_new1 (w.drewN nq) _) (by exact (hah.onD nq).onA _) (by rw [List.length_take]; omega)).mono ?_
      rintro e w3 h3
      have h4 := h3.of (w := w) (((below_drewN (Below.refl w.heap.size w) nq)).alloc (Nat.le_refl _) _)
      obtain ⟨A3, n3, c3, rfl, hown, hbel⟩ := h4
      go_wp2
      go_ret2
      rw [HO2.out]
      exact ⟨A3, n3, c3, rfl, Sl.of_own hown, hbel⟩
    · have ho : opn l = ([], 3) := by rw [HO.out, if_neg heq]
      have HO2 := Lib.hid ho
      have hne : (((tk (l.drop m) : Nat) : Int) != ((sum (l.take m) : Nat) : Int)) = true := by rw [bne_iff_ne]; omega
      have HLN := Lib.hid hln
      clear ho heq HO hln
      go_enter Tryd.func41, Tryd.ntmps41
      go_wp2_with fail
      go_quiet ((first
        | (go_at_call 73; with_reducible exact HQ1.out _)
        | (go_at_call 49; with_reducible exact HQ2.out _)))
      clear HQ1 HQ2
      go_wp2
      go_ret2
      rw [HO2.out]
      exact ⟨none, 0, 0, rfl, Sl.nil_ _ _ _ _ (by unfold maxLen; omega), below_drewN (Below.refl _ w) _⟩
end Go.Proofs.YtlkcnpmgafckoaaDoor
