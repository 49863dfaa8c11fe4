/-
  CONTRACT of the statements' own small.
  No statement is proved here.
-/
import Derived.Test.YtjmdjnldkecoeaaShareTop
namespace Go.Proofs.Ytjmdjnldkecoeaa
open Go.RowKit Go.Sort

/-- A slice of numbers of one kind, below M. -/
structure Us (q : IntKind) (M : Nat) (w : World) (B : Nat) (A : Option Addr) (n c : Nat) (L : List Nat) : Prop where
  sn : Sn w B A n c 1 (L.map fun (x : Nat) => Value.int q (x : Int))
  lt : ∀ x ∈ L, x < M
section
variable {q : IntKind} {M : Nat} {w w' : World} {B : Nat} {A : Option Addr} {n c : Nat} {L : List Nat}
theorem Us.len (h : Us q M w B A n c L) : L.length = n := by have := h.sn.len; simp at this; omega
theorem Us.below {B' : Nat} (h : Us q M w B A n c L) (hb : RowKit.Below B' w w') (hB : B ≤ B') : Us q M w' B A n c L := ⟨h.sn.below hb hB, h.lt⟩
theorem Us.on (h : Us q M w B A n c L) (hb : RowKit.Below w.heap.size w w') (hB : B ≤ w.heap.size) : Us q M w' w'.heap.size A n c L := ⟨h.sn.on hb hB, h.lt⟩
theorem Us.at_ {j : Nat} (h : Us q M w B A n c L) (hj : j < n) : ∃ b o x, A = some ⟨b, o, none⟩ ∧ b < B ∧ L[j]? = some x ∧ w.cell? ⟨b, o + j, none⟩ = some (.int q (x : Int)) ∧ x < M := by
  have hl : j < L.length := by rw [h.len]; exact hj
  have hr := List.getElem?_eq_getElem hl
  obtain ⟨b, o, e, hb, hc⟩ := h.sn.cell (by omega)
  exact ⟨b, o, L[j], e, hb, hr, hc _ _ (by simp [hr]), h.lt _ (List.getElem_mem hl)⟩
end
theorem ints_info : (Try.prog.info? 22).map (fun i => (i.zero, i.size, i.bytes)) = some (some (.slice none 0 0), 1, 24) := by kernel_rfl
/-- The weights that small makes. -/
def wOf (U : List Nat) : List Int := if U = [] then [1] else (U.take 8).map fun x => 1 + ((x % 1000 : Nat) : Int)
theorem wOf_right (U : List Nat) : rightW (wOf U) = true := by
  unfold wOf rightW
  by_cases h : U = []
  · rw [if_pos h]; decide
  · rw [if_neg h]
    have := List.length_pos_iff.2 h
    simp only [Bool.and_eq_true, List.all_eq_true, decide_eq_true_eq]
    refine ⟨⟨fun x hx => ?_, ?_⟩, ?_⟩
    · obtain ⟨y, _, rfl⟩ := List.mem_map.1 hx
      unfold okW
      have := Nat.mod_lt y (show 0 < 1000 by omega)
      simp
      omega
    · simp; omega
    · simp; omega
def wTo (U : List Nat) (k : Nat) : List Int := ((U.take k).take 8).map fun x => 1 + ((x % 1000 : Nat) : Int)
theorem wTo_step {U : List Nat} {k x : Nat} (hx : U[k]? = some x) : (k < 8 → wTo U (k + 1) = wTo U k ++ [1 + ((x % 1000 : Nat) : Int)]) ∧ (8 ≤ k → wTo U (k + 1) = wTo U k) := by
  have hl := (List.getElem?_eq_some_iff.1 hx).1
  constructor
  · intro hk
    unfold wTo
    rw [List.take_of_length_le (l := U.take (k + 1)) (by simp; omega), List.take_of_length_le (l := U.take k) (by simp; omega), List.take_add_one, hx]
    simp
  · intro hk
    unfold wTo
    rw [List.take_take, List.take_take, Nat.min_eq_left (by omega), Nat.min_eq_left (by omega)]
theorem wTo_len (U : List Nat) (k : Nat) : (wTo U k).length ≤ 8 := by unfold wTo; simp; omega
def S1Rel (w : World) (U : List Nat) (nu gk : Nat) (vw vi : Value) (wr : World) : Prop :=
  ∃ (k : Nat) (A : Option Addr) (n c : Nat), gk + k = nu ∧ vi = .int .i64 (k : Int) ∧ vw = .slice A n c ∧ wr.ownsRow w.heap.size 3 1 (.slice A n c) n (ivs (wTo U k)) ∧ RowKit.Below w.heap.size w wr
/-- What small hands back. -/
structure Made (w : World) (U : List Nat) (room : Int) (A : Option Addr) (n c : Nat) (Aq : Option Addr) (nq cq : Nat) (R : List Ic) (cls sz : Nat) (w' : World) : Prop where
  wi : Is w' w'.heap.size A n c (wOf U)
  qi : Iss w' w'.heap.size Aq nq cq R
  len : nq = n
  clsLt : cls < n
  szLt : sz < 65536
  roomIn : (sz : Int) ≤ room ∧ room < sz + 100000
  each : ∀ x ∈ R, (∀ s ∈ x.L, 0 ≤ s ∧ s ≤ 65535) ∧ x.n ≤ 30
  bel : RowKit.Below w.heap.size w w'
def SaysMade (w : World) (U : List Nat) (e : Ending) (w' : World) : Prop :=
  ∃ room A n c Aq nq cq R cls sz, e = .returned (.tuple #[.int .i64 room, .slice A n c, .slice Aq nq cq, .int .i64 ((cls : Nat) : Int), .int .i64 ((sz : Nat) : Int)]) ∧ Made w U room A n c Aq nq cq R cls sz w'
theorem made_nil {w w4 : World} {U : List Nat} {A : Option Addr} {n c qb : Nat} (nd : Nat) (hi : Is w4 w4.heap.size A n c (wOf U)) (hn : 0 < n) (ho : w4.ownsRow w.heap.size 22 1 (.slice (some ⟨qb, 0, none⟩) n n) n (madeCells (Value.slice none 0 0).cells (n * 1)).toList) (hb : RowKit.Below w.heap.size w w4) :
    Made w U 0 A n c (some ⟨qb, 0, none⟩) n n (List.replicate n ⟨none, 0, 0, []⟩) 0 0 (w4.drewN nd) := by
  have e : (madeCells (Value.slice none 0 0).cells (n * 1)).toList = icvs (List.replicate n ⟨none, 0, 0, []⟩) := by
    have h1 : (Value.slice none 0 0).cells = #[Value.slice none 0 0] := rfl
    rw [h1, Nat.mul_one, toList_madeCells_one]
    simp [icvs, icv]
  rw [e] at ho
  refine ⟨hi.drewN nd, ⟨(Sn.of_own ho).drewN nd, fun x hx => ?_⟩, rfl, hn, by omega, by omega, fun x hx => ?_, below_drewN hb nd⟩
  · rw [(List.mem_replicate.1 hx).2]
    exact Is.nil_ _ _ _ _ (Nat.zero_le _)
  · rw [(List.mem_replicate.1 hx).2]
    exact ⟨fun s hs => (by cases hs), Nat.zero_le _⟩
theorem wOf_rng (U : List Nat) : ∀ x ∈ wOf U, I64 x := fun x hx => by
  have := (right_facts (wOf_right U)).2.2.1 x hx
  unfold I64
  omega
set_option maxRecDepth 100000 in
set_option maxHeartbeats 8000000 in
theorem small_nil (w : World) (Au : Option Addr) (nu cu : Nat) (U : List Nat) (hu : Us .u16 65536 w w.heap.size Au nu cu U) :
    Calls Try.prog 19 #[.int .i64 0, .slice Au nu cu, .slice none 0 0, .int .u8 0, .int .u16 0] w (SaysMade w U) := by
  obtain ⟨i0, hi0, hz0, hz1, hz2⟩ := info_parts int_info
  obtain ⟨i2, hj0, hj1, hj2, hj3⟩ := info_parts ints_info
  have H := Lib.hid hu
  have HL := Lib.hid hu.len
  have hnu : nu ≤ 9223372036854775807 := Nat.le_trans hu.sn.le hu.sn.max
  clear hu
  go_enter Try.func19, Try.ntmps19
  go_wp2_with fail
  go_loopg [15, 26] nu (fun gk vw vi wr => S1Rel w U nu gk vw vi wr)
  case atStart => exact ⟨0, none, 0, 0, by omega, rfl, rfl, World.ownsRow_nil _ _ _ _, RowKit.Below.refl _ _⟩
  case round =>
    obtain ⟨k, A, n, c, hgk, rfl, rfl, hown, hbel⟩ := hrel
    have HOWN := Lib.hid hown
    have HBEL := Lib.hid hbel
    have hn8 : n ≤ 8 := by have h1 := hown.1; rw [ivs_len] at h1; have := wTo_len U k; omega
    have HBZ := Lib.hid hbel.size
    clear hown hbel
    by_cases hlt : k < nu
    · obtain ⟨b, o, x, rfl, hb, hx, hc, hxm⟩ := (H.out.below HBEL.out (Nat.le_refl _)).at_ hlt
      have HST := Lib.hid (wTo_step hx)
      clear hx
      by_cases h8 : k < 8
      · have hmod : (x : Int) % 1000 = ((x % 1000 : Nat) : Int) := by omega
        have HMOD := Lib.hid hmod
        have hmI : (x : Int) % 1000 < 1000 := by omega
        have hm0 : 0 ≤ (x : Int) % 1000 := by omega
        clear hmod
        go_wp2_with (at_builtin; refine wpList_append_dstN _ rfl (.tmp 33) (.tmp 38) 22 22 rfl w.heap.size 3 i0 _ 1 8 Try.underlying22 hi0 hz0 hz1 hz2 rfl A n c (ivs (wTo U k)) rfl (.inr (HOWN.out.alloc _)) _ 1 (ivs [1 + (x : Int) % 1000]) rfl ((lit_sn wr 3 (ivs [1 + (x : Int) % 1000]) 1 1 rfl (by unfold maxLen; omega)).src Try.underlying22 (ivs_one [1 + (x : Int) % 1000])) (by omega) (by omega) (by have := HBZ.out; simp; omega) ?_; intro A3 c3 w3 h1 h2 h3 h4 h5 h6; have HO3 := Lib.hid (h2 (by omega)); have HB3 := Lib.hid (((HBEL.out).alloc HBZ.out _).trans h4); clear h1 h2 h3 h4 h5 h6)
        go_roundg (gk - 1)
        case measure => omega
        case rel =>
          refine ⟨k + 1, A3, n + 1, c3, by omega, by go_num, rfl, ?_, HB3.out⟩
          rw [HST.out.1 h8, ivs_app, ← HMOD.out]
          exact HO3.out
      · have h8I : ¬ (k : Int) < 8 := by omega
        go_wp2_with fail
        go_roundg (gk - 1)
        case measure => omega
        case rel => exact ⟨k + 1, A, n, c, by omega, by go_num, rfl, by rw [HST.out.2 (by omega)]; exact HOWN.out, HBEL.out⟩
    · obtain rfl : k = nu := by omega
      have HUL : Hid (wTo U k = (U.take 8).map fun x => 1 + ((x % 1000 : Nat) : Int)) := by
        show _ = _
        unfold wTo
        rw [List.take_of_length_le (l := U) (by have := HL.out; omega)]
      by_cases h0 : n = 0
      · subst h0
        have hU0 : U = [] := by
          have h3 := HOWN.out.1
          rw [HUL.out] at h3
          simp [ivs] at h3
          exact h3
        have HU0 := Lib.hid hU0
        have hs1 : (wr.alloc (.cells #[.int .i64 1] 3)).heap.size = wr.heap.size + 1 := by simp
        have HS1 := Lib.hid hs1
        clear hU0 hs1
        go_wp2_with (at_make; refine wpList_make_full _ rfl _ _ 23 rfl w.heap.size 22 i2 _ 1 Try.underlying23 hj0 hj1 hj2 .i64 .i64 _ _ 1 rfl rfl rfl rfl (by rw [hj3]; omega) (by unfold maxLen; omega) (by rw [HS1.out]; have := HBZ.out; omega) ?_; intro w4 h4 h5; have HO4 := Lib.hid h4; have HG4 := Lib.hid h5; clear h4 h5)
        have HB4 : Hid (RowKit.Below w.heap.size w w4) := (HBEL.out.alloc HBZ.out _).grown HG4.out (by rw [HS1.out]; have := HBZ.out; omega) (fun _ h => by cases h)
        have HWI : Hid (Is w4 w4.heap.size (some ⟨wr.heap.size, 0, none⟩) 1 1 (wOf U)) := by
          rw [HU0.out]
          have h1 := ((lit_sn wr 3 (ivs [1]) 1 1 rfl (by unfold maxLen; omega)).more (B' := (wr.alloc (.cells #[.int .i64 1] 3)).heap.size) (by rw [HS1.out]; exact Nat.le_refl _)).past HG4.out (Nat.le_refl _) (fun _ h => by cases h)
          exact ⟨h1.more HG4.out.size, wOf_rng []⟩
        have HO5 : Hid (w4.ownsRow w.heap.size 22 1 (.slice (some ⟨wr.heap.size + 1, 0, none⟩) 1 1) 1 (madeCells (Value.slice none 0 0).cells (1 * 1)).toList) := by
          have h := HO4.out
          rw [HS1.out] at h
          exact h
        go_loopg [50] 0 (fun gk vi wq => gk = 0 ∧ vi = .int .i64 0 ∧ w4 = wq)
        case atStart => exact ⟨rfl, rfl, rfl⟩
        case round =>
          obtain ⟨_, rfl, rfl⟩ := hrel
          have hr0 : IntKind.i64.wrap 0 = 0 := rfl
          go_wp2_with fail
          go_quiet (fail)
          go_wp2_with fail
          exact bodyPost_ret (v := .tuple #[.int .i64 0, .slice (some ⟨wr.heap.size, 0, none⟩) 1 1, .slice (some ⟨wr.heap.size + 1, 0, none⟩) 1 1, .int .i64 0, .int .i64 0]) (by simp [results, Try.results19, go_sem]) rfl
            ⟨0, _, _, _, _, _, _, _, 0, 0, rfl, made_nil nq HWI.out (by omega) HO5.out HB4.out⟩
      · have h0I : ((n : Int) == 0) = false := by simp; omega
        obtain ⟨n1, rfl⟩ : ∃ n1, n = n1 + 1 := ⟨n - 1, by omega⟩
        go_wp2_with (at_make; refine wpList_make_full _ rfl _ _ 23 rfl w.heap.size 22 i2 _ 1 Try.underlying23 hj0 hj1 hj2 .i64 .i64 _ _ (n1 + 1) rfl rfl rfl rfl (by rw [hj3]; omega) (by unfold maxLen; omega) (by exact HBZ.out) ?_; intro w4 h4 h5; have HO4 := Lib.hid h4; have HG4 := Lib.hid h5; clear h4 h5)
        have HB4 : Hid (RowKit.Below w.heap.size w w4) := HBEL.out.grown HG4.out HBZ.out (fun _ h => by cases h)
        have HWI : Hid (Is w4 w4.heap.size A (n1 + 1) c (wOf U)) := by
          have h1 : w4.ownsRow w.heap.size 3 1 (.slice A (n1 + 1) c) (n1 + 1) (ivs (wTo U k)) := HOWN.out.kept HG4.out (by cases (Value.slice A (n1 + 1) c).ownBlock <;> simp)
          have h2 : wTo U k = wOf U := by
            rw [HUL.out]
            unfold wOf
            rw [if_neg]
            intro e
            have h3 := h1.1
            rw [HUL.out, e] at h3
            simp [ivs] at h3
          rw [h2] at h1
          exact ⟨Sn.of_own h1, wOf_rng U⟩
        go_loopg [50] 0 (fun gk vi wq => gk = 0 ∧ vi = .int .i64 0 ∧ w4 = wq)
        case atStart => exact ⟨rfl, rfl, rfl⟩
        case round =>
          obtain ⟨_, rfl, rfl⟩ := hrel
          have hr0 : IntKind.i64.wrap 0 = 0 := rfl
          go_wp2_with fail
          go_quiet (fail)
          go_wp2_with fail
          exact bodyPost_ret (v := .tuple #[.int .i64 0, .slice A (n1 + 1) c, .slice (some ⟨wr.heap.size, 0, none⟩) (n1 + 1) (n1 + 1), .int .i64 0, .int .i64 0]) (by simp [results, Try.results19, go_sem]) rfl
            ⟨0, _, _, _, _, _, _, _, 0, 0, rfl, made_nil nq HWI.out (by omega) HO4.out HB4.out⟩
end Go.Proofs.Ytjmdjnldkecoeaa
