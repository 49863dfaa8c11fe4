/-
  CONTRACT of the reference's Less.
  No statement is proved here.
-/
import Derived.Test.YtefoeebchjnfaaaRefPlain
namespace Go.Proofs.Ytefoeebchjnfaaa
open Go.RowKit

/-! ### the mathematics of one pass -/
def cutR (x r : Rn) : List Rn :=
  if x.2 < r.1 ∨ r.2 < x.1 then [r] else (if r.1 < x.1 then [(r.1, x.1 - 1)] else []) ++ (if x.2 < r.2 then [(x.2 + 1, r.2)] else [])
theorem cutR_mem {x r : Rn} (hx : x.1 ≤ x.2) (y : Nat) : memR (cutR x r) y ↔ (r.1 ≤ y ∧ y ≤ r.2) ∧ ¬ (x.1 ≤ y ∧ y ≤ x.2) := by
  unfold cutR
  by_cases h1 : x.2 < r.1 ∨ r.2 < x.1
  · rw [if_pos h1, memR_one]
    omega
  · rw [if_neg h1, memR_app]
    by_cases h2 : r.1 < x.1
    · by_cases h3 : x.2 < r.2
      · rw [if_pos h2, if_pos h3, memR_one, memR_one]; simp only; omega
      · rw [if_pos h2, if_neg h3, memR_one]; simp only [memR_nil, or_false]; omega
    · by_cases h3 : x.2 < r.2
      · rw [if_neg h2, if_pos h3, memR_one]; simp only [memR_nil, false_or]; omega
      · rw [if_neg h2, if_neg h3]; simp only [memR_nil, or_false, false_iff]; omega
theorem cutR_in {x r q : Rn} (hr : r.1 ≤ r.2) (hq : q ∈ cutR x r) : r.1 ≤ q.1 ∧ q.1 ≤ q.2 ∧ q.2 ≤ r.2 := by
  unfold cutR at hq
  split at hq
  · rw [List.mem_singleton] at hq
    subst hq
    omega
  · rcases List.mem_append.1 hq with hq | hq
    · split at hq
      · rw [List.mem_singleton] at hq
        subst hq
        simp only
        omega
      · cases hq
    · split at hq
      · rw [List.mem_singleton] at hq
        subst hq
        simp only
        omega
      · cases hq
theorem cutR_can {x r : Rn} (hx : x.1 ≤ x.2) (hr : r.1 ≤ r.2) : Canon (cutR x r) := by
  refine ⟨?_, fun q hq => (cutR_in hr hq).2.1⟩
  unfold cutR
  split
  · exact List.pairwise_singleton _ _
  · by_cases h2 : r.1 < x.1 <;> by_cases h3 : x.2 < r.2 <;> simp [h2, h3] <;> omega
theorem cutR_len (x r : Rn) : (cutR x r).length ≤ 2 := by
  unfold cutR
  split
  · simp
  · split <;> split <;> simp
theorem app_can {L M : List Rn} (hL : Canon L) (hM : Canon M) (h : ∀ p ∈ L, ∀ q ∈ M, p.2 + 1 < q.1) : Canon (L ++ M) :=
  ⟨List.pairwise_append.2 ⟨hL.far, hM.far, h⟩, fun q hq => by
    rcases List.mem_append.1 hq with hq | hq
    · exact hL.ok q hq
    · exact hM.ok q hq⟩
def cutL (x : Rn) (P : List Rn) : List Rn := P.flatMap (cutR x)
theorem cutL_spec {x : Rn} (hx : x.1 ≤ x.2) : ∀ (P : List Rn), Canon P → Canon (cutL x P) ∧ (∀ y, memR (cutL x P) y ↔ memR P y ∧ ¬ (x.1 ≤ y ∧ y ≤ x.2)) ∧ ∀ q ∈ cutL x P, ∃ r ∈ P, r.1 ≤ q.1 ∧ q.1 ≤ q.2 ∧ q.2 ≤ r.2
  | [], _ => ⟨Canon.nil, fun y => by simp [cutL, memR_nil], fun q hq => (by cases hq)⟩
  | r :: P, h => by
    obtain ⟨h1, h2, h3⟩ := cutL_spec hx P h.tail
    have hr := h.ok r List.mem_cons_self
    have e : cutL x (r :: P) = cutR x r ++ cutL x P := rfl
    rw [e]
    refine ⟨app_can (cutR_can hx hr) h1 fun p hp q hq => ?_, fun y => ?_, fun q hq => ?_⟩
    · obtain ⟨k, hk, h4, _, _⟩ := h3 q hq
      have := (cutR_in hr hp).2.2
      have := (List.pairwise_cons.1 h.far).1 k hk
      omega
    · rw [memR_app, cutR_mem hx, h2, memR_cons]
      constructor
      · rintro (⟨h5, h6⟩ | ⟨h5, h6⟩)
        · exact ⟨.inl h5, h6⟩
        · exact ⟨.inr h5, h6⟩
      · rintro ⟨h5 | h5, h6⟩
        · exact .inl ⟨h5, h6⟩
        · exact .inr ⟨h5, h6⟩
    · rcases List.mem_append.1 hq with hq | hq
      · exact ⟨r, List.mem_cons_self, cutR_in hr hq⟩
      · obtain ⟨k, hk, h4⟩ := h3 q hq
        exact ⟨k, List.mem_cons_of_mem _ hk, h4⟩
theorem cutL_ok {x : Rn} (hx : x.1 ≤ x.2) {P : List Rn} (h : Okl P) : Okl (cutL x P) := by
  obtain ⟨h1, _, h3⟩ := cutL_spec hx P h.can
  refine ⟨h1, fun q hq => ?_⟩
  obtain ⟨r, hr, h4, h5, h6⟩ := h3 q hq
  have := h.lt r hr
  exact ⟨by omega, by omega⟩
/-- What is left behind the first k of what is taken away. -/
structure LeftSt (l m : List Rn) (k : Nat) (P : List Rn) : Prop where
  ok : Okl P
  mem : ∀ y, memR P y ↔ memR l y ∧ ¬ memR (m.take k) y
theorem LeftSt.start {l : List Rn} (m : List Rn) (h : ∀ q ∈ l, q.1 < two64 ∧ q.2 < two64) : LeftSt l m 0 (setL l) := by
  obtain ⟨h1, h2, _⟩ := set_spec l h
  exact ⟨h1, fun y => by rw [h2]; simp [memR_nil]⟩
theorem LeftSt.skip {l m P : List Rn} {k : Nat} {x : Rn} (h : LeftSt l m k P) (hx : m[k]? = some x) (hn : x.2 < x.1) : LeftSt l m (k + 1) P :=
  ⟨h.ok, fun y => by
    rw [h.mem, List.take_add_one, hx, memR_app]
    have : ¬ memR (some x).toList y := by
      rintro ⟨r, hr, h1, h2⟩
      simp at hr
      subst hr
      omega
    constructor
    · rintro ⟨h1, h2⟩
      exact ⟨h1, fun h => h.elim h2 this⟩
    · rintro ⟨h1, h2⟩
      exact ⟨h1, fun h => h2 (.inl h)⟩⟩
theorem LeftSt.cut {l m P : List Rn} {k : Nat} {x : Rn} (h : LeftSt l m k P) (hx : m[k]? = some x) (hle : x.1 ≤ x.2) : LeftSt l m (k + 1) (cutL x P) :=
  ⟨cutL_ok hle h.ok, fun y => by
    rw [(cutL_spec hle P h.ok.can).2.1, h.mem, List.take_add_one, hx, memR_app]
    have : memR (some x).toList y ↔ x.1 ≤ y ∧ y ≤ x.2 := memR_one
    rw [this]
    constructor
    · rintro ⟨⟨h1, h2⟩, h3⟩
      exact ⟨h1, fun h => h.elim h2 h3⟩
    · rintro ⟨h1, h2⟩
      exact ⟨⟨h1, fun h => h2 (.inl h)⟩, fun h => h2 (.inr h)⟩⟩
theorem LeftSt.done {l m P : List Rn} {k : Nat} (h : LeftSt l m k P) (hk : m.length ≤ k) (hl : ∀ q ∈ l, q.1 < two64 ∧ q.2 < two64) (hm : ∀ q ∈ m, q.1 < two64 ∧ q.2 < two64) : P = lessL (setL l) (setL m) := by
  obtain ⟨h1, h2, _⟩ := set_spec l hl
  obtain ⟨k1, k2, _⟩ := set_spec m hm
  refine okl_ext h.ok (less_ok h1 k1) fun y => ?_
  rw [h.mem, less_mem h1 k1, h2, k2, List.take_of_length_le hk]

/-! ### the walk -/
theorem rrun_src (w : World) (g : Nat) (hg : w.heap.size = g) (q : Rn) (x y : Int) (hx : x = (q.1 : Int)) (hy : y = (q.2 : Int)) :
    Src Try.prog 2 29 (.slice (some ⟨g, 0, none⟩) 1 1) 1 (rv q) (w.alloc (.cells #[.int .u64 x, .int .u64 y] 49)) := by
  subst hg hx hy
  exact (lit_sn w 49 (rv q) 1 2 rfl (by unfold maxLen; omega)).src Try.underlying29 (rv_one q)
/-- Within a round: what is gathered (a row of one's own), the run at hand in its cell X, nothing below base turned since w. -/
structure CutSt (w : World) (X base : Nat) (Al : Option Addr) (nl cl : Nat) (acc : List Rn) (r : Rn) (wr : World) : Prop where
  own : OwnP wr base Al nl cl acc
  far : Far X Al
  box : wr.heap[X]? = some (.cells #[.int .u64 (r.1 : Int), .int .u64 (r.2 : Int)] 49 (0, 0))
  bel : Below base w wr
  hX : base ≤ X
section
variable {w : World} {X base : Nat} {Al : Option Addr} {nl cl : Nat} {acc : List Rn} {r : Rn} {wr : World}
theorem CutSt.c0 (h : CutSt w X base Al nl cl acc r wr) : wr.cell? ⟨X, 0, none⟩ = some (.int .u64 (r.1 : Int)) := by rw [cell_of_row wr _ 0 _ _ _ h.box]; rfl
theorem CutSt.c1 (h : CutSt w X base Al nl cl acc r wr) : wr.cell? ⟨X, 1, none⟩ = some (.int .u64 (r.2 : Int)) := by rw [cell_of_row wr _ 1 _ _ _ h.box]; rfl
theorem CutSt.lt (h : CutSt w X base Al nl cl acc r wr) : X < wr.heap.size := World.block_lt_of_cell? wr _ h.c0
theorem CutSt.alloc (h : CutSt w X base Al nl cl acc r wr) (o : Obj) : CutSt w X base Al nl cl acc r (wr.alloc o) :=
  ⟨h.own.alloc o, h.far, ((below_box wr o).block _ h.lt).trans h.box, h.bel.trans ((below_box wr o).mono (Nat.le_trans h.hX (Nat.le_of_lt h.lt))), h.hX⟩
theorem CutSt.app {A3 : Option Addr} {c3 : Nat} {w3 : World} {q : Rn} (h : CutSt w X base Al nl cl acc r wr)
    (h2 : w3.ownsRow base 49 2 (.slice A3 (nl + 1) c3) (nl + 1) (rvs acc ++ rv q)) (h4 : Below base wr w3) (h5 : wr.grownBy w3 (if nl = cl then none else (Value.slice Al nl cl).ownBlock)) (h6 : A3 = Al ∨ ∃ b, A3 = some ⟨b, 0, none⟩ ∧ wr.heap.size ≤ b) :
    CutSt w X base A3 (nl + 1) c3 (acc ++ [q]) r w3 := by
  refine ⟨?_, h.far.app h.lt h6, (grown_keep h5 h.lt h.far).trans h.box, h.bel.trans h4, h.hX⟩
  rw [← rvs_one1, ← rvs_app] at h2
  exact h2
end
theorem cutL_succ {x r : Rn} {P : List Rn} {j : Nat} (h : P[j]? = some r) : cutL x (P.take (j + 1)) = cutL x (P.take j) ++ cutR x r := by
  unfold cutL
  rw [List.take_add_one, h, List.flatMap_append]
  simp
theorem cutL_len (x : Rn) (P : List Rn) (j : Nat) : (cutL x (P.take j)).length ≤ 2 * P.length := by
  have h : ∀ Q : List Rn, (cutL x Q).length ≤ 2 * Q.length := by
    intro Q
    induction Q with
    | nil => simp [cutL]
    | cons a Q ih =>
      have := cutR_len x a
      show (cutR x a ++ cutL x Q).length ≤ _
      rw [List.length_append, List.length_cons]
      omega
  have h1 := h (P.take j)
  rw [List.length_take] at h1
  omega
theorem LeftSt.len {l m P : List Rn} {k : Nat} (h : LeftSt l m k P) (hl : ∀ q ∈ l, q.1 < two64 ∧ q.2 < two64) (hm : ∀ q ∈ m, q.1 < two64 ∧ q.2 < two64) : P.length ≤ l.length + m.length := by
  obtain ⟨h1, h2, h3⟩ := set_spec l hl
  obtain ⟨k1, k2, k3⟩ := set_spec (m.take k) (fun q hq => hm q (List.mem_of_mem_take hq))
  have e : P = lessL (setL l) (setL (m.take k)) := okl_ext h.ok (less_ok h1 k1) fun y => by rw [h.mem, less_mem h1 k1, h2, k2]
  rw [e]
  have h4 := less_len (t := setL (m.take k)) h1
  rw [List.length_take] at k3
  omega
def RLessRel (w : World) (l m : List Rn) (gk : Nat) (vo vi : Value) (wr : World) : Prop :=
  ∃ (k : Nat) (A : Option Addr) (n c : Nat) (P : List Rn), gk + k = m.length ∧ vo = .slice A n c ∧ vi = .int .i64 (k : Int) ∧ Rs wr wr.heap.size A n c P ∧ LeftSt l m k P ∧ Below w.heap.size w wr
def RCutRel (w : World) (x : Rn) (P : List Rn) (gk : Nat) (vo vi : Value) (wr : World) : Prop :=
  ∃ (j : Nat) (A : Option Addr) (n c : Nat), gk + j = P.length ∧ vo = .slice A n c ∧ vi = .int .i64 (j : Int) ∧ OwnP wr w.heap.size A n c (cutL x (P.take j)) ∧ Below w.heap.size w wr
set_option maxRecDepth 100000 in
set_option maxHeartbeats 4000000 in
theorem refLess_any (w : World) (A A' : Option Addr) (n c n' c' : Nat) (l m : List Rn) (hs : Rs w w.heap.size A n c l) (hs' : Rs w w.heap.size A' n' c' m) (hn : n ≤ 1000) (hn' : n' ≤ 1000) :
    Calls Try.prog 33 #[.slice A n c, .slice A' n' c'] w (SaysR w (lessL (setL l) (setL m))) := by
  obtain ⟨i0, hi0, hz0, hz1, hz2⟩ := info_parts rrun_info
  have H := Lib.hid hs
  have H' := Lib.hid hs'
  have HLEN : Hid (l.length = n) := hs.len
  have HLEN' : Hid (m.length = n') := hs'.len
  have HLT := Lib.hid hs.lt
  have HLT' := Lib.hid hs'.lt
  obtain ⟨R, HR⟩ : ∃ R, Hid (R = lessL (setL l) (setL m)) := ⟨_, rfl⟩
  rw [← HR.out]
  have hm' := hs'.sn.max
  have hle' := hs'.sn.le
  unfold maxLen at hm'
  clear hs hs'
  go_enter Try.func33, Try.ntmps33
  go_wp2_with fail
  refine (plain_any w A n c l H.out (by omega)).mono ?_
  rintro e w1 ⟨A1, n1, c1, rfl, hs1, hb1⟩
  have HS1 := Lib.hid hs1
  have HB1 := Lib.hid hb1
  have HM1 := Lib.hid (H'.out.on hb1 (Nat.le_refl _))
  clear hs1 hb1
  go_wp2_with fail
  go_loopg [5, 15] n' (fun gk vo vi wr => RLessRel w1 l m gk vo vi wr)
  case atStart => exact ⟨0, A1, n1, c1, setL l, by have := HLEN'.out; omega, rfl, rfl, HS1.out, LeftSt.start m HLT.out, Below.refl _ _⟩
  case round =>
    obtain ⟨k, A2, n2, c2, P, hg, rfl, rfl, hrs, hst, hbel⟩ := hrel
    have HG := Lib.hid hg
    have HRS := Lib.hid hrs
    have HST := Lib.hid hst
    have HBW : Hid (Below w.heap.size w wr) := HB1.out.trans (hbel.mono HB1.out.size)
    have HPL : Hid (P.length = n2) := hrs.len
    have HN2 : Hid (n2 ≤ 2000) := by have := hst.len HLT.out HLT'.out; have := HLEN.out; have := HLEN'.out; have := hrs.len; show _ ≤ _; omega
    have hmr := HM1.out.below hbel (Nat.le_refl _)
    clear hg hst hrs
    by_cases hk : k < n'
    · have hkI : (k : Int) < (n' : Int) := by omega
      have hk0 : (0 : Int) ≤ (k : Int) := by omega
      obtain ⟨b, o, x, rfl, hbB, hx, hq0, hq1, h1, h2⟩ := hmr.at_ hk
      have HX := Lib.hid hx
      unfold two64 at h1 h2
      clear hx hmr
      by_cases hxx : x.2 < x.1
      · have hxI : (x.2 : Int) < (x.1 : Int) := by omega
        have HNX := Lib.hid (HST.out.skip HX.out hxx)
        go_wp2
        go_roundg (gk - 1)
        case measure => have := HG.out; have := HLEN'.out; omega
        case rel => exact ⟨k + 1, A2, n2, c2, P, by have := HG.out; have := HLEN'.out; omega, rfl, by go_num, HRS.out.onA _, HNX.out, hbel.trans ((below_box wr _).mono hbel.size)⟩
      · have hxI : ¬ (x.2 : Int) < (x.1 : Int) := by omega
        have hxle : x.1 ≤ x.2 := by omega
        have HNX := Lib.hid (HST.out.cut HX.out hxle)
        go_wp2_with fail
        have hbx := below_box wr (.cells #[.int .u64 (x.1 : Int), .int .u64 (x.2 : Int)] 49)
        have hY : (wr.alloc (.cells #[.int .u64 (x.1 : Int), .int .u64 (x.2 : Int)] 49)).heap[wr.heap.size]? = some (.cells #[.int .u64 (x.1 : Int), .int .u64 (x.2 : Int)] 49 (0, 0)) := heap_alloc_new wr _
        have hYlt : wr.heap.size < (wr.alloc (.cells #[.int .u64 (x.1 : Int), .int .u64 (x.2 : Int)] 49)).heap.size := by simp
        have HRX := Lib.hid (HRS.out.on hbx (Nat.le_refl _))
        have HBX : Hid (Below w1.heap.size w1 (wr.alloc (.cells #[.int .u64 (x.1 : Int), .int .u64 (x.2 : Int)] 49))) := hbel.trans (hbx.mono hbel.size)
        generalize wr.alloc (.cells #[.int .u64 (x.1 : Int), .int .u64 (x.2 : Int)] 49) = w6 at *
        obtain ⟨Y, hYe⟩ : ∃ Y, wr.heap.size = Y := ⟨_, rfl⟩
        rw [hYe] at hY hYlt ⊢
        have HY := Lib.hid hY
        clear hY hbx hYe hq0 hq1
        go_loopg [8, 26] n2 (fun gk vo vi wr => RCutRel w6 x P gk vo vi wr)
        case atStart => exact ⟨0, none, 0, 0, by have := HPL.out; omega, rfl, rfl, ⟨rfl, .inl ⟨rfl, rfl⟩⟩, Below.refl _ _⟩
        case round =>
          obtain ⟨j, A3, n3, c3, hg, rfl, rfl, hown, hbel2⟩ := hrel
          have HG2 := Lib.hid hg
          have HOW := Lib.hid hown
          have HN3 : Hid (n3 ≤ 4000) := by have h3 := hown.1; rw [rvs_len] at h3; have := cutL_len x P j; have := HPL.out; have := HN2.out; show _ ≤ _; omega
          have hyr := (hbel2.block Y hYlt).trans HY.out
          have hy0 : wr.cell? ⟨Y, 0, none⟩ = some (.int .u64 (x.1 : Int)) := by rw [cell_of_row wr _ 0 _ _ _ hyr]; rfl
          have hy1 : wr.cell? ⟨Y, 1, none⟩ = some (.int .u64 (x.2 : Int)) := by rw [cell_of_row wr _ 1 _ _ _ hyr]; rfl
          have hn2b := HN2.out
          have hzr := hbel2.size
          have hYr : Y < wr.heap.size := Nat.lt_of_lt_of_le hYlt hzr
          have hpr := HRX.out.below hbel2 (Nat.le_refl _)
          clear hg hown hyr
          by_cases hj : j < n2
          · have hjI : (j : Int) < (n2 : Int) := by omega
            have hj0 : (0 : Int) ≤ (j : Int) := by omega
            obtain ⟨b3, o3, r, rfl, hbB3, hx, hr0, hr1, h3, h4⟩ := hpr.at_ hj
            have HXR := Lib.hid hx
            have HSU := Lib.hid (cutL_succ (x := x) hx)
            unfold two64 at h3 h4
            clear hx hpr
            have HCS : Hid (CutSt w6 wr.heap.size w6.heap.size A3 n3 c3 (cutL x (P.take j)) r (wr.alloc (.cells #[.int .u64 (r.1 : Int), .int .u64 (r.2 : Int)] 49))) :=
              ⟨HOW.out.alloc _, Far.of_ownP HOW.out (Nat.le_refl _), heap_alloc_new wr _, hbel2.trans ((below_box wr _).mono hzr), hzr⟩
            have HKEEP : Hid (∀ w3, Below w6.heap.size w6 w3 → w3.cell? ⟨Y, 0, none⟩ = some (.int .u64 (x.1 : Int)) ∧ w3.cell? ⟨Y, 1, none⟩ = some (.int .u64 (x.2 : Int)) ∧ Y < w3.heap.size) := fun w3 hb3 => by
              have hy3 := (hb3.block Y hYlt).trans HY.out
              exact ⟨by rw [cell_of_row w3 _ 0 _ _ _ hy3]; rfl, by rw [cell_of_row w3 _ 1 _ _ _ hy3]; rfl, Nat.lt_of_lt_of_le hYlt hb3.size⟩
            by_cases hfar : x.2 < r.1 ∨ r.2 < x.1
            · have HE : Hid (cutL x (P.take (j + 1)) = cutL x (P.take j) ++ [r]) := by show _ = _; rw [HSU.out]; unfold cutR; rw [if_pos hfar]
              by_cases hf1 : x.2 < r.1
              · have hf1I : (x.2 : Int) < (r.1 : Int) := by omega
                clear hfar
                go_wp2_with (at_builtin; refine wpList_append_dstN _ rfl (.tmp 42) (.tmp 44) 29 29 rfl w6.heap.size 49 i0 _ 2 16 Try.underlying29 hi0 hz0 hz1 hz2 rfl A3 (n3) c3 (rvs (cutL x (P.take j))) rfl (DstN.alloc (.inr HCS.out.own) _) _ 1 (rv r) rfl (rrun_src _ _ (by simp) r _ _ rfl rfl) (by have := HN3.out; omega) (by have := HN3.out; omega) (by simp; omega) ?_; intro A4 c4 wn4 h1 h2 h3 h4 h5 h6; have HC4 := Lib.hid ((HCS.out.alloc _).app (h2 (by omega)) h4 h5 h6); have hp0 := HC4.out.c0; have hp1 := HC4.out.c1; obtain ⟨hk0, hk1, hk2⟩ := HKEEP.out _ HC4.out.bel; have hzz := HC4.out.lt; have hbz := HC4.out.bel.size; clear h1 h2 h3 h4 h5 h6)
                go_roundg (gk - 1)
                case measure => have := HG2.out; have := HPL.out; omega
                case rel => exact ⟨j + 1, A4, n3 + 1, c4, by have := HG2.out; have := HPL.out; omega, rfl, by go_num, by rw [HE.out]; exact HC4.out.own, HC4.out.bel⟩
              · have hf1I : ¬ (x.2 : Int) < (r.1 : Int) := by omega
                have hf2I : (r.2 : Int) < (x.1 : Int) := by omega
                clear hfar
                go_wp2_with (at_builtin; refine wpList_append_dstN _ rfl (.tmp 42) (.tmp 44) 29 29 rfl w6.heap.size 49 i0 _ 2 16 Try.underlying29 hi0 hz0 hz1 hz2 rfl A3 (n3) c3 (rvs (cutL x (P.take j))) rfl (DstN.alloc (.inr HCS.out.own) _) _ 1 (rv r) rfl (rrun_src _ _ (by simp) r _ _ rfl rfl) (by have := HN3.out; omega) (by have := HN3.out; omega) (by simp; omega) ?_; intro A4 c4 wn4 h1 h2 h3 h4 h5 h6; have HC4 := Lib.hid ((HCS.out.alloc _).app (h2 (by omega)) h4 h5 h6); have hp0 := HC4.out.c0; have hp1 := HC4.out.c1; obtain ⟨hk0, hk1, hk2⟩ := HKEEP.out _ HC4.out.bel; have hzz := HC4.out.lt; have hbz := HC4.out.bel.size; clear h1 h2 h3 h4 h5 h6)
                go_roundg (gk - 1)
                case measure => have := HG2.out; have := HPL.out; omega
                case rel => exact ⟨j + 1, A4, n3 + 1, c4, by have := HG2.out; have := HPL.out; omega, rfl, by go_num, by rw [HE.out]; exact HC4.out.own, HC4.out.bel⟩
            · have hf1I : ¬ (x.2 : Int) < (r.1 : Int) := by omega
              have hf2I : ¬ (r.2 : Int) < (x.1 : Int) := by omega
              have HE0 : Hid (cutL x (P.take (j + 1)) = cutL x (P.take j) ++ ((if r.1 < x.1 then [(r.1, x.1 - 1)] else []) ++ (if x.2 < r.2 then [(x.2 + 1, r.2)] else []))) := by show _ = _; rw [HSU.out]; unfold cutR; rw [if_neg hfar]
              by_cases hl : r.1 < x.1
              · have hlI : (r.1 : Int) < (x.1 : Int) := by omega
                have hx1 : (1 : Int) ≤ (x.1 : Int) := by omega
                by_cases hh : x.2 < r.2
                · have hhI : (x.2 : Int) < (r.2 : Int) := by omega
                  have hx2 : (x.2 : Int) + 1 < 18446744073709551616 := by omega
                  have HE : Hid (cutL x (P.take (j + 1)) = cutL x (P.take j) ++ [(r.1, x.1 - 1)] ++ [(x.2 + 1, r.2)]) := by show _ = _; rw [HE0.out, if_pos hl, if_pos hh, List.append_assoc]
                  go_wp2_with (at_builtin; first | (refine wpList_append_dstN _ rfl (.tmp 65) (.tmp 72) 29 29 rfl w6.heap.size 49 i0 _ 2 16 Try.underlying29 hi0 hz0 hz1 hz2 rfl A4 (n3 + 1) c4 (rvs (cutL x (P.take j) ++ [(r.1, x.1 - 1)])) rfl (DstN.alloc (.inr HC4.out.own) _) _ 1 (rv (x.2 + 1, r.2)) rfl (rrun_src _ _ (by simp) (x.2 + 1, r.2) _ _ (by simp) rfl) (by have := HN3.out; omega) (by have := HN3.out; omega) (by simp; omega) ?_; intro A5 c5 wn5 h1 h2 h3 h4 h5 h6; have HC5 := Lib.hid ((HC4.out.alloc _).app (h2 (by omega)) h4 h5 h6); have hp0 := HC5.out.c0; have hp1 := HC5.out.c1; obtain ⟨hk0, hk1, hk2⟩ := HKEEP.out _ HC5.out.bel; have hzz := HC5.out.lt; have hbz := HC5.out.bel.size; clear h1 h2 h3 h4 h5 h6) | (refine wpList_append_dstN _ rfl (.tmp 51) (.tmp 58) 29 29 rfl w6.heap.size 49 i0 _ 2 16 Try.underlying29 hi0 hz0 hz1 hz2 rfl A3 (n3) c3 (rvs (cutL x (P.take j))) rfl (DstN.alloc (.inr HCS.out.own) _) _ 1 (rv (r.1, x.1 - 1)) rfl (rrun_src _ _ (by simp) (r.1, x.1 - 1) _ _ rfl (by simp; omega)) (by have := HN3.out; omega) (by have := HN3.out; omega) (by simp; omega) ?_; intro A4 c4 wn4 h1 h2 h3 h4 h5 h6; have HC4 := Lib.hid ((HCS.out.alloc _).app (h2 (by omega)) h4 h5 h6); have hp0 := HC4.out.c0; have hp1 := HC4.out.c1; obtain ⟨hk0, hk1, hk2⟩ := HKEEP.out _ HC4.out.bel; have hzz := HC4.out.lt; have hbz := HC4.out.bel.size; clear h1 h2 h3 h4 h5 h6))
                  go_roundg (gk - 1)
                  case measure => have := HG2.out; have := HPL.out; omega
                  case rel => exact ⟨j + 1, A5, n3 + 1 + 1, c5, by have := HG2.out; have := HPL.out; omega, by first | rfl | (congr 1; omega), by go_num, by rw [HE.out]; exact HC5.out.own, HC5.out.bel⟩
                · have hhI : ¬ (x.2 : Int) < (r.2 : Int) := by omega
                  have HE : Hid (cutL x (P.take (j + 1)) = cutL x (P.take j) ++ [(r.1, x.1 - 1)]) := by show _ = _; rw [HE0.out, if_pos hl, if_neg hh, List.append_nil]
                  go_wp2_with (at_builtin; refine wpList_append_dstN _ rfl (.tmp 51) (.tmp 58) 29 29 rfl w6.heap.size 49 i0 _ 2 16 Try.underlying29 hi0 hz0 hz1 hz2 rfl A3 (n3) c3 (rvs (cutL x (P.take j))) rfl (DstN.alloc (.inr HCS.out.own) _) _ 1 (rv (r.1, x.1 - 1)) rfl (rrun_src _ _ (by simp) (r.1, x.1 - 1) _ _ rfl (by simp; omega)) (by have := HN3.out; omega) (by have := HN3.out; omega) (by simp; omega) ?_; intro A4 c4 wn4 h1 h2 h3 h4 h5 h6; have HC4 := Lib.hid ((HCS.out.alloc _).app (h2 (by omega)) h4 h5 h6); have hp0 := HC4.out.c0; have hp1 := HC4.out.c1; obtain ⟨hk0, hk1, hk2⟩ := HKEEP.out _ HC4.out.bel; have hzz := HC4.out.lt; have hbz := HC4.out.bel.size; clear h1 h2 h3 h4 h5 h6)
                  go_roundg (gk - 1)
                  case measure => have := HG2.out; have := HPL.out; omega
                  case rel => exact ⟨j + 1, A4, n3 + 1, c4, by have := HG2.out; have := HPL.out; omega, rfl, by go_num, by rw [HE.out]; exact HC4.out.own, HC4.out.bel⟩
              · have hlI : ¬ (r.1 : Int) < (x.1 : Int) := by omega
                by_cases hh : x.2 < r.2
                · have hhI : (x.2 : Int) < (r.2 : Int) := by omega
                  have hx2 : (x.2 : Int) + 1 < 18446744073709551616 := by omega
                  have HE : Hid (cutL x (P.take (j + 1)) = cutL x (P.take j) ++ [(x.2 + 1, r.2)]) := by show _ = _; rw [HE0.out, if_neg hl, if_pos hh, List.nil_append]
                  go_wp2_with (at_builtin; refine wpList_append_dstN _ rfl (.tmp 65) (.tmp 72) 29 29 rfl w6.heap.size 49 i0 _ 2 16 Try.underlying29 hi0 hz0 hz1 hz2 rfl A3 (n3) c3 (rvs (cutL x (P.take j))) rfl (DstN.alloc (.inr HCS.out.own) _) _ 1 (rv (x.2 + 1, r.2)) rfl (rrun_src _ _ (by simp) (x.2 + 1, r.2) _ _ (by simp) rfl) (by have := HN3.out; omega) (by have := HN3.out; omega) (by simp; omega) ?_; intro A4 c4 wn4 h1 h2 h3 h4 h5 h6; have HC4 := Lib.hid ((HCS.out.alloc _).app (h2 (by omega)) h4 h5 h6); have hp0 := HC4.out.c0; have hp1 := HC4.out.c1; obtain ⟨hk0, hk1, hk2⟩ := HKEEP.out _ HC4.out.bel; have hzz := HC4.out.lt; have hbz := HC4.out.bel.size; clear h1 h2 h3 h4 h5 h6)
                  go_roundg (gk - 1)
                  case measure => have := HG2.out; have := HPL.out; omega
                  case rel => exact ⟨j + 1, A4, n3 + 1, c4, by have := HG2.out; have := HPL.out; omega, rfl, by go_num, by rw [HE.out]; exact HC4.out.own, HC4.out.bel⟩
                · have hhI : ¬ (x.2 : Int) < (r.2 : Int) := by omega
                  have HE : Hid (cutL x (P.take (j + 1)) = cutL x (P.take j)) := by show _ = _; rw [HE0.out, if_neg hl, if_neg hh, List.append_nil, List.append_nil]
                  go_wp2
                  go_roundg (gk - 1)
                  case measure => have := HG2.out; have := HPL.out; omega
                  case rel => exact ⟨j + 1, A3, n3, c3, by have := HG2.out; have := HPL.out; omega, rfl, by go_num, by rw [HE.out]; exact HCS.out.own, HCS.out.bel⟩
          · have hjI : ¬ (j : Int) < (n2 : Int) := by omega
            have HE : Hid (P.take j = P) := List.take_of_length_le (by have := HPL.out; omega)
            clear hpr
            go_wp2
            go_roundg (n' - (k + 1))
            case measure => have := HG.out; have := HLEN'.out; omega
            case rel =>
              have ho := HOW.out
              rw [HE.out] at ho
              exact ⟨k + 1, A3, n3, c3, cutL x P, by have := HG.out; have := HLEN'.out; omega, rfl, by go_num, Rs.of_own ho HNX.out.ok.lt, HNX.out, HBX.out.trans (hbel2.mono HBX.out.size)⟩
    · have hkI : ¬ (k : Int) < (n' : Int) := by omega
      have HE : Hid (P = R) := by show _ = _; rw [HR.out]; exact HST.out.done (by have := HLEN'.out; omega) HLT.out HLT'.out
      clear hmr
      go_wp2
      go_ret
      exact ⟨A2, n2, c2, rfl, HE.out ▸ HRS.out, HBW.out⟩
end Go.Proofs.Ytefoeebchjnfaaa
