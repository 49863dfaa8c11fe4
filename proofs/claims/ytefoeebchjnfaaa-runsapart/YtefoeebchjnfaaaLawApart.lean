/-
  THE WALK of the law RunsApart: whatever the runs and the number, it returns true, and turns nothing that was there.
-/
import Derived.Test.YtefoeebchjnfaaaRunsTwo
namespace Go.Proofs.Ytefoeebchjnfaaa
open Go.RowKit

theorem drew_size (w : World) : w.drew.heap.size = w.heap.size := rfl
section
variable {cs : List (Nat × Value)} {l r : List Sq} {w0 wz W : World} {A A' : Option Addr} {n c n' c' m m' : Nat} {L L' : List Rn} {x1 x2 : Option (Nat × Value)} {qs : List Sq}
theorem J2.begin (wz : World) (v : Value) : J2 wz (some (wz.heap.size, v)) none [] (wz.alloc (.cells #[v] 27)) :=
  ⟨below_box wz _, fun p hp => by
    injection hp with hp
    subst hp
    exact ⟨heap_alloc_new wz _, Nat.le_refl _⟩, fun _ h => (by cases h), fun _ _ _ h => (by cases h), fun _ h => (by cases h), fun _ h => (by cases h), fun _ h => (by cases h)⟩
theorem J2.bun1 {p : Nat × Value} (h : J2 wz (some p) none qs W) (hB : Bun cs l r w0 wz) : Bun (p :: cs) (qs ++ l) r w0 W := by
  have h2 := hB.next h.bel
  refine ⟨fun c hc => ?_, fun s hs => ?_, h2.rows, h2.bel⟩
  · rcases List.mem_cons.1 hc with rfl | hc
    · exact h.cell1
    · exact h2.cell c hc
  · rcases List.mem_append.1 hs with hs | hs
    · exact h.sets s hs
    · exact h2.sets s hs
theorem add_j (h : Bun cs l r w0 wz) (hq : Sq.mk A n c L m ∈ l) (hJ : J2 wz x1 x2 qs W) (hm : m ≤ 500) (v : Nat) (hv : v < two64) :
    Calls Try.prog 41 #[.agg #[.slice A n c], .int .u64 (v : Int)] W (GivesJ wz x1 x2 qs (spanL L v v) (m + 1)) := by
  obtain ⟨h1, h2, h3⟩ := h.sets _ hq
  simp only at h1 h2 h3
  refine (add_any W wz.heap.size A n c v L (h1.below hJ.bel (Nat.le_refl _)) hJ.bel.size hv (by omega)).mono ?_
  rintro e w' ⟨A', n', c', rfl, hs, hp, hb⟩
  refine ⟨A', n', c', rfl, hJ.call hs (span_ok h2 hv hv) ?_ hp hb⟩
  have := span_len h2 hv hv
  have := h1.rs.len
  have := hs.rs.len
  omega
theorem below_q (hJ : J2 wz x1 x2 qs W) (hq : Sq.mk A n c L m ∈ qs) (hm : m ≤ 900) (v : Nat) (hv : v < two64) :
    Calls Try.prog 29 #[.agg #[.slice A n c], .int .u64 (v : Int)] W (GivesJ wz x1 x2 qs (belowL L v) (m + 1)) := by
  obtain ⟨h1, h2, h3⟩ := hJ.sets _ hq
  simp only at h1 h2 h3
  refine (below_any W A n c v L h1.rs h2 (by omega) hv).mono ?_
  rintro e w' ⟨A', n', c', rfl, hs, hp, hb⟩
  refine ⟨A', n', c', rfl, hJ.call hs (below_ok h2 hv) ?_ (fun b o e => (hp b o e).imp (fun h => by omega) id) hb⟩
  have := below_len h2 hv
  have := h1.rs.len
  have := hs.rs.len
  omega
theorem has_yes (h : Bun cs l r w0 W) (hq : Sq.mk A n c L m ∈ l) (hm : m ≤ 900) (v : Nat) (hh : hasL L v = true) :
    Calls Try.prog 25 #[.agg #[.slice A n c], .int .u64 (v : Int)] W (Gives cs l r w0 (.bool true)) := hh ▸ has_b h hq hm v
theorem has_no (h : Bun cs l r w0 W) (hq : Sq.mk A n c L m ∈ l) (hm : m ≤ 900) (v : Nat) (hh : hasL L v = false) :
    Calls Try.prog 25 #[.agg #[.slice A n c], .int .u64 (v : Int)] W (Gives cs l r w0 (.bool false)) := hh ▸ has_b h hq hm v
theorem of_len1 (v : Nat) : (ofL [v]).length ≤ 1 := by
  have h := ofGo_len (sortN [v]) []
  rw [sortN_len] at h
  simpa [ofL] using h
/-- One number in a row of its own. -/
def OneNum (v g : Nat) (w : World) : Prop := Sn w w.heap.size (some ⟨g, 0, none⟩) 1 1 1 (nvs [v])
theorem oneNum_new (w : World) (v : Nat) : OneNum v w.heap.size (w.alloc (.cells #[.int .u64 (v : Int)] 23)) := lit_nums w [v] 1 rfl (by unfold maxLen; omega)
theorem of_b (h : Bun cs l r w0 W) (v g : Nat) (hv : v < two64) (hN : OneNum v g W) :
    Calls Try.prog 35 #[.slice (some ⟨g, 0, none⟩) 1 1] W (GivesS cs l r w0 (ofL [v]) 1) :=
  (ofR_any W _ 1 1 [v] hN (fun x hx => by rw [List.mem_singleton] at hx; subst hx; exact hv) (by omega) (by omega)).mono fun _ _ hs => gives_of h hs (of_ok (fun x hx => by rw [List.mem_singleton] at hx; subst hx; exact hv)) (of_len1 v)
end
theorem ap1 {S : List Rn} (h : Okl S) {v : Nat} (hv : v < two64) : hasL (belowL (spanL S v v) v) v = false :=
  hasL_false (below_ok (span_ok h hv hv) hv) fun hm => by
    rw [below_mem (span_ok h hv hv) hv] at hm
    omega
theorem ap2 {S : List Rn} (h : Okl S) {v : Nat} (hv : v < two64) : hasL (spanL S v v) v = true :=
  hasL_true (span_ok h hv hv) ((span_mem h hv hv v).2 (.inr ⟨Nat.le_refl _, Nat.le_refl _⟩))
theorem ap3 {S : List Rn} (h : Okl S) {v : Nat} (hv : v < two64) : hasL (lessL S (ofL [v])) v = false := by
  have ho : Okl (ofL [v]) := of_ok (fun x hx => by rw [List.mem_singleton] at hx; subst hx; exact hv)
  refine hasL_false (less_ok h ho) fun hm => ?_
  rw [less_mem h ho, of_mem] at hm
  exact hm.2 (List.mem_singleton.2 rfl)
def ZeroRel (w : World) (g n c gk : Nat) (vi : Value) (wr : World) : Prop :=
  ∃ k L, gk + k = n ∧ vi = .int .i64 ((k : Nat) : Int) ∧ Own wr w.heap.size (some ⟨g, 0, none⟩) n c L ∧ Below w.heap.size w wr
theorem own_zero {w : World} {base g n c j : Nat} {L : List Rn} (h : Own w base (some ⟨g, 0, none⟩) n c L) (hj : j < n) :
    (∃ u v, w.cell? ⟨g, j * 2, none⟩ = some u ∧ w.cell? ⟨g, j * 2 + 1, none⟩ = some v) ∧ w.frozen? ⟨g, j * 2, none⟩ = false ∧ w.frozen? ⟨g, j * 2 + 1, none⟩ = false ∧
      ∃ L', Own ((w.setCell ⟨g, j * 2, none⟩ (.int .u64 0)).setCell ⟨g, j * 2 + 1, none⟩ (.int .u64 0)) base (some ⟨g, 0, none⟩) n c L' := by
  have hl : L.length = n := by have := h.1; rw [rvs_len] at this; omega
  obtain ⟨r, hr⟩ : ∃ r, L[j]? = some r := ⟨_, List.getElem?_eq_getElem (by omega)⟩
  obtain ⟨e0, e1⟩ := rvs_at hr
  have h0 := h.cells (g := g) rfl _ _ e0
  have h1 := h.cells (g := g) rfl _ _ e1
  rw [add_plain, Nat.zero_add] at h0 h1
  refine ⟨⟨_, _, h0, h1⟩, by simpa using h.frozenAt (g := g) (j * 2), by simpa using h.frozenAt (g := g) (j * 2 + 1), L.set j (0, 0), ?_⟩
  have h2 := own_setN (own_setN h (j * 2) (.int .u64 0)) (j * 2 + 1) (.int .u64 0)
  have e : ((rvs L).set (j * 2) (.int .u64 0)).set (j * 2 + 1) (.int .u64 0) = rvs (L.set j (0, 0)) := by
    clear h h0 h1 h2 hr e0 e1
    induction L generalizing j n with
    | nil => simp [rvs]
    | cons a L ih =>
      rcases j with _ | j
      · simp [rvs, rv]
      · have := ih (n := n - 1) (j := j) (by omega) (by simp at hl; omega)
        rw [rvs_cons, List.set_cons_succ, rvs_cons, ← this, show (j + 1) * 2 = j * 2 + 1 + 1 from by omega]
        simp [rv]
  rw [e] at h2
  exact h2
set_option maxRecDepth 100000 in
set_option maxHeartbeats 4000000 in
theorem runsApart_walk (w : World) (A : Option Addr) (n c : Nat) (l : List Rn) (hs : Rs w w.heap.size A n c l) (v : Nat) (hv : v < two64) :
    Calls Try.prog 7 #[.slice A n c, .int .u64 (v : Int)] w (Says w (.bool true)) := by
  have HV := Lib.hid hv
  have HB := Lib.hid ((Bun.start w).addR (m := n) hs (Nat.le_refl _))
  clear hs hv
  go_enter Try.func7, Try.ntmps7
  go_wp2_with fail
  refine (awake_b HB.out).mono ?_
  rintro e w1 ⟨rfl, hb⟩
  have HB1 := Lib.hid hb
  clear hb HB
  go_wp2_with fail
  refine (few_b HB1.out List.mem_cons_self).mono ?_
  rintro e w1' ⟨rfl, rfl⟩
  have HB2 := Lib.hid (HB1.out.few List.mem_cons_self)
  have HOK := Lib.hid (set_spec _ (HB2.out.lt List.mem_cons_self)).1
  clear HB1
  generalize l.take (min n 20) = L at *
  generalize min n 20 = m at *
  go_wp2_with fail
  refine (set_b HB2.out List.mem_cons_self (by omega)).mono ?_
  rintro e w2 ⟨A2, n2, c2, rfl, hb⟩
  have HB3 := Lib.hid (hb.box (.slice A2 n2 c2) 27)
  obtain ⟨X, hX⟩ : ∃ X, w2.heap.size = X := ⟨_, rfl⟩
  have HX := Lib.hid hX
  rw [hX] at HB3
  clear hb HB2 hX
  go_wp2_with fail
  rw [HX.out]
  generalize w2.alloc (.cells #[.slice A2 n2 c2] 27) = w3 at *
  clear HX
  refine (own_b HB3.out List.mem_cons_self (by omega)).mono ?_
  rintro e w4 ⟨A4, n4, c4, rfl, hb⟩
  have HB4 := Lib.hid hb
  clear hb HB3
  go_wp2_with fail
  refine (plain_b HB4.out List.mem_cons_self (by omega)).mono ?_
  rintro e w5 ⟨A5, n5, c5, rfl, hb⟩
  have HB5 := Lib.hid hb
  have hc5 := hb.cell _ List.mem_cons_self
  simp only at hc5
  have hst := (hb.sets _ List.mem_cons_self).1
  simp only at hst
  have hn2 : n2 ≤ 20 := (hb.sets _ List.mem_cons_self).2.2
  have HST := Lib.hid hst
  clear hb HB4 hst
  go_wp2_with fail
  refine (runs_any w5 A2 n2 c2 _ HST.out.rs (by omega)).mono ?_
  rintro e w6 ⟨A6, n6, c6, rfl, hown6, hb6⟩
  have HO6 := Lib.hid hown6
  have HB6 := Lib.hid hb6
  have hn6 : n6 ≤ 20 := by have h1 := hown6.1; rw [rvs_len, HST.out.rs.len] at h1; omega
  clear hown6 hb6 hc5
  generalize setL L = S at *
  go_wp2_with fail
  go_loopg [24] n6 (fun gk vi wr => ∃ k : Nat, gk + k = n6 ∧ vi = .int .i64 (k : Int) ∧ (∃ L', Own wr w5.heap.size A6 n6 c6 L') ∧ Below w5.heap.size w5 wr)
  case atStart => exact ⟨0, by omega, rfl, ⟨_, HO6.out⟩, HB6.out⟩
  case round =>
    obtain ⟨k, hg, rfl, ⟨L', hown⟩, hbel⟩ := hrel
    have HG := Lib.hid hg
    clear hg
    by_cases hk : k < n6
    · have hkI : (k : Int) < (n6 : Int) := by omega
      have hk0 : (0 : Int) ≤ (k : Int) := by omega
      obtain ⟨g, rfl⟩ : ∃ g, A6 = some ⟨g, 0, none⟩ := by
        rcases hown.2 with ⟨hvv, hz⟩ | ⟨g, cap, cur, hvv, _⟩
        · omega
        · injection hvv with e1
          exact ⟨g, e1⟩
      obtain ⟨⟨u1, u2, hz0, hz1⟩, hz2, hz3, L2, hown2⟩ := own_zero hown hk
      have hgb := (hown.lt g rfl).1
      have HO2 := Lib.hid hown2
      clear hown hown2
      go_wp2
      go_roundg (gk - 1)
      case measure => have := HG.out; omega
      case rel => exact ⟨k + 1, by have := HG.out; omega, by go_num, ⟨L2, HO2.out⟩, (hbel.setCell hgb _).setCell hgb _⟩
    · have hkI : ¬ (k : Int) < (n6 : Int) := by omega
      have HB7 := Lib.hid (HB5.out.next hbel)
      have hc7 := HB7.out.cell _ List.mem_cons_self
      simp only at hc7
      clear hown hbel
      go_wp2_with fail
      refine (add_b HB7.out List.mem_cons_self (by omega) v HV.out).mono ?_
      rintro e w8 ⟨A8, n8, c8, rfl, hb⟩
      have HB8 := Lib.hid hb
      have hc8 := hb.cell _ List.mem_cons_self
      simp only at hc8
      clear hb HB7 hc7
      go_wp2_with fail
      have hB : Bun _ _ _ w w8.drew := HB8.out.drewN 1
      clear HB8
      refine wp_region_noPanic ?_
      refine wp_region_held_drew (S := (fun w' => w'.cell? ⟨X, 0, none⟩ = some (.slice A2 n2 c2))) (by kernel_rfl) hc8 (fun hHeld => ?_)
      refine wpAnyH_take (i := 0) (oi := { dst := some 35, op := Op.load 27 (Operand.tmp 5), type := 27, pos := "law.go:120", after := #[], guard := none }) (v := ?_) rfl (by kernel_rfl) (by kernel_rfl) (by kernel_rfl) (fun _ _ _ h => h) (Or.inl ⟨by rfl, ?_⟩) (by assumption) ?_
      rotate_left
      · intro w hSw; (try dsimp only at hSw); first | (go_simp; done) | (go_simp; with_reducible rfl)
      try simp only [Act.put, List.setIfInBounds_toArray, List.set_cons_zero, List.set_cons_succ]
      refine wpAnyH_take (i := 1) (oi := { dst := some 36, op := Op.move (Operand.tmp 1), type := 23, pos := "law.go:120", after := #[], guard := none }) (v := ?_) rfl (by kernel_rfl) (by kernel_rfl) (by kernel_rfl) (fun _ _ _ h => h) (Or.inl ⟨by rfl, ?_⟩) (by assumption) ?_
      rotate_left
      · intro w hSw; (try dsimp only at hSw); first | (go_simp; done) | (go_simp; with_reducible rfl)
      try simp only [Act.put, List.setIfInBounds_toArray, List.set_cons_zero, List.set_cons_succ]
      refine wpAnyH_ready (rs := [2]) (by kernel_rfl) (by simp) ?_
      refine (AllReadyH.cons (o := { dst := some 37, op := Op.buildSlice 52 1 #[(0, Operand.tmp 36)], type := 52, pos := "law.go:120", after := #[{ on := 1, ground := Ground.data }], guard := none }) rfl (fun K hK => ?_) AllReadyH.nil)
      go_simp
      refine abs_K (Q := fun w' => Bun _ _ _ w w' ∧ OneNum v w8.heap.size w') ⟨hB.next (below_box _ _), oneNum_new w8.drew v⟩ ?_
      clear hB
      intro wa hN
      obtain ⟨hB, hN⟩ := hN
      go_wp2_with fail
      clear hHeld
      refine hK.out _ _ (hB.cell _ List.mem_cons_self) (fun hHeld => ?_)
      clear hK K
      try simp only [Act.put, List.setIfInBounds_toArray, List.set_cons_zero, List.set_cons_succ]
      refine wpAnyH_ready (rs := [3]) (by kernel_rfl) (by simp) ?_
      refine (AllReadyH.cons (o := { dst := some 38, op := Op.call { callee := Callee.value (Operand.func 35), args := #[Operand.tmp 37], argTypes := #[52] }, type := 27, pos := "law.go:120", after := #[{ on := 2, ground := Ground.data }], guard := none }) rfl (fun K hK => ?_) AllReadyH.nil)
      go_simp
      go_at_call 35
      with_reducible refine (of_b hB v w8.heap.size HV.out hN).mono ?_
      rintro e w9 ⟨A9, n9, c9, rfl, hB9⟩
      clear hB hN
      have hB := hB9
      clear hB9
      go_wp2_with fail
      clear hHeld
      refine hK.out _ _ (hB.cell _ List.mem_cons_self) (fun hHeld => ?_)
      clear hK K
      try simp only [Act.put, List.setIfInBounds_toArray, List.set_cons_zero, List.set_cons_succ]
      refine wpAnyH_ready (rs := [4]) (by kernel_rfl) (by simp) ?_
      refine (AllReadyH.cons (o := { dst := some 39, op := Op.call { callee := Callee.value (Operand.func 32), args := #[Operand.tmp 35, Operand.tmp 38], argTypes := #[27, 27] }, type := 27, pos := "law.go:120", after := #[{ on := 0, ground := Ground.data }, { on := 3, ground := Ground.data }, { on := 3, ground := Ground.chain }], guard := none }) rfl (fun K hK => ?_) AllReadyH.nil)
      go_simp
      go_at_call 32
      with_reducible refine (less_b hB (by repeat (first | exact List.mem_cons_self | refine List.mem_cons_of_mem _ ?_)) (by repeat (first | exact List.mem_cons_self | refine List.mem_cons_of_mem _ ?_)) (by omega) (by omega)).mono ?_
      rintro e w10 ⟨A10, n10, c10, rfl, hB9⟩
      clear hB
      have hB := hB9
      clear hB9
      go_wp2_with fail
      clear hHeld
      refine hK.out _ _ (hB.cell _ List.mem_cons_self) (fun hHeld => ?_)
      clear hK K
      try simp only [Act.put, List.setIfInBounds_toArray, List.set_cons_zero, List.set_cons_succ]
      refine wpAnyH_done (by kernel_rfl) ?_ _
      refine NoPanic.normal ?_
      clear hHeld
      have hc10 := hB.cell _ List.mem_cons_self
      simp only at hc10
      have HB10 := Lib.hid hB
      clear hB hc8
      go_wp2_with fail
      refine (runs_b HB10.out (A := A2) (n := n2) (c := c2) (L := S) (m := 20) (by repeat (first | exact List.mem_cons_self | refine List.mem_cons_of_mem _ ?_)) (by omega)).mono ?_
      rintro e w11 ⟨A11, n11, c11, rfl, hb⟩
      have HB11 := Lib.hid hb
      clear hb HB10 hc10
      go_wp2_with fail
      refine (make_yes HB11.out List.mem_cons_self (by omega) HOK.out.can).mono ?_
      rintro e w12 ⟨A12, n12, c12, rfl, hb⟩
      have HB12 := Lib.hid hb
      have HJ := Lib.hid (J2.begin w12 (.slice A12 n12 c12))
      obtain ⟨Y, hY⟩ : ∃ Y, w12.heap.size = Y := ⟨_, rfl⟩
      have HY := Lib.hid hY
      rw [hY] at HJ
      have hcy := HJ.out.cell1
      clear hb HB11 hY
      go_wp2_with fail
      rw [HY.out]
      generalize w12.alloc (.cells #[.slice A12 n12 c12] 27) = w13 at *
      clear HY
      refine (add_j HB12.out List.mem_cons_self HJ.out (by omega) v HV.out).mono ?_
      rintro e w14 ⟨A14, n14, c14, rfl, hJ⟩
      have HJ14 := Lib.hid hJ
      clear hJ HJ hcy
      go_wp2_with fail
      refine (below_q HJ14.out List.mem_cons_self (by omega) v HV.out).mono ?_
      rintro e w15 ⟨A15, n15, c15, rfl, hJ⟩
      have HJ15 := Lib.hid hJ
      have hcy := hJ.cell1
      have hfy := hJ.frz1
      clear hJ HJ14
      have hb15 := (HJ15.out.store1 (.slice A15 n15 c15)).bun1 HB12.out
      simp only [List.cons_append, List.nil_append] at hb15
      have HB15 := Lib.hid hb15
      clear HB12 hb15
      go_wp2_with fail
      clear HJ15 hcy hfy
      generalize w15.setCell ⟨Y, 0, none⟩ (.slice A15 n15 c15) = w16 at *
      have hB : Bun _ _ _ w w16.drew := HB15.out.drewN 1
      have hi1 : w16.cell? ⟨X, 0, none⟩ = some (.slice A2 n2 c2) := HB15.out.cell _ (List.mem_cons_of_mem _ List.mem_cons_self)
      have hi2 : w16.cell? ⟨Y, 0, none⟩ = some (.slice A15 n15 c15) := HB15.out.cell _ List.mem_cons_self
      clear HB15
      refine wp_region_noPanic ?_
      refine wp_region_held_drew (S := (fun w' => w'.cell? ⟨X, 0, none⟩ = some (.slice A2 n2 c2) ∧ w'.cell? ⟨Y, 0, none⟩ = some (.slice A15 n15 c15))) (by kernel_rfl) ⟨hi1, hi2⟩ (fun hHeld => ?_)
      refine wpAnyH_take (i := 0) (oi := { dst := some 51, op := Op.load 27 (Operand.tmp 5), type := 27, pos := "law.go:123", after := #[], guard := none }) (v := ?_) rfl (by kernel_rfl) (by kernel_rfl) (by kernel_rfl) (fun _ _ _ h => h) (Or.inl ⟨by rfl, ?_⟩) (by assumption) ?_
      rotate_left
      · intro w hSw; (try dsimp only at hSw); first | (go_simp; done) | (go_simp; with_reducible rfl)
      try simp only [Act.put, List.setIfInBounds_toArray, List.set_cons_zero, List.set_cons_succ]
      refine wpAnyH_take (i := 3) (oi := { dst := some 54, op := Op.move (Operand.tmp 6), type := 29, pos := "law.go:123", after := #[], guard := none }) (v := ?_) rfl (by kernel_rfl) (by kernel_rfl) (by kernel_rfl) (fun _ _ _ h => h) (Or.inl ⟨by rfl, ?_⟩) (by assumption) ?_
      rotate_left
      · intro w hSw; (try dsimp only at hSw); first | (go_simp; done) | (go_simp; with_reducible rfl)
      try simp only [Act.put, List.setIfInBounds_toArray, List.set_cons_zero, List.set_cons_succ]
      refine wpAnyH_ready (rs := [1]) (by kernel_rfl) (by simp) ?_
      refine (AllReadyH.cons (o := { dst := some 52, op := Op.call { callee := Callee.value (Operand.func 20), args := #[Operand.tmp 51], argTypes := #[27] }, type := 22, pos := "law.go:123", after := #[{ on := 0, ground := Ground.data }], guard := none }) rfl (fun K hK => ?_) AllReadyH.nil)
      go_simp
      go_at_call 20
      with_reducible refine (runs_b hB (by repeat (first | exact List.mem_cons_self | refine List.mem_cons_of_mem _ ?_)) (by omega)).mono ?_
      rintro e w17 ⟨A17, n17, c17, rfl, hB9⟩
      clear hB
      have hB := hB9
      clear hB9
      go_wp2_with fail
      clear hHeld
      refine hK.out _ _ ⟨hB.cell _ (List.mem_cons_of_mem _ List.mem_cons_self), hB.cell _ List.mem_cons_self⟩ (fun hHeld => ?_)
      clear hK K
      try simp only [Act.put, List.setIfInBounds_toArray, List.set_cons_zero, List.set_cons_succ]
      refine wpAnyH_ready (rs := [2]) (by kernel_rfl) (by simp) ?_
      refine (AllReadyH.cons (o := { dst := some 53, op := Op.call { callee := Callee.value (Operand.func 18), args := #[Operand.tmp 52], argTypes := #[22] }, type := 29, pos := "law.go:123", after := #[{ on := 1, ground := Ground.data }, { on := 1, ground := Ground.chain }], guard := none }) rfl (fun K hK => ?_) AllReadyH.nil)
      go_simp
      go_at_call 18
      with_reducible refine (own_b hB (by repeat (first | exact List.mem_cons_self | refine List.mem_cons_of_mem _ ?_)) (by omega)).mono ?_
      rintro e w18 ⟨A18, n18, c18, rfl, hB9⟩
      clear hB
      have hB := hB9
      clear hB9
      go_wp2_with fail
      clear hHeld
      refine hK.out _ _ ⟨hB.cell _ (List.mem_cons_of_mem _ List.mem_cons_self), hB.cell _ List.mem_cons_self⟩ (fun hHeld => ?_)
      clear hK K
      try simp only [Act.put, List.setIfInBounds_toArray, List.set_cons_zero, List.set_cons_succ]
      refine wpAnyH_ready (rs := [4]) (by kernel_rfl) (by simp) ?_
      refine (AllReadyH.cons (o := { dst := some 55, op := Op.call { callee := Callee.value (Operand.func 23), args := #[Operand.tmp 53, Operand.tmp 54], argTypes := #[29, 29] }, type := 4, pos := "law.go:123", after := #[{ on := 2, ground := Ground.data }, { on := 3, ground := Ground.data }, { on := 2, ground := Ground.chain }], guard := none }) rfl (fun K hK => ?_) AllReadyH.nil)
      go_simp
      go_at_call 23
      with_reducible refine (refSame_yes hB (by repeat (first | exact List.mem_cons_self | refine List.mem_cons_of_mem _ ?_)) (by repeat (first | exact List.mem_cons_self | refine List.mem_cons_of_mem _ ?_)) rfl).mono ?_
      rintro e w19 ⟨rfl, hB9⟩
      clear hB
      have hB := hB9
      clear hB9
      go_wp2_with fail
      clear hHeld
      refine hK.out _ _ ⟨hB.cell _ (List.mem_cons_of_mem _ List.mem_cons_self), hB.cell _ List.mem_cons_self⟩ (fun hHeld => ?_)
      clear hK K
      try simp only [Act.put, List.setIfInBounds_toArray, List.set_cons_zero, List.set_cons_succ]
      refine wpAnyH_take (i := 5) (oi := { dst := some 56, op := Op.move (Operand.tmp 55), type := 4, pos := "law.go:123", after := #[{ on := 4, ground := Ground.data }, { on := 4, ground := Ground.chain }], guard := none }) (v := ?_) rfl (by kernel_rfl) (by kernel_rfl) (by kernel_rfl) (fun _ _ _ h => h) (Or.inl ⟨by rfl, ?_⟩) (by assumption) ?_
      rotate_left
      · intro w hSw; (try dsimp only at hSw); first | (go_simp; done) | (go_simp; with_reducible rfl)
      try simp only [Act.put, List.setIfInBounds_toArray, List.set_cons_zero, List.set_cons_succ]
      refine wpAnyH_take (i := 6) (oi := { dst := some 57, op := Op.load 27 (Operand.tmp 9), type := 27, pos := "law.go:123", after := #[{ on := 5, ground := Ground.guard }], guard := some (5, true) }) (v := ?_) rfl (by kernel_rfl) (by kernel_rfl) (by kernel_rfl) (fun _ _ _ h => h) (Or.inl ⟨by rfl, ?_⟩) (by assumption) ?_
      rotate_left
      · intro w hSw; (try dsimp only at hSw); first | (go_simp; done) | (go_simp; with_reducible rfl)
      try simp only [Act.put, List.setIfInBounds_toArray, List.set_cons_zero, List.set_cons_succ]
      refine wpAnyH_take (i := 7) (oi := { dst := some 58, op := Op.move (Operand.tmp 1), type := 23, pos := "law.go:123", after := #[{ on := 5, ground := Ground.guard }], guard := some (5, true) }) (v := ?_) rfl (by kernel_rfl) (by kernel_rfl) (by kernel_rfl) (fun _ _ _ h => h) (Or.inl ⟨by rfl, ?_⟩) (by assumption) ?_
      rotate_left
      · intro w hSw; (try dsimp only at hSw); first | (go_simp; done) | (go_simp; with_reducible rfl)
      try simp only [Act.put, List.setIfInBounds_toArray, List.set_cons_zero, List.set_cons_succ]
      refine wpAnyH_ready (rs := [8]) (by kernel_rfl) (by simp) ?_
      refine (AllReadyH.cons (o := { dst := some 59, op := Op.call { callee := Callee.value (Operand.func 25), args := #[Operand.tmp 57, Operand.tmp 58], argTypes := #[27, 23] }, type := 4, pos := "law.go:123", after := #[{ on := 6, ground := Ground.data }, { on := 7, ground := Ground.data }, { on := 5, ground := Ground.chain }, { on := 5, ground := Ground.guard }], guard := some (5, true) }) rfl (fun K hK => ?_) AllReadyH.nil)
      go_simp
      go_at_call 25
      first | ((with_reducible refine (has_no hB (by repeat (first | exact List.mem_cons_self | refine List.mem_cons_of_mem _ ?_)) (by omega) v (by first | exact ap1 HOK.out HV.out | exact ap3 HOK.out HV.out)).mono ?_); rintro e w20 ⟨rfl, hB9⟩) | ((with_reducible refine (has_yes hB (by repeat (first | exact List.mem_cons_self | refine List.mem_cons_of_mem _ ?_)) (by omega) v (by exact ap2 HOK.out HV.out)).mono ?_); rintro e w20 ⟨rfl, hB9⟩)
      clear hB
      have hB := hB9
      clear hB9
      go_wp2_with fail
      clear hHeld
      refine hK.out _ _ ⟨hB.cell _ (List.mem_cons_of_mem _ List.mem_cons_self), hB.cell _ List.mem_cons_self⟩ (fun hHeld => ?_)
      clear hK K
      try simp only [Act.put, List.setIfInBounds_toArray, List.set_cons_zero, List.set_cons_succ]
      refine wpAnyH_take (i := 9) (oi := { dst := some 60, op := Op.unOp UnOp.not 4 (Operand.tmp 59), type := 4, pos := "law.go:123", after := #[{ on := 8, ground := Ground.data }, { on := 5, ground := Ground.guard }], guard := some (5, true) }) (v := ?_) rfl (by kernel_rfl) (by kernel_rfl) (by kernel_rfl) (fun _ _ _ h => h) (Or.inl ⟨by rfl, ?_⟩) (by assumption) ?_
      rotate_left
      · intro w hSw; (try dsimp only at hSw); first | (go_simp; done) | (go_simp; with_reducible rfl)
      try simp only [Act.put, List.setIfInBounds_toArray, List.set_cons_zero, List.set_cons_succ]
      refine wpAnyH_take (i := 10) (oi := { dst := some 61, op := Op.pick (Operand.tmp 56) (Operand.tmp 60) (Operand.const (Value.bool false)), type := 4, pos := "law.go:123", after := #[{ on := 5, ground := Ground.data }, { on := 9, ground := Ground.data }], guard := none }) (v := ?_) rfl (by kernel_rfl) (by kernel_rfl) (by kernel_rfl) (fun _ _ _ h => h) (Or.inl ⟨by rfl, ?_⟩) (by assumption) ?_
      rotate_left
      · intro w hSw; (try dsimp only at hSw); first | (go_simp; done) | (go_simp; with_reducible rfl)
      try simp only [Act.put, List.setIfInBounds_toArray, List.set_cons_zero, List.set_cons_succ]
      refine wpAnyH_take (i := 11) (oi := { dst := some 62, op := Op.move (Operand.tmp 61), type := 4, pos := "law.go:123", after := #[{ on := 10, ground := Ground.data }, { on := 8, ground := Ground.chain }], guard := none }) (v := ?_) rfl (by kernel_rfl) (by kernel_rfl) (by kernel_rfl) (fun _ _ _ h => h) (Or.inl ⟨by rfl, ?_⟩) (by assumption) ?_
      rotate_left
      · intro w hSw; (try dsimp only at hSw); first | (go_simp; done) | (go_simp; with_reducible rfl)
      try simp only [Act.put, List.setIfInBounds_toArray, List.set_cons_zero, List.set_cons_succ]
      refine wpAnyH_take (i := 12) (oi := { dst := some 63, op := Op.load 27 (Operand.tmp 5), type := 27, pos := "law.go:123", after := #[{ on := 11, ground := Ground.guard }], guard := some (11, true) }) (v := ?_) rfl (by kernel_rfl) (by kernel_rfl) (by kernel_rfl) (fun _ _ _ h => h) (Or.inl ⟨by rfl, ?_⟩) (by assumption) ?_
      rotate_left
      · intro w hSw; (try dsimp only at hSw); first | (go_simp; done) | (go_simp; with_reducible rfl)
      try simp only [Act.put, List.setIfInBounds_toArray, List.set_cons_zero, List.set_cons_succ]
      refine wpAnyH_take (i := 13) (oi := { dst := some 64, op := Op.move (Operand.tmp 1), type := 23, pos := "law.go:123", after := #[{ on := 11, ground := Ground.guard }], guard := some (11, true) }) (v := ?_) rfl (by kernel_rfl) (by kernel_rfl) (by kernel_rfl) (fun _ _ _ h => h) (Or.inl ⟨by rfl, ?_⟩) (by assumption) ?_
      rotate_left
      · intro w hSw; (try dsimp only at hSw); first | (go_simp; done) | (go_simp; with_reducible rfl)
      try simp only [Act.put, List.setIfInBounds_toArray, List.set_cons_zero, List.set_cons_succ]
      refine wpAnyH_take (i := 15) (oi := { dst := some 66, op := Op.move (Operand.tmp 1), type := 23, pos := "law.go:123", after := #[{ on := 11, ground := Ground.guard }], guard := some (11, true) }) (v := ?_) rfl (by kernel_rfl) (by kernel_rfl) (by kernel_rfl) (fun _ _ _ h => h) (Or.inl ⟨by rfl, ?_⟩) (by assumption) ?_
      rotate_left
      · intro w hSw; (try dsimp only at hSw); first | (go_simp; done) | (go_simp; with_reducible rfl)
      try simp only [Act.put, List.setIfInBounds_toArray, List.set_cons_zero, List.set_cons_succ]
      refine wpAnyH_ready (rs := [14]) (by kernel_rfl) (by simp) ?_
      refine (AllReadyH.cons (o := { dst := some 65, op := Op.call { callee := Callee.value (Operand.func 41), args := #[Operand.tmp 63, Operand.tmp 64], argTypes := #[27, 23] }, type := 27, pos := "law.go:123", after := #[{ on := 12, ground := Ground.data }, { on := 13, ground := Ground.data }, { on := 11, ground := Ground.chain }, { on := 11, ground := Ground.guard }], guard := some (11, true) }) rfl (fun K hK => ?_) AllReadyH.nil)
      go_simp
      go_at_call 41
      with_reducible refine (add_b hB (by repeat (first | exact List.mem_cons_self | refine List.mem_cons_of_mem _ ?_)) (by omega) v HV.out).mono ?_
      rintro e w21 ⟨A21, n21, c21, rfl, hB9⟩
      clear hB
      have hB := hB9
      clear hB9
      go_wp2_with fail
      clear hHeld
      refine hK.out _ _ ⟨hB.cell _ (List.mem_cons_of_mem _ List.mem_cons_self), hB.cell _ List.mem_cons_self⟩ (fun hHeld => ?_)
      clear hK K
      try simp only [Act.put, List.setIfInBounds_toArray, List.set_cons_zero, List.set_cons_succ]
      refine wpAnyH_ready (rs := [16]) (by kernel_rfl) (by simp) ?_
      refine (AllReadyH.cons (o := { dst := some 67, op := Op.call { callee := Callee.value (Operand.func 25), args := #[Operand.tmp 65, Operand.tmp 66], argTypes := #[27, 23] }, type := 4, pos := "law.go:123", after := #[{ on := 14, ground := Ground.data }, { on := 15, ground := Ground.data }, { on := 14, ground := Ground.chain }, { on := 11, ground := Ground.guard }], guard := some (11, true) }) rfl (fun K hK => ?_) AllReadyH.nil)
      go_simp
      go_at_call 25
      first | ((with_reducible refine (has_no hB (by repeat (first | exact List.mem_cons_self | refine List.mem_cons_of_mem _ ?_)) (by omega) v (by first | exact ap1 HOK.out HV.out | exact ap3 HOK.out HV.out)).mono ?_); rintro e w20 ⟨rfl, hB9⟩) | ((with_reducible refine (has_yes hB (by repeat (first | exact List.mem_cons_self | refine List.mem_cons_of_mem _ ?_)) (by omega) v (by exact ap2 HOK.out HV.out)).mono ?_); rintro e w20 ⟨rfl, hB9⟩)
      clear hB
      have hB := hB9
      clear hB9
      go_wp2_with fail
      clear hHeld
      refine hK.out _ _ ⟨hB.cell _ (List.mem_cons_of_mem _ List.mem_cons_self), hB.cell _ List.mem_cons_self⟩ (fun hHeld => ?_)
      clear hK K
      try simp only [Act.put, List.setIfInBounds_toArray, List.set_cons_zero, List.set_cons_succ]
      refine wpAnyH_take (i := 17) (oi := { dst := some 68, op := Op.pick (Operand.tmp 62) (Operand.tmp 67) (Operand.const (Value.bool false)), type := 4, pos := "law.go:123", after := #[{ on := 11, ground := Ground.data }, { on := 16, ground := Ground.data }], guard := none }) (v := ?_) rfl (by kernel_rfl) (by kernel_rfl) (by kernel_rfl) (fun _ _ _ h => h) (Or.inl ⟨by rfl, ?_⟩) (by assumption) ?_
      rotate_left
      · intro w hSw; (try dsimp only at hSw); first | (go_simp; done) | (go_simp; with_reducible rfl)
      try simp only [Act.put, List.setIfInBounds_toArray, List.set_cons_zero, List.set_cons_succ]
      refine wpAnyH_take (i := 18) (oi := { dst := some 69, op := Op.move (Operand.tmp 68), type := 4, pos := "law.go:123", after := #[{ on := 17, ground := Ground.data }, { on := 16, ground := Ground.chain }], guard := none }) (v := ?_) rfl (by kernel_rfl) (by kernel_rfl) (by kernel_rfl) (fun _ _ _ h => h) (Or.inl ⟨by rfl, ?_⟩) (by assumption) ?_
      rotate_left
      · intro w hSw; (try dsimp only at hSw); first | (go_simp; done) | (go_simp; with_reducible rfl)
      try simp only [Act.put, List.setIfInBounds_toArray, List.set_cons_zero, List.set_cons_succ]
      refine wpAnyH_take (i := 19) (oi := { dst := some 70, op := Op.load 27 (Operand.tmp 5), type := 27, pos := "law.go:123", after := #[{ on := 18, ground := Ground.guard }], guard := some (18, true) }) (v := ?_) rfl (by kernel_rfl) (by kernel_rfl) (by kernel_rfl) (fun _ _ _ h => h) (Or.inl ⟨by rfl, ?_⟩) (by assumption) ?_
      rotate_left
      · intro w hSw; (try dsimp only at hSw); first | (go_simp; done) | (go_simp; with_reducible rfl)
      try simp only [Act.put, List.setIfInBounds_toArray, List.set_cons_zero, List.set_cons_succ]
      refine wpAnyH_take (i := 20) (oi := { dst := some 71, op := Op.move (Operand.tmp 1), type := 23, pos := "law.go:123", after := #[{ on := 18, ground := Ground.guard }], guard := some (18, true) }) (v := ?_) rfl (by kernel_rfl) (by kernel_rfl) (by kernel_rfl) (fun _ _ _ h => h) (Or.inl ⟨by rfl, ?_⟩) (by assumption) ?_
      rotate_left
      · intro w hSw; (try dsimp only at hSw); first | (go_simp; done) | (go_simp; with_reducible rfl)
      try simp only [Act.put, List.setIfInBounds_toArray, List.set_cons_zero, List.set_cons_succ]
      refine wpAnyH_take (i := 24) (oi := { dst := some 75, op := Op.move (Operand.tmp 1), type := 23, pos := "law.go:123", after := #[{ on := 18, ground := Ground.guard }], guard := some (18, true) }) (v := ?_) rfl (by kernel_rfl) (by kernel_rfl) (by kernel_rfl) (fun _ _ _ h => h) (Or.inl ⟨by rfl, ?_⟩) (by assumption) ?_
      rotate_left
      · intro w hSw; (try dsimp only at hSw); first | (go_simp; done) | (go_simp; with_reducible rfl)
      try simp only [Act.put, List.setIfInBounds_toArray, List.set_cons_zero, List.set_cons_succ]
      refine wpAnyH_ready (rs := [21]) (by kernel_rfl) (by simp) ?_
      refine (AllReadyH.cons (o := { dst := some 72, op := Op.buildSlice 52 1 #[(0, Operand.tmp 71)], type := 52, pos := "law.go:123", after := #[{ on := 20, ground := Ground.data }, { on := 18, ground := Ground.guard }], guard := some (18, true) }) rfl (fun K hK => ?_) AllReadyH.nil)
      go_simp
      refine abs_K (Q := fun w' => Bun _ _ _ w w' ∧ OneNum v w20.heap.size w') ⟨hB.next (below_box _ _), oneNum_new w20 v⟩ ?_
      clear hB
      intro wa hN
      obtain ⟨hB, hN⟩ := hN
      go_wp2_with fail
      clear hHeld
      refine hK.out _ _ ⟨hB.cell _ (List.mem_cons_of_mem _ List.mem_cons_self), hB.cell _ List.mem_cons_self⟩ (fun hHeld => ?_)
      clear hK K
      try simp only [Act.put, List.setIfInBounds_toArray, List.set_cons_zero, List.set_cons_succ]
      refine wpAnyH_ready (rs := [22]) (by kernel_rfl) (by simp) ?_
      refine (AllReadyH.cons (o := { dst := some 73, op := Op.call { callee := Callee.value (Operand.func 35), args := #[Operand.tmp 72], argTypes := #[52] }, type := 27, pos := "law.go:123", after := #[{ on := 21, ground := Ground.data }, { on := 18, ground := Ground.chain }, { on := 18, ground := Ground.guard }], guard := some (18, true) }) rfl (fun K hK => ?_) AllReadyH.nil)
      go_simp
      go_at_call 35
      with_reducible refine (of_b hB v w20.heap.size HV.out hN).mono ?_
      rintro e w22 ⟨A22, n22, c22, rfl, hB9⟩
      clear hB hN
      have hB := hB9
      clear hB9
      go_wp2_with fail
      clear hHeld
      refine hK.out _ _ ⟨hB.cell _ (List.mem_cons_of_mem _ List.mem_cons_self), hB.cell _ List.mem_cons_self⟩ (fun hHeld => ?_)
      clear hK K
      try simp only [Act.put, List.setIfInBounds_toArray, List.set_cons_zero, List.set_cons_succ]
      refine wpAnyH_ready (rs := [23]) (by kernel_rfl) (by simp) ?_
      refine (AllReadyH.cons (o := { dst := some 74, op := Op.call { callee := Callee.value (Operand.func 32), args := #[Operand.tmp 70, Operand.tmp 73], argTypes := #[27, 27] }, type := 27, pos := "law.go:123", after := #[{ on := 19, ground := Ground.data }, { on := 22, ground := Ground.data }, { on := 22, ground := Ground.chain }, { on := 18, ground := Ground.guard }], guard := some (18, true) }) rfl (fun K hK => ?_) AllReadyH.nil)
      go_simp
      go_at_call 32
      with_reducible refine (less_b hB (by repeat (first | exact List.mem_cons_self | refine List.mem_cons_of_mem _ ?_)) (by repeat (first | exact List.mem_cons_self | refine List.mem_cons_of_mem _ ?_)) (by omega) (by omega)).mono ?_
      rintro e w23 ⟨A23, n23, c23, rfl, hB9⟩
      clear hB
      have hB := hB9
      clear hB9
      go_wp2_with fail
      clear hHeld
      refine hK.out _ _ ⟨hB.cell _ (List.mem_cons_of_mem _ List.mem_cons_self), hB.cell _ List.mem_cons_self⟩ (fun hHeld => ?_)
      clear hK K
      try simp only [Act.put, List.setIfInBounds_toArray, List.set_cons_zero, List.set_cons_succ]
      refine wpAnyH_ready (rs := [25]) (by kernel_rfl) (by simp) ?_
      refine (AllReadyH.cons (o := { dst := some 76, op := Op.call { callee := Callee.value (Operand.func 25), args := #[Operand.tmp 74, Operand.tmp 75], argTypes := #[27, 23] }, type := 4, pos := "law.go:123", after := #[{ on := 23, ground := Ground.data }, { on := 24, ground := Ground.data }, { on := 23, ground := Ground.chain }, { on := 18, ground := Ground.guard }], guard := some (18, true) }) rfl (fun K hK => ?_) AllReadyH.nil)
      go_simp
      go_at_call 25
      first | ((with_reducible refine (has_no hB (by repeat (first | exact List.mem_cons_self | refine List.mem_cons_of_mem _ ?_)) (by omega) v (by first | exact ap1 HOK.out HV.out | exact ap3 HOK.out HV.out)).mono ?_); rintro e w20 ⟨rfl, hB9⟩) | ((with_reducible refine (has_yes hB (by repeat (first | exact List.mem_cons_self | refine List.mem_cons_of_mem _ ?_)) (by omega) v (by exact ap2 HOK.out HV.out)).mono ?_); rintro e w20 ⟨rfl, hB9⟩)
      clear hB
      have hB := hB9
      clear hB9
      go_wp2_with fail
      clear hHeld
      refine hK.out _ _ ⟨hB.cell _ (List.mem_cons_of_mem _ List.mem_cons_self), hB.cell _ List.mem_cons_self⟩ (fun hHeld => ?_)
      clear hK K
      try simp only [Act.put, List.setIfInBounds_toArray, List.set_cons_zero, List.set_cons_succ]
      refine wpAnyH_take (i := 26) (oi := { dst := some 77, op := Op.unOp UnOp.not 4 (Operand.tmp 76), type := 4, pos := "law.go:123", after := #[{ on := 25, ground := Ground.data }, { on := 18, ground := Ground.guard }], guard := some (18, true) }) (v := ?_) rfl (by kernel_rfl) (by kernel_rfl) (by kernel_rfl) (fun _ _ _ h => h) (Or.inl ⟨by rfl, ?_⟩) (by assumption) ?_
      rotate_left
      · intro w hSw; (try dsimp only at hSw); first | (go_simp; done) | (go_simp; with_reducible rfl)
      try simp only [Act.put, List.setIfInBounds_toArray, List.set_cons_zero, List.set_cons_succ]
      refine wpAnyH_take (i := 27) (oi := { dst := some 78, op := Op.pick (Operand.tmp 69) (Operand.tmp 77) (Operand.const (Value.bool false)), type := 4, pos := "law.go:123", after := #[{ on := 18, ground := Ground.data }, { on := 26, ground := Ground.data }], guard := none }) (v := ?_) rfl (by kernel_rfl) (by kernel_rfl) (by kernel_rfl) (fun _ _ _ h => h) (Or.inl ⟨by rfl, ?_⟩) (by assumption) ?_
      rotate_left
      · intro w hSw; (try dsimp only at hSw); first | (go_simp; done) | (go_simp; with_reducible rfl)
      try simp only [Act.put, List.setIfInBounds_toArray, List.set_cons_zero, List.set_cons_succ]
      refine wpAnyH_take (i := 28) (oi := { dst := some 4, op := Op.assign (Operand.tmp 78), type := 4, pos := "law.go:123", after := #[{ on := 27, ground := Ground.data }, { on := 25, ground := Ground.chain }, { on := 0, ground := Ground.phase }, { on := 1, ground := Ground.phase }, { on := 2, ground := Ground.phase }, { on := 3, ground := Ground.phase }, { on := 4, ground := Ground.phase }, { on := 5, ground := Ground.phase }, { on := 6, ground := Ground.phase }, { on := 7, ground := Ground.phase }, { on := 8, ground := Ground.phase }, { on := 9, ground := Ground.phase }, { on := 10, ground := Ground.phase }, { on := 11, ground := Ground.phase }, { on := 12, ground := Ground.phase }, { on := 13, ground := Ground.phase }, { on := 14, ground := Ground.phase }, { on := 15, ground := Ground.phase }, { on := 16, ground := Ground.phase }, { on := 17, ground := Ground.phase }, { on := 18, ground := Ground.phase }, { on := 19, ground := Ground.phase }, { on := 20, ground := Ground.phase }, { on := 21, ground := Ground.phase }, { on := 22, ground := Ground.phase }, { on := 23, ground := Ground.phase }, { on := 24, ground := Ground.phase }, { on := 25, ground := Ground.phase }, { on := 26, ground := Ground.phase }, { on := 27, ground := Ground.phase }], guard := none }) (v := ?_) rfl (by kernel_rfl) (by kernel_rfl) (by kernel_rfl) (fun _ _ _ h => h) (Or.inl ⟨by rfl, ?_⟩) (by assumption) ?_
      rotate_left
      · intro w hSw; (try dsimp only at hSw); first | (go_simp; done) | (go_simp; with_reducible rfl)
      try simp only [Act.put, List.setIfInBounds_toArray, List.set_cons_zero, List.set_cons_succ]
      refine wpAnyH_done (by kernel_rfl) ?_ _
      refine NoPanic.normal ?_
      clear hHeld
      have HBB := Lib.hid hB.bel
      clear hB
      go_wp2
      go_ret
      exact ⟨rfl, HBB.out⟩
theorem runsApart_law (w : World) (A : Option Addr) (n c : Nat) (l : List Rn) (hs : Rs w w.heap.size A n c l) (v : Int) (hv : 0 ≤ v ∧ v ≤ 18446744073709551615) :
    Calls Try.prog 7 #[.slice A n c, .int .u64 v] w (Says w (.bool true)) := by
  obtain ⟨x, rfl⟩ := Int.eq_ofNat_of_zero_le hv.1
  exact runsApart_walk w A n c l hs x (by unfold two64; omega)
end Go.Proofs.Ytefoeebchjnfaaa
