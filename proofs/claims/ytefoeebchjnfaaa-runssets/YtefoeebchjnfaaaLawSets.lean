/-
  THE WALK of the law RunsSets: whatever the runs and the number, it returns true, and turns nothing that was there.
-/
import Derived.Test.YtefoeebchjnfaaaRunsTwo
import Derived.Deep.DeepCutAuto
import Derived.Deep.CutBlock
namespace Go.Proofs.Ytefoeebchjnfaaa
open Go.RowKit

theorem set_one (f t : Nat) : setL [(f, t)] = spanL [] f t := rfl
theorem sets1 {La Lb : List Rn} (ha : ∀ q ∈ La, q.1 < two64 ∧ q.2 < two64) (hb : ∀ q ∈ Lb, q.1 < two64 ∧ q.2 < two64) : unionL (setL La) (setL Lb) = setL (La ++ Lb) := by
  obtain ⟨h1, h2, _⟩ := set_spec La ha
  obtain ⟨k1, k2, _⟩ := set_spec Lb hb
  obtain ⟨m1, m2, _⟩ := set_spec (La ++ Lb) (fun q hq => (List.mem_append.1 hq).elim (ha q) (hb q))
  exact okl_ext (union_ok h1 k1) m1 fun x => by rw [union_mem h1 k1, h2, k2, m2, memR_app]
theorem sets2 {S : List Rn} (h : Okl S) {v : Nat} (hv : v < two64) : unionL (belowL S v) (fromL S v) = S :=
  okl_ext (union_ok (below_ok h hv) (from_ok h hv)) h fun x => by
    rw [union_mem (below_ok h hv) (from_ok h hv), below_mem h hv, from_mem h hv]
    constructor
    · rintro (h | h)
      · exact h.1
      · exact h.1
    · intro h
      rcases Nat.lt_or_ge x v with hx | hx
      · exact .inl ⟨h, hx⟩
      · exact .inr ⟨h, hx⟩
theorem sets3 {S T : List Rn} (hS : Okl S) (hT : Okl T) : unionL (lessL S T) T = unionL S T :=
  okl_ext (union_ok (less_ok hS hT) hT) (union_ok hS hT) fun x => by
    rw [union_mem (less_ok hS hT) hT, less_mem hS hT, union_mem hS hT]
    by_cases a : memR S x <;> by_cases b : memR T x <;> simp [a, b]
theorem from_pos (S : List Rn) {v u : Nat} (h : v = u + 1) : fromL S v = lessL S (spanL [] 0 u) := by
  unfold fromL
  rw [if_neg (by omega), h]
  rfl
theorem from_zero (S : List Rn) : fromL S 0 = S := rfl
/-- Behind the two cells. -/
def SetsCut (cs : List (Nat × Value)) (l r : List Sq) (w : World) (Ll Lh : List Rn) (m : Nat) (v1 v2 : Value) (wx : World) : Prop :=
  ∃ X1 X2 A1 n1 c1 A2 n2 c2, v1 = .pointer (some ⟨X1, 0, none⟩) ∧ v2 = .pointer (some ⟨X2, 0, none⟩) ∧ Bun ((X2, .slice A2 n2 c2) :: (X1, .slice A1 n1 c1) :: cs) (⟨A2, n2, c2, Lh, m⟩ :: ⟨A1, n1, c1, Ll, m⟩ :: l) r w wx
theorem Bun.takeR {cs : List (Nat × Value)} {l r : List Sq} {w0 w : World} (h : Bun cs l r w0 w) (k : Nat) : Bun cs l (r.take k) w0 w := ⟨h.cell, h.sets, fun q hq => h.rows q (List.mem_of_mem_take hq), h.bel⟩
theorem Bun.c4 {X1 X2 X3 X4 : Nat} {v1 v2 v3 v4 : Value} {l r : List Sq} {w0 w : World} (h : Bun [(X4, v4), (X3, v3), (X2, v2), (X1, v1)] l r w0 w) :
    w.cell? ⟨X1, 0, none⟩ = some v1 ∧ w.cell? ⟨X2, 0, none⟩ = some v2 ∧ w.cell? ⟨X3, 0, none⟩ = some v3 ∧ w.cell? ⟨X4, 0, none⟩ = some v4 :=
  ⟨h.cell _ (List.mem_cons_of_mem _ (List.mem_cons_of_mem _ (List.mem_cons_of_mem _ List.mem_cons_self))), h.cell _ (List.mem_cons_of_mem _ (List.mem_cons_of_mem _ List.mem_cons_self)), h.cell _ (List.mem_cons_of_mem _ List.mem_cons_self), h.cell _ List.mem_cons_self⟩
theorem drew_size (w : World) : w.drew.heap.size = w.heap.size := rfl
/-- A literal of one run. -/
theorem Bun.lit {cs : List (Nat × Value)} {l r : List Sq} {w0 w : World} (h : Bun cs l r w0 w) (f t : Nat) (hf : f < two64) (ht : t < two64) : Bun cs l (⟨some ⟨w.heap.size, 0, none⟩, 1, 1, [(f, t)], 1⟩ :: r) w0 (w.alloc (.cells #[.int .u64 (f : Int), .int .u64 (t : Int)] 49)) :=
  (h.next (below_box w _)).addR ⟨(lit_sn w 49 (rvs [(f, t)]) 1 2 rfl (by unfold maxLen; omega)).more (by simp), fun q hq => by rw [List.mem_singleton] at hq; subst hq; exact ⟨hf, ht⟩⟩ (Nat.le_refl _)
theorem Bun.litMax {cs : List (Nat × Value)} {l r : List Sq} {w0 w : World} (h : Bun cs l r w0 w) (v : Nat) (hv : v < two64) : Bun cs l (⟨some ⟨w.heap.size, 0, none⟩, 1, 1, [(v, 18446744073709551615)], 1⟩ :: r) w0 (w.alloc (.cells #[.int .u64 (v : Int), .int .u64 18446744073709551615] 49)) := h.lit v 18446744073709551615 hv (by unfold two64; omega)
theorem Bun.litZero {cs : List (Nat × Value)} {l r : List Sq} {w0 w : World} (h : Bun cs l r w0 w) (u : Nat) (hu : u < two64) : Bun cs l (⟨some ⟨w.heap.size, 0, none⟩, 1, 1, [(0, u)], 1⟩ :: r) w0 (w.alloc (.cells #[.int .u64 0, .int .u64 (u : Int)] 49)) := h.lit 0 u (by unfold two64; omega) hu
set_option maxRecDepth 100000 in
set_option maxHeartbeats 4000000 in
theorem runsSets_walk (w : World) (A : Option Addr) (n c : Nat) (l : List Rn) (hs : Rs w w.heap.size A n c l) (A' : Option Addr) (n' c' : Nat) (l' : List Rn) (hs' : Rs w w.heap.size A' n' c' l') (v : Nat) (hv : v < two64) :
    Calls Try.prog 4 #[.slice A n c, .slice A' n' c', .int .u64 (v : Int)] w (Says w (.bool true)) := by
  obtain ⟨i0, hi0, hz0, hz1, hz2⟩ := info_parts rrun_info
  have HV := Lib.hid hv
  have HB := Lib.hid (((Bun.start w).addR (m := n) hs (Nat.le_refl _)).addR (m := n') hs' (Nat.le_refl _))
  clear hs hs' hv
  go_enter Try.func4, Try.ntmps4
  go_wp2_with fail
  refine (awake_b HB.out).mono ?_
  rintro e w1 ⟨rfl, hb⟩
  have HB1 := Lib.hid hb
  clear hb HB
  go_wp2_with fail
  refine (few_b HB1.out (List.mem_cons_of_mem _ List.mem_cons_self)).mono ?_
  rintro e w1' ⟨rfl, rfl⟩
  have HB2 := Lib.hid (HB1.out.few (List.mem_cons_of_mem _ List.mem_cons_self))
  clear HB1
  go_wp2_with fail
  refine (few_b HB2.out (List.mem_cons_of_mem _ List.mem_cons_self)).mono ?_
  rintro e w1' ⟨rfl, rfl⟩
  have HB3 := Lib.hid (HB2.out.few (List.mem_cons_of_mem _ List.mem_cons_self))
  clear HB2
  have HLA := Lib.hid (HB3.out.lt (List.mem_cons_of_mem _ List.mem_cons_self))
  have HLB := Lib.hid (HB3.out.lt List.mem_cons_self)
  generalize l.take (min n 20) = La at *
  generalize l'.take (min n' 20) = Lb at *
  have hka : min n 20 ≤ 20 := by omega
  have hkb : min n' 20 ≤ 20 := by omega
  generalize min n 20 = ka at *
  generalize min n' 20 = kb at *
  have HS1 := Lib.hid (set_spec La HLA.out).1
  have HS2 := Lib.hid (set_spec Lb HLB.out).1
  go_wp2_with fail
  refine (set_b HB3.out (List.mem_cons_of_mem _ List.mem_cons_self) (by omega)).mono ?_
  rintro e w2 ⟨A2, n2, c2, rfl, hb⟩
  have HB4 := Lib.hid hb
  clear hb HB3
  go_wp2_with fail
  refine (set_b HB4.out List.mem_cons_self (by omega)).mono ?_
  rintro e w3 ⟨A3, n3, c3, rfl, hb⟩
  have hb5 := (hb.box (.slice A2 n2 c2) 27).box (.slice A3 n3 c3) 27
  rw [show (w3.alloc (.cells #[.slice A2 n2 c2] 27)).heap.size = w3.heap.size + 1 from by simp] at hb5
  have HB5 := Lib.hid hb5
  clear hb hb5 HB4
  go_wp2_with fail
  generalize (w3.alloc (.cells #[.slice A2 n2 c2] 27)).alloc (.cells #[.slice A3 n3 c3] 27) = w4 at *
  generalize w3.heap.size = X at *
  refine (own_b HB5.out (List.mem_cons_of_mem _ List.mem_cons_self) (by omega)).mono ?_
  rintro e w5 ⟨A5, n5, c5, rfl, hb⟩
  have HB6 := Lib.hid hb
  clear hb HB5
  go_wp2_with fail
  refine (own_b HB6.out (List.mem_cons_of_mem _ List.mem_cons_self) (by omega)).mono ?_
  rintro e w6 ⟨A6, n6, c6, rfl, hb⟩
  have HB7 := Lib.hid hb
  have hx5 := (hb.rows _ (List.mem_cons_of_mem _ List.mem_cons_self)).1
  have hx6 := (hb.rows _ List.mem_cons_self).1
  simp only at hx5 hx6
  have hn5 : n5 ≤ 20 := (hb.rows _ (List.mem_cons_of_mem _ List.mem_cons_self)).2
  have hn6 : n6 ≤ 20 := (hb.rows _ List.mem_cons_self).2
  have H5 := Lib.hid hx5
  have H6 := Lib.hid hx6
  clear hb HB6 hx5 hx6
  have HO0 : Hid (OwnP (w6.alloc (.cells #[] 49)) w6.heap.size (some ⟨w6.heap.size, 0, none⟩) 0 0 []) := ⟨rfl, .inr ⟨w6.heap.size, 0, _, rfl, Nat.le_refl _, heap_alloc_new w6 _, Nat.le_refl _, by unfold maxLen; omega, rfl, rfl⟩⟩
  go_wp2_with (at_builtin; first
    | (refine wpList_append_dstN _ rfl (.tmp 30) (.tmp 31) 29 29 rfl w6.heap.size 49 i0 _ 2 16 Try.underlying29 hi0 hz0 hz1 hz2 rfl A7 n5 c7 (rvs La) rfl (.inr HO7.out) _ n6 (rvs Lb) rfl ((H6.out.on HB67.out (Nat.le_refl _)).sn.src Try.underlying29 (rvs_one Lb)) (by omega) (by omega) HB67.out.size ?_; intro A8 c8 w8 h1 h2 h3 h4 h5 h6; have HO8 := Lib.hid (h3 HO7.out); have HB8 : Hid (Below w6.heap.size w6 w8) := HB67.out.trans h4; clear h1 h2 h3 h4 h5 h6)
    | (refine wpList_append_dstN _ rfl (.tmp 28) (.tmp 29) 29 29 rfl w6.heap.size 49 i0 _ 2 16 Try.underlying29 hi0 hz0 hz1 hz2 rfl _ 0 0 (rvs []) rfl (.inr HO0.out) _ n5 (rvs La) rfl ((H5.out.onA _).sn.src Try.underlying29 (rvs_one La)) (by omega) (by omega) (by simp) ?_; intro A7 c7 w7 h1 h2 h3 h4 h5 h6; have HO7 : Hid (OwnP w7 w6.heap.size A7 n5 c7 La) := (by have h := h3 HO0.out; rw [Nat.zero_add] at h; exact h); have HB67 : Hid (Below w6.heap.size w6 w7) := (below_box w6 _).trans (h4.mono (Nat.le_refl _)); clear h1 h2 h3 h4 h5 h6))
  have hr8 : Rs w8 w8.heap.size A8 (n5 + n6) c8 (La ++ Lb) := by
    have ho := HO8.out
    rw [← rvs_app] at ho
    exact Rs.of_own ho (fun q hq => (List.mem_append.1 hq).elim (HLA.out q) (HLB.out q))
  have HB9 := Lib.hid (((HB7.out.next HB8.out).addR (m := 40) hr8 (by omega)).takeR 3)
  clear hr8 HO8 HB8 HB7 HO7 HB67 HO0 H5 H6 hka hkb hn5 hn6
  replace HB9 : Hid (Bun [(X + 1, .slice A3 n3 c3), (X, .slice A2 n2 c2)] [⟨A3, n3, c3, setL Lb, 20⟩, ⟨A2, n2, c2, setL La, 20⟩] [⟨A8, n5 + n6, c8, La ++ Lb, 40⟩, ⟨A6, n6, c6, Lb, 20⟩, ⟨A5, n5, c5, La, 20⟩] w w8) := HB9.out
  go_cut [12, 13] (fun v1 v2 wx => SetsCut [(X + 1, .slice A3 n3 c3), (X, .slice A2 n2 c2)] [⟨A3, n3, c3, setL Lb, 20⟩, ⟨A2, n2, c2, setL La, 20⟩] [⟨A8, n5 + n6, c8, La ++ Lb, 40⟩, ⟨A6, n6, c6, Lb, 20⟩, ⟨A5, n5, c5, La, 20⟩] w (belowL (setL La) v) (fromL (setL La) v) 21 v1 v2 wx)
  case first =>
    have hc : w8.cell? ⟨X, 0, none⟩ = some (.slice A2 n2 c2) := HB9.out.cell _ (List.mem_cons_of_mem _ List.mem_cons_self)
    have hJ := J2.start w8
    refine wp_region_noPanic ?_
    refine wp_region_held_drew (S := (fun w' => w'.cell? ⟨X, 0, none⟩ = some (.slice A2 n2 c2))) (by kernel_rfl) hc (fun hHeld => ?_)
    refine wpAnyH_take (i := 0) (oi := { dst := some 33, op := Op.load 27 (Operand.tmp 7), type := 27, pos := "law.go:62", after := #[], guard := none }) (v := ?_) rfl (by kernel_rfl) (by kernel_rfl) (by kernel_rfl) (fun _ _ _ h => h) (Or.inl ⟨by rfl, ?_⟩) (by assumption) ?_
    rotate_left
    · intro w hSw; (try dsimp only at hSw); first | (go_simp; done) | (go_simp; with_reducible rfl)
    try simp only [Act.put, List.setIfInBounds_toArray, List.set_cons_zero, List.set_cons_succ]
    refine wpAnyH_take (i := 1) (oi := { dst := some 34, op := Op.move (Operand.tmp 2), type := 23, pos := "law.go:62", after := #[], guard := none }) (v := ?_) rfl (by kernel_rfl) (by kernel_rfl) (by kernel_rfl) (fun _ _ _ h => h) (Or.inl ⟨by rfl, ?_⟩) (by assumption) ?_
    rotate_left
    · intro w hSw; (try dsimp only at hSw); first | (go_simp; done) | (go_simp; with_reducible rfl)
    try simp only [Act.put, List.setIfInBounds_toArray, List.set_cons_zero, List.set_cons_succ]
    refine wpAnyH_take (i := 3) (oi := { dst := some 36, op := Op.load 27 (Operand.tmp 7), type := 27, pos := "law.go:62", after := #[], guard := none }) (v := ?_) rfl (by kernel_rfl) (by kernel_rfl) (by kernel_rfl) (fun _ _ _ h => h) (Or.inl ⟨by rfl, ?_⟩) (by assumption) ?_
    rotate_left
    · intro w hSw; (try dsimp only at hSw); first | (go_simp; done) | (go_simp; with_reducible rfl)
    try simp only [Act.put, List.setIfInBounds_toArray, List.set_cons_zero, List.set_cons_succ]
    refine wpAnyH_take (i := 4) (oi := { dst := some 37, op := Op.move (Operand.tmp 2), type := 23, pos := "law.go:62", after := #[], guard := none }) (v := ?_) rfl (by kernel_rfl) (by kernel_rfl) (by kernel_rfl) (fun _ _ _ h => h) (Or.inl ⟨by rfl, ?_⟩) (by assumption) ?_
    rotate_left
    · intro w hSw; (try dsimp only at hSw); first | (go_simp; done) | (go_simp; with_reducible rfl)
    try simp only [Act.put, List.setIfInBounds_toArray, List.set_cons_zero, List.set_cons_succ]
    refine wpAnyH_ready (rs := [2, 6, 7]) (by kernel_rfl) (by simp) ?_
    refine (AllReadyH.cons (o := { dst := some 35, op := Op.call { callee := Callee.value (Operand.func 29), args := #[Operand.tmp 33, Operand.tmp 34], argTypes := #[27, 23] }, type := 27, pos := "law.go:62", after := #[{ on := 0, ground := Ground.data }, { on := 1, ground := Ground.data }], guard := none }) rfl (fun K hK => ?_) (AllReadyH.cons (o := { dst := some 12, op := Op.alloc 27, type := 0, pos := "law.go:62", after := #[], guard := none }) rfl (fun K hK => ?_) (AllReadyH.cons (o := { dst := some 13, op := Op.alloc 27, type := 0, pos := "law.go:62", after := #[], guard := none }) rfl (fun K hK => ?_) AllReadyH.nil)))
    · go_simp
      go_at_call 29
      with_reducible refine (below_j HB9.out (List.mem_cons_of_mem _ List.mem_cons_self) hJ (by omega) v HV.out).mono ?_
      rintro e wb ⟨A9, n9, c9, rfl, hJ9⟩
      clear hJ
      have hJ := hJ9
      clear hJ9
      go_wp2_with fail
      clear hHeld
      refine hK.out _ _ (hJ.old hc) (fun hHeld => ?_)
      clear hK K
      try simp only [Act.put, List.setIfInBounds_toArray, List.set_cons_zero, List.set_cons_succ]
      refine wpAnyH_ready (rs := [5, 6, 7]) (by kernel_rfl) (by simp) ?_
      refine (AllReadyH.cons (o := { dst := some 38, op := Op.call { callee := Callee.value (Operand.func 30), args := #[Operand.tmp 36, Operand.tmp 37], argTypes := #[27, 23] }, type := 27, pos := "law.go:62", after := #[{ on := 3, ground := Ground.data }, { on := 4, ground := Ground.data }, { on := 2, ground := Ground.chain }], guard := none }) rfl (fun K hK => ?_) (AllReadyH.cons (o := { dst := some 12, op := Op.alloc 27, type := 0, pos := "law.go:62", after := #[], guard := none }) rfl (fun K hK => ?_) (AllReadyH.cons (o := { dst := some 13, op := Op.alloc 27, type := 0, pos := "law.go:62", after := #[], guard := none }) rfl (fun K hK => ?_) AllReadyH.nil)))
      · go_simp
        go_at_call 30
        with_reducible refine (from_j HB9.out (List.mem_cons_of_mem _ List.mem_cons_self) hJ (by omega) v HV.out).mono ?_
        rintro e wf ⟨A10, n10, c10, rfl, hJ9⟩
        clear hJ
        have hJ := hJ9
        clear hJ9
        go_wp2_with fail
        clear hHeld
        refine hK.out _ _ (hJ.old hc) (fun hHeld => ?_)
        clear hK K
        try simp only [Act.put, List.setIfInBounds_toArray, List.set_cons_zero, List.set_cons_succ]
        refine wpAnyH_ready (rs := [6, 7]) (by kernel_rfl) (by simp) ?_
        refine (AllReadyH.cons (o := { dst := some 12, op := Op.alloc 27, type := 0, pos := "law.go:62", after := #[], guard := none }) rfl (fun K hK => ?_) (AllReadyH.cons (o := { dst := some 13, op := Op.alloc 27, type := 0, pos := "law.go:62", after := #[], guard := none }) rfl (fun K hK => ?_) AllReadyH.nil))
        · go_simp
          refine abs_K (Q := J2 w8 _ _ _) hJ.alloc1 ?_
          clear hJ
          intro wa hJ
          go_wp2_with fail
          clear hHeld
          refine hK.out _ _ (hJ.old hc) (fun hHeld => ?_)
          clear hK K
          try simp only [Act.put, List.setIfInBounds_toArray, List.set_cons_zero, List.set_cons_succ]
          refine wpAnyH_ready (rs := [7]) (by kernel_rfl) (by simp) ?_
          refine (AllReadyH.cons (o := { dst := some 13, op := Op.alloc 27, type := 0, pos := "law.go:62", after := #[], guard := none }) rfl (fun K hK => ?_) AllReadyH.nil)
          go_simp
          refine abs_K (Q := J2 w8 _ _ _) hJ.alloc2 ?_
          clear hJ
          intro wa hJ
          go_wp2_with fail
          clear hHeld
          refine hK.out _ _ (hJ.old hc) (fun hHeld => ?_)
          clear hK K
          try simp only [Act.put, List.setIfInBounds_toArray, List.set_cons_zero, List.set_cons_succ]
          refine wpAnyH_ready (rs := [8]) (by kernel_rfl) (by simp) ?_
          refine (AllReadyH.cons (o := { dst := none, op := Op.store 27 (Operand.tmp 12) (Operand.tmp 35), type := 0, pos := "law.go:62", after := #[{ on := 6, ground := Ground.data }, { on := 2, ground := Ground.data }, { on := 5, ground := Ground.chain }, { on := 0, ground := Ground.phase }, { on := 1, ground := Ground.phase }, { on := 2, ground := Ground.phase }, { on := 3, ground := Ground.textOnly Departure.lateStores }, { on := 4, ground := Ground.textOnly Departure.lateStores }, { on := 5, ground := Ground.textOnly Departure.lateStoresUnsure }, { on := 6, ground := Ground.phase }, { on := 7, ground := Ground.phase }], guard := none }) rfl (fun K hK => ?_) AllReadyH.nil)
          have hcx := hJ.cell1
          have hfx := hJ.frz1
          try simp only [drew_size] at hcx hfx
          go_simp
          refine abs_K (Q := J2 w8 _ _ _) (hJ.store1 _) ?_
          clear hJ hcx hfx
          intro wa hJ
          go_wp2_with fail
          clear hHeld
          refine hK.out _ _ (hJ.old hc) (fun hHeld => ?_)
          clear hK K
          try simp only [Act.put, List.setIfInBounds_toArray, List.set_cons_zero, List.set_cons_succ]
          refine wpAnyH_ready (rs := [9]) (by kernel_rfl) (by simp) ?_
          refine (AllReadyH.cons (o := { dst := none, op := Op.store 27 (Operand.tmp 13) (Operand.tmp 38), type := 0, pos := "law.go:62", after := #[{ on := 7, ground := Ground.data }, { on := 5, ground := Ground.data }, { on := 8, ground := Ground.chain }, { on := 0, ground := Ground.phase }, { on := 1, ground := Ground.phase }, { on := 2, ground := Ground.phase }, { on := 3, ground := Ground.phase }, { on := 4, ground := Ground.phase }, { on := 5, ground := Ground.phase }, { on := 6, ground := Ground.phase }, { on := 7, ground := Ground.phase }, { on := 8, ground := Ground.phase }], guard := none }) rfl (fun K hK => ?_) AllReadyH.nil)
          have hcx := hJ.cell2
          have hfx := hJ.frz2
          try simp only [drew_size] at hcx hfx
          go_simp
          refine abs_K (Q := J2 w8 _ _ _) (hJ.store2 _) ?_
          clear hJ hcx hfx
          intro wa hJ
          go_wp2_with fail
          clear hHeld
          refine hK.out _ _ (hJ.old hc) (fun hHeld => ?_)
          clear hK K
          try simp only [Act.put, List.setIfInBounds_toArray, List.set_cons_zero, List.set_cons_succ]
          refine wpAnyH_done (by kernel_rfl) ?_ _
          refine NoPanic.normal ?_
          clear hHeld
          go_wp2_with fail
          go_meet
          exact ⟨_, _, _, _, _, _, _, _, rfl, rfl, hJ.bun HB9.out⟩
        · go_simp
          refine abs_K (Q := J2 w8 _ _ _) hJ.alloc2 ?_
          clear hJ
          intro wa hJ
          go_wp2_with fail
          clear hHeld
          refine hK.out _ _ (hJ.old hc) (fun hHeld => ?_)
          clear hK K
          try simp only [Act.put, List.setIfInBounds_toArray, List.set_cons_zero, List.set_cons_succ]
          refine wpAnyH_ready (rs := [6]) (by kernel_rfl) (by simp) ?_
          refine (AllReadyH.cons (o := { dst := some 12, op := Op.alloc 27, type := 0, pos := "law.go:62", after := #[], guard := none }) rfl (fun K hK => ?_) AllReadyH.nil)
          go_simp
          refine abs_K (Q := J2 w8 _ _ _) hJ.alloc1 ?_
          clear hJ
          intro wa hJ
          go_wp2_with fail
          clear hHeld
          refine hK.out _ _ (hJ.old hc) (fun hHeld => ?_)
          clear hK K
          try simp only [Act.put, List.setIfInBounds_toArray, List.set_cons_zero, List.set_cons_succ]
          refine wpAnyH_ready (rs := [8]) (by kernel_rfl) (by simp) ?_
          refine (AllReadyH.cons (o := { dst := none, op := Op.store 27 (Operand.tmp 12) (Operand.tmp 35), type := 0, pos := "law.go:62", after := #[{ on := 6, ground := Ground.data }, { on := 2, ground := Ground.data }, { on := 5, ground := Ground.chain }, { on := 0, ground := Ground.phase }, { on := 1, ground := Ground.phase }, { on := 2, ground := Ground.phase }, { on := 3, ground := Ground.textOnly Departure.lateStores }, { on := 4, ground := Ground.textOnly Departure.lateStores }, { on := 5, ground := Ground.textOnly Departure.lateStoresUnsure }, { on := 6, ground := Ground.phase }, { on := 7, ground := Ground.phase }], guard := none }) rfl (fun K hK => ?_) AllReadyH.nil)
          have hcx := hJ.cell1
          have hfx := hJ.frz1
          try simp only [drew_size] at hcx hfx
          go_simp
          refine abs_K (Q := J2 w8 _ _ _) (hJ.store1 _) ?_
          clear hJ hcx hfx
          intro wa hJ
          go_wp2_with fail
          clear hHeld
          refine hK.out _ _ (hJ.old hc) (fun hHeld => ?_)
          clear hK K
          try simp only [Act.put, List.setIfInBounds_toArray, List.set_cons_zero, List.set_cons_succ]
          refine wpAnyH_ready (rs := [9]) (by kernel_rfl) (by simp) ?_
          refine (AllReadyH.cons (o := { dst := none, op := Op.store 27 (Operand.tmp 13) (Operand.tmp 38), type := 0, pos := "law.go:62", after := #[{ on := 7, ground := Ground.data }, { on := 5, ground := Ground.data }, { on := 8, ground := Ground.chain }, { on := 0, ground := Ground.phase }, { on := 1, ground := Ground.phase }, { on := 2, ground := Ground.phase }, { on := 3, ground := Ground.phase }, { on := 4, ground := Ground.phase }, { on := 5, ground := Ground.phase }, { on := 6, ground := Ground.phase }, { on := 7, ground := Ground.phase }, { on := 8, ground := Ground.phase }], guard := none }) rfl (fun K hK => ?_) AllReadyH.nil)
          have hcx := hJ.cell2
          have hfx := hJ.frz2
          try simp only [drew_size] at hcx hfx
          go_simp
          refine abs_K (Q := J2 w8 _ _ _) (hJ.store2 _) ?_
          clear hJ hcx hfx
          intro wa hJ
          go_wp2_with fail
          clear hHeld
          refine hK.out _ _ (hJ.old hc) (fun hHeld => ?_)
          clear hK K
          try simp only [Act.put, List.setIfInBounds_toArray, List.set_cons_zero, List.set_cons_succ]
          refine wpAnyH_done (by kernel_rfl) ?_ _
          refine NoPanic.normal ?_
          clear hHeld
          go_wp2_with fail
          go_meet
          exact ⟨_, _, _, _, _, _, _, _, rfl, rfl, hJ.bun HB9.out⟩
      · go_simp
        refine abs_K (Q := J2 w8 _ _ _) hJ.alloc1 ?_
        clear hJ
        intro wa hJ
        go_wp2_with fail
        clear hHeld
        refine hK.out _ _ (hJ.old hc) (fun hHeld => ?_)
        clear hK K
        try simp only [Act.put, List.setIfInBounds_toArray, List.set_cons_zero, List.set_cons_succ]
        refine wpAnyH_ready (rs := [5, 7]) (by kernel_rfl) (by simp) ?_
        refine (AllReadyH.cons (o := { dst := some 38, op := Op.call { callee := Callee.value (Operand.func 30), args := #[Operand.tmp 36, Operand.tmp 37], argTypes := #[27, 23] }, type := 27, pos := "law.go:62", after := #[{ on := 3, ground := Ground.data }, { on := 4, ground := Ground.data }, { on := 2, ground := Ground.chain }], guard := none }) rfl (fun K hK => ?_) (AllReadyH.cons (o := { dst := some 13, op := Op.alloc 27, type := 0, pos := "law.go:62", after := #[], guard := none }) rfl (fun K hK => ?_) AllReadyH.nil))
        · go_simp
          go_at_call 30
          with_reducible refine (from_j HB9.out (List.mem_cons_of_mem _ List.mem_cons_self) hJ (by omega) v HV.out).mono ?_
          rintro e wf ⟨A10, n10, c10, rfl, hJ9⟩
          clear hJ
          have hJ := hJ9
          clear hJ9
          go_wp2_with fail
          clear hHeld
          refine hK.out _ _ (hJ.old hc) (fun hHeld => ?_)
          clear hK K
          try simp only [Act.put, List.setIfInBounds_toArray, List.set_cons_zero, List.set_cons_succ]
          refine wpAnyH_ready (rs := [7]) (by kernel_rfl) (by simp) ?_
          refine (AllReadyH.cons (o := { dst := some 13, op := Op.alloc 27, type := 0, pos := "law.go:62", after := #[], guard := none }) rfl (fun K hK => ?_) AllReadyH.nil)
          go_simp
          refine abs_K (Q := J2 w8 _ _ _) hJ.alloc2 ?_
          clear hJ
          intro wa hJ
          go_wp2_with fail
          clear hHeld
          refine hK.out _ _ (hJ.old hc) (fun hHeld => ?_)
          clear hK K
          try simp only [Act.put, List.setIfInBounds_toArray, List.set_cons_zero, List.set_cons_succ]
          refine wpAnyH_ready (rs := [8]) (by kernel_rfl) (by simp) ?_
          refine (AllReadyH.cons (o := { dst := none, op := Op.store 27 (Operand.tmp 12) (Operand.tmp 35), type := 0, pos := "law.go:62", after := #[{ on := 6, ground := Ground.data }, { on := 2, ground := Ground.data }, { on := 5, ground := Ground.chain }, { on := 0, ground := Ground.phase }, { on := 1, ground := Ground.phase }, { on := 2, ground := Ground.phase }, { on := 3, ground := Ground.textOnly Departure.lateStores }, { on := 4, ground := Ground.textOnly Departure.lateStores }, { on := 5, ground := Ground.textOnly Departure.lateStoresUnsure }, { on := 6, ground := Ground.phase }, { on := 7, ground := Ground.phase }], guard := none }) rfl (fun K hK => ?_) AllReadyH.nil)
          have hcx := hJ.cell1
          have hfx := hJ.frz1
          try simp only [drew_size] at hcx hfx
          go_simp
          refine abs_K (Q := J2 w8 _ _ _) (hJ.store1 _) ?_
          clear hJ hcx hfx
          intro wa hJ
          go_wp2_with fail
          clear hHeld
          refine hK.out _ _ (hJ.old hc) (fun hHeld => ?_)
          clear hK K
          try simp only [Act.put, List.setIfInBounds_toArray, List.set_cons_zero, List.set_cons_succ]
          refine wpAnyH_ready (rs := [9]) (by kernel_rfl) (by simp) ?_
          refine (AllReadyH.cons (o := { dst := none, op := Op.store 27 (Operand.tmp 13) (Operand.tmp 38), type := 0, pos := "law.go:62", after := #[{ on := 7, ground := Ground.data }, { on := 5, ground := Ground.data }, { on := 8, ground := Ground.chain }, { on := 0, ground := Ground.phase }, { on := 1, ground := Ground.phase }, { on := 2, ground := Ground.phase }, { on := 3, ground := Ground.phase }, { on := 4, ground := Ground.phase }, { on := 5, ground := Ground.phase }, { on := 6, ground := Ground.phase }, { on := 7, ground := Ground.phase }, { on := 8, ground := Ground.phase }], guard := none }) rfl (fun K hK => ?_) AllReadyH.nil)
          have hcx := hJ.cell2
          have hfx := hJ.frz2
          try simp only [drew_size] at hcx hfx
          go_simp
          refine abs_K (Q := J2 w8 _ _ _) (hJ.store2 _) ?_
          clear hJ hcx hfx
          intro wa hJ
          go_wp2_with fail
          clear hHeld
          refine hK.out _ _ (hJ.old hc) (fun hHeld => ?_)
          clear hK K
          try simp only [Act.put, List.setIfInBounds_toArray, List.set_cons_zero, List.set_cons_succ]
          refine wpAnyH_done (by kernel_rfl) ?_ _
          refine NoPanic.normal ?_
          clear hHeld
          go_wp2_with fail
          go_meet
          exact ⟨_, _, _, _, _, _, _, _, rfl, rfl, hJ.bun HB9.out⟩
        · go_simp
          refine abs_K (Q := J2 w8 _ _ _) hJ.alloc2 ?_
          clear hJ
          intro wa hJ
          go_wp2_with fail
          clear hHeld
          refine hK.out _ _ (hJ.old hc) (fun hHeld => ?_)
          clear hK K
          try simp only [Act.put, List.setIfInBounds_toArray, List.set_cons_zero, List.set_cons_succ]
          refine wpAnyH_ready (rs := [5]) (by kernel_rfl) (by simp) ?_
          refine (AllReadyH.cons (o := { dst := some 38, op := Op.call { callee := Callee.value (Operand.func 30), args := #[Operand.tmp 36, Operand.tmp 37], argTypes := #[27, 23] }, type := 27, pos := "law.go:62", after := #[{ on := 3, ground := Ground.data }, { on := 4, ground := Ground.data }, { on := 2, ground := Ground.chain }], guard := none }) rfl (fun K hK => ?_) AllReadyH.nil)
          go_simp
          go_at_call 30
          with_reducible refine (from_j HB9.out (List.mem_cons_of_mem _ List.mem_cons_self) hJ (by omega) v HV.out).mono ?_
          rintro e wf ⟨A10, n10, c10, rfl, hJ9⟩
          clear hJ
          have hJ := hJ9
          clear hJ9
          go_wp2_with fail
          clear hHeld
          refine hK.out _ _ (hJ.old hc) (fun hHeld => ?_)
          clear hK K
          try simp only [Act.put, List.setIfInBounds_toArray, List.set_cons_zero, List.set_cons_succ]
          refine wpAnyH_ready (rs := [8]) (by kernel_rfl) (by simp) ?_
          refine (AllReadyH.cons (o := { dst := none, op := Op.store 27 (Operand.tmp 12) (Operand.tmp 35), type := 0, pos := "law.go:62", after := #[{ on := 6, ground := Ground.data }, { on := 2, ground := Ground.data }, { on := 5, ground := Ground.chain }, { on := 0, ground := Ground.phase }, { on := 1, ground := Ground.phase }, { on := 2, ground := Ground.phase }, { on := 3, ground := Ground.textOnly Departure.lateStores }, { on := 4, ground := Ground.textOnly Departure.lateStores }, { on := 5, ground := Ground.textOnly Departure.lateStoresUnsure }, { on := 6, ground := Ground.phase }, { on := 7, ground := Ground.phase }], guard := none }) rfl (fun K hK => ?_) AllReadyH.nil)
          have hcx := hJ.cell1
          have hfx := hJ.frz1
          try simp only [drew_size] at hcx hfx
          go_simp
          refine abs_K (Q := J2 w8 _ _ _) (hJ.store1 _) ?_
          clear hJ hcx hfx
          intro wa hJ
          go_wp2_with fail
          clear hHeld
          refine hK.out _ _ (hJ.old hc) (fun hHeld => ?_)
          clear hK K
          try simp only [Act.put, List.setIfInBounds_toArray, List.set_cons_zero, List.set_cons_succ]
          refine wpAnyH_ready (rs := [9]) (by kernel_rfl) (by simp) ?_
          refine (AllReadyH.cons (o := { dst := none, op := Op.store 27 (Operand.tmp 13) (Operand.tmp 38), type := 0, pos := "law.go:62", after := #[{ on := 7, ground := Ground.data }, { on := 5, ground := Ground.data }, { on := 8, ground := Ground.chain }, { on := 0, ground := Ground.phase }, { on := 1, ground := Ground.phase }, { on := 2, ground := Ground.phase }, { on := 3, ground := Ground.phase }, { on := 4, ground := Ground.phase }, { on := 5, ground := Ground.phase }, { on := 6, ground := Ground.phase }, { on := 7, ground := Ground.phase }, { on := 8, ground := Ground.phase }], guard := none }) rfl (fun K hK => ?_) AllReadyH.nil)
          have hcx := hJ.cell2
          have hfx := hJ.frz2
          try simp only [drew_size] at hcx hfx
          go_simp
          refine abs_K (Q := J2 w8 _ _ _) (hJ.store2 _) ?_
          clear hJ hcx hfx
          intro wa hJ
          go_wp2_with fail
          clear hHeld
          refine hK.out _ _ (hJ.old hc) (fun hHeld => ?_)
          clear hK K
          try simp only [Act.put, List.setIfInBounds_toArray, List.set_cons_zero, List.set_cons_succ]
          refine wpAnyH_done (by kernel_rfl) ?_ _
          refine NoPanic.normal ?_
          clear hHeld
          go_wp2_with fail
          go_meet
          exact ⟨_, _, _, _, _, _, _, _, rfl, rfl, hJ.bun HB9.out⟩
      · go_simp
        refine abs_K (Q := J2 w8 _ _ _) hJ.alloc2 ?_
        clear hJ
        intro wa hJ
        go_wp2_with fail
        clear hHeld
        refine hK.out _ _ (hJ.old hc) (fun hHeld => ?_)
        clear hK K
        try simp only [Act.put, List.setIfInBounds_toArray, List.set_cons_zero, List.set_cons_succ]
        refine wpAnyH_ready (rs := [5, 6]) (by kernel_rfl) (by simp) ?_
        refine (AllReadyH.cons (o := { dst := some 38, op := Op.call { callee := Callee.value (Operand.func 30), args := #[Operand.tmp 36, Operand.tmp 37], argTypes := #[27, 23] }, type := 27, pos := "law.go:62", after := #[{ on := 3, ground := Ground.data }, { on := 4, ground := Ground.data }, { on := 2, ground := Ground.chain }], guard := none }) rfl (fun K hK => ?_) (AllReadyH.cons (o := { dst := some 12, op := Op.alloc 27, type := 0, pos := "law.go:62", after := #[], guard := none }) rfl (fun K hK => ?_) AllReadyH.nil))
        · go_simp
          go_at_call 30
          with_reducible refine (from_j HB9.out (List.mem_cons_of_mem _ List.mem_cons_self) hJ (by omega) v HV.out).mono ?_
          rintro e wf ⟨A10, n10, c10, rfl, hJ9⟩
          clear hJ
          have hJ := hJ9
          clear hJ9
          go_wp2_with fail
          clear hHeld
          refine hK.out _ _ (hJ.old hc) (fun hHeld => ?_)
          clear hK K
          try simp only [Act.put, List.setIfInBounds_toArray, List.set_cons_zero, List.set_cons_succ]
          refine wpAnyH_ready (rs := [6]) (by kernel_rfl) (by simp) ?_
          refine (AllReadyH.cons (o := { dst := some 12, op := Op.alloc 27, type := 0, pos := "law.go:62", after := #[], guard := none }) rfl (fun K hK => ?_) AllReadyH.nil)
          go_simp
          refine abs_K (Q := J2 w8 _ _ _) hJ.alloc1 ?_
          clear hJ
          intro wa hJ
          go_wp2_with fail
          clear hHeld
          refine hK.out _ _ (hJ.old hc) (fun hHeld => ?_)
          clear hK K
          try simp only [Act.put, List.setIfInBounds_toArray, List.set_cons_zero, List.set_cons_succ]
          refine wpAnyH_ready (rs := [8]) (by kernel_rfl) (by simp) ?_
          refine (AllReadyH.cons (o := { dst := none, op := Op.store 27 (Operand.tmp 12) (Operand.tmp 35), type := 0, pos := "law.go:62", after := #[{ on := 6, ground := Ground.data }, { on := 2, ground := Ground.data }, { on := 5, ground := Ground.chain }, { on := 0, ground := Ground.phase }, { on := 1, ground := Ground.phase }, { on := 2, ground := Ground.phase }, { on := 3, ground := Ground.textOnly Departure.lateStores }, { on := 4, ground := Ground.textOnly Departure.lateStores }, { on := 5, ground := Ground.textOnly Departure.lateStoresUnsure }, { on := 6, ground := Ground.phase }, { on := 7, ground := Ground.phase }], guard := none }) rfl (fun K hK => ?_) AllReadyH.nil)
          have hcx := hJ.cell1
          have hfx := hJ.frz1
          try simp only [drew_size] at hcx hfx
          go_simp
          refine abs_K (Q := J2 w8 _ _ _) (hJ.store1 _) ?_
          clear hJ hcx hfx
          intro wa hJ
          go_wp2_with fail
          clear hHeld
          refine hK.out _ _ (hJ.old hc) (fun hHeld => ?_)
          clear hK K
          try simp only [Act.put, List.setIfInBounds_toArray, List.set_cons_zero, List.set_cons_succ]
          refine wpAnyH_ready (rs := [9]) (by kernel_rfl) (by simp) ?_
          refine (AllReadyH.cons (o := { dst := none, op := Op.store 27 (Operand.tmp 13) (Operand.tmp 38), type := 0, pos := "law.go:62", after := #[{ on := 7, ground := Ground.data }, { on := 5, ground := Ground.data }, { on := 8, ground := Ground.chain }, { on := 0, ground := Ground.phase }, { on := 1, ground := Ground.phase }, { on := 2, ground := Ground.phase }, { on := 3, ground := Ground.phase }, { on := 4, ground := Ground.phase }, { on := 5, ground := Ground.phase }, { on := 6, ground := Ground.phase }, { on := 7, ground := Ground.phase }, { on := 8, ground := Ground.phase }], guard := none }) rfl (fun K hK => ?_) AllReadyH.nil)
          have hcx := hJ.cell2
          have hfx := hJ.frz2
          try simp only [drew_size] at hcx hfx
          go_simp
          refine abs_K (Q := J2 w8 _ _ _) (hJ.store2 _) ?_
          clear hJ hcx hfx
          intro wa hJ
          go_wp2_with fail
          clear hHeld
          refine hK.out _ _ (hJ.old hc) (fun hHeld => ?_)
          clear hK K
          try simp only [Act.put, List.setIfInBounds_toArray, List.set_cons_zero, List.set_cons_succ]
          refine wpAnyH_done (by kernel_rfl) ?_ _
          refine NoPanic.normal ?_
          clear hHeld
          go_wp2_with fail
          go_meet
          exact ⟨_, _, _, _, _, _, _, _, rfl, rfl, hJ.bun HB9.out⟩
        · go_simp
          refine abs_K (Q := J2 w8 _ _ _) hJ.alloc1 ?_
          clear hJ
          intro wa hJ
          go_wp2_with fail
          clear hHeld
          refine hK.out _ _ (hJ.old hc) (fun hHeld => ?_)
          clear hK K
          try simp only [Act.put, List.setIfInBounds_toArray, List.set_cons_zero, List.set_cons_succ]
          refine wpAnyH_ready (rs := [5]) (by kernel_rfl) (by simp) ?_
          refine (AllReadyH.cons (o := { dst := some 38, op := Op.call { callee := Callee.value (Operand.func 30), args := #[Operand.tmp 36, Operand.tmp 37], argTypes := #[27, 23] }, type := 27, pos := "law.go:62", after := #[{ on := 3, ground := Ground.data }, { on := 4, ground := Ground.data }, { on := 2, ground := Ground.chain }], guard := none }) rfl (fun K hK => ?_) AllReadyH.nil)
          go_simp
          go_at_call 30
          with_reducible refine (from_j HB9.out (List.mem_cons_of_mem _ List.mem_cons_self) hJ (by omega) v HV.out).mono ?_
          rintro e wf ⟨A10, n10, c10, rfl, hJ9⟩
          clear hJ
          have hJ := hJ9
          clear hJ9
          go_wp2_with fail
          clear hHeld
          refine hK.out _ _ (hJ.old hc) (fun hHeld => ?_)
          clear hK K
          try simp only [Act.put, List.setIfInBounds_toArray, List.set_cons_zero, List.set_cons_succ]
          refine wpAnyH_ready (rs := [8]) (by kernel_rfl) (by simp) ?_
          refine (AllReadyH.cons (o := { dst := none, op := Op.store 27 (Operand.tmp 12) (Operand.tmp 35), type := 0, pos := "law.go:62", after := #[{ on := 6, ground := Ground.data }, { on := 2, ground := Ground.data }, { on := 5, ground := Ground.chain }, { on := 0, ground := Ground.phase }, { on := 1, ground := Ground.phase }, { on := 2, ground := Ground.phase }, { on := 3, ground := Ground.textOnly Departure.lateStores }, { on := 4, ground := Ground.textOnly Departure.lateStores }, { on := 5, ground := Ground.textOnly Departure.lateStoresUnsure }, { on := 6, ground := Ground.phase }, { on := 7, ground := Ground.phase }], guard := none }) rfl (fun K hK => ?_) AllReadyH.nil)
          have hcx := hJ.cell1
          have hfx := hJ.frz1
          try simp only [drew_size] at hcx hfx
          go_simp
          refine abs_K (Q := J2 w8 _ _ _) (hJ.store1 _) ?_
          clear hJ hcx hfx
          intro wa hJ
          go_wp2_with fail
          clear hHeld
          refine hK.out _ _ (hJ.old hc) (fun hHeld => ?_)
          clear hK K
          try simp only [Act.put, List.setIfInBounds_toArray, List.set_cons_zero, List.set_cons_succ]
          refine wpAnyH_ready (rs := [9]) (by kernel_rfl) (by simp) ?_
          refine (AllReadyH.cons (o := { dst := none, op := Op.store 27 (Operand.tmp 13) (Operand.tmp 38), type := 0, pos := "law.go:62", after := #[{ on := 7, ground := Ground.data }, { on := 5, ground := Ground.data }, { on := 8, ground := Ground.chain }, { on := 0, ground := Ground.phase }, { on := 1, ground := Ground.phase }, { on := 2, ground := Ground.phase }, { on := 3, ground := Ground.phase }, { on := 4, ground := Ground.phase }, { on := 5, ground := Ground.phase }, { on := 6, ground := Ground.phase }, { on := 7, ground := Ground.phase }, { on := 8, ground := Ground.phase }], guard := none }) rfl (fun K hK => ?_) AllReadyH.nil)
          have hcx := hJ.cell2
          have hfx := hJ.frz2
          try simp only [drew_size] at hcx hfx
          go_simp
          refine abs_K (Q := J2 w8 _ _ _) (hJ.store2 _) ?_
          clear hJ hcx hfx
          intro wa hJ
          go_wp2_with fail
          clear hHeld
          refine hK.out _ _ (hJ.old hc) (fun hHeld => ?_)
          clear hK K
          try simp only [Act.put, List.setIfInBounds_toArray, List.set_cons_zero, List.set_cons_succ]
          refine wpAnyH_done (by kernel_rfl) ?_ _
          refine NoPanic.normal ?_
          clear hHeld
          go_wp2_with fail
          go_meet
          exact ⟨_, _, _, _, _, _, _, _, rfl, rfl, hJ.bun HB9.out⟩
    · go_simp
      refine abs_K (Q := J2 w8 _ _ _) hJ.alloc1 ?_
      clear hJ
      intro wa hJ
      go_wp2_with fail
      clear hHeld
      refine hK.out _ _ (hJ.old hc) (fun hHeld => ?_)
      clear hK K
      try simp only [Act.put, List.setIfInBounds_toArray, List.set_cons_zero, List.set_cons_succ]
      refine wpAnyH_ready (rs := [2, 7]) (by kernel_rfl) (by simp) ?_
      refine (AllReadyH.cons (o := { dst := some 35, op := Op.call { callee := Callee.value (Operand.func 29), args := #[Operand.tmp 33, Operand.tmp 34], argTypes := #[27, 23] }, type := 27, pos := "law.go:62", after := #[{ on := 0, ground := Ground.data }, { on := 1, ground := Ground.data }], guard := none }) rfl (fun K hK => ?_) (AllReadyH.cons (o := { dst := some 13, op := Op.alloc 27, type := 0, pos := "law.go:62", after := #[], guard := none }) rfl (fun K hK => ?_) AllReadyH.nil))
      · go_simp
        go_at_call 29
        with_reducible refine (below_j HB9.out (List.mem_cons_of_mem _ List.mem_cons_self) hJ (by omega) v HV.out).mono ?_
        rintro e wb ⟨A9, n9, c9, rfl, hJ9⟩
        clear hJ
        have hJ := hJ9
        clear hJ9
        go_wp2_with fail
        clear hHeld
        refine hK.out _ _ (hJ.old hc) (fun hHeld => ?_)
        clear hK K
        try simp only [Act.put, List.setIfInBounds_toArray, List.set_cons_zero, List.set_cons_succ]
        refine wpAnyH_ready (rs := [5, 7]) (by kernel_rfl) (by simp) ?_
        refine (AllReadyH.cons (o := { dst := some 38, op := Op.call { callee := Callee.value (Operand.func 30), args := #[Operand.tmp 36, Operand.tmp 37], argTypes := #[27, 23] }, type := 27, pos := "law.go:62", after := #[{ on := 3, ground := Ground.data }, { on := 4, ground := Ground.data }, { on := 2, ground := Ground.chain }], guard := none }) rfl (fun K hK => ?_) (AllReadyH.cons (o := { dst := some 13, op := Op.alloc 27, type := 0, pos := "law.go:62", after := #[], guard := none }) rfl (fun K hK => ?_) AllReadyH.nil))
        · go_simp
          go_at_call 30
          with_reducible refine (from_j HB9.out (List.mem_cons_of_mem _ List.mem_cons_self) hJ (by omega) v HV.out).mono ?_
          rintro e wf ⟨A10, n10, c10, rfl, hJ9⟩
          clear hJ
          have hJ := hJ9
          clear hJ9
          go_wp2_with fail
          clear hHeld
          refine hK.out _ _ (hJ.old hc) (fun hHeld => ?_)
          clear hK K
          try simp only [Act.put, List.setIfInBounds_toArray, List.set_cons_zero, List.set_cons_succ]
          refine wpAnyH_ready (rs := [7]) (by kernel_rfl) (by simp) ?_
          refine (AllReadyH.cons (o := { dst := some 13, op := Op.alloc 27, type := 0, pos := "law.go:62", after := #[], guard := none }) rfl (fun K hK => ?_) AllReadyH.nil)
          go_simp
          refine abs_K (Q := J2 w8 _ _ _) hJ.alloc2 ?_
          clear hJ
          intro wa hJ
          go_wp2_with fail
          clear hHeld
          refine hK.out _ _ (hJ.old hc) (fun hHeld => ?_)
          clear hK K
          try simp only [Act.put, List.setIfInBounds_toArray, List.set_cons_zero, List.set_cons_succ]
          refine wpAnyH_ready (rs := [8]) (by kernel_rfl) (by simp) ?_
          refine (AllReadyH.cons (o := { dst := none, op := Op.store 27 (Operand.tmp 12) (Operand.tmp 35), type := 0, pos := "law.go:62", after := #[{ on := 6, ground := Ground.data }, { on := 2, ground := Ground.data }, { on := 5, ground := Ground.chain }, { on := 0, ground := Ground.phase }, { on := 1, ground := Ground.phase }, { on := 2, ground := Ground.phase }, { on := 3, ground := Ground.textOnly Departure.lateStores }, { on := 4, ground := Ground.textOnly Departure.lateStores }, { on := 5, ground := Ground.textOnly Departure.lateStoresUnsure }, { on := 6, ground := Ground.phase }, { on := 7, ground := Ground.phase }], guard := none }) rfl (fun K hK => ?_) AllReadyH.nil)
          have hcx := hJ.cell1
          have hfx := hJ.frz1
          try simp only [drew_size] at hcx hfx
          go_simp
          refine abs_K (Q := J2 w8 _ _ _) (hJ.store1 _) ?_
          clear hJ hcx hfx
          intro wa hJ
          go_wp2_with fail
          clear hHeld
          refine hK.out _ _ (hJ.old hc) (fun hHeld => ?_)
          clear hK K
          try simp only [Act.put, List.setIfInBounds_toArray, List.set_cons_zero, List.set_cons_succ]
          refine wpAnyH_ready (rs := [9]) (by kernel_rfl) (by simp) ?_
          refine (AllReadyH.cons (o := { dst := none, op := Op.store 27 (Operand.tmp 13) (Operand.tmp 38), type := 0, pos := "law.go:62", after := #[{ on := 7, ground := Ground.data }, { on := 5, ground := Ground.data }, { on := 8, ground := Ground.chain }, { on := 0, ground := Ground.phase }, { on := 1, ground := Ground.phase }, { on := 2, ground := Ground.phase }, { on := 3, ground := Ground.phase }, { on := 4, ground := Ground.phase }, { on := 5, ground := Ground.phase }, { on := 6, ground := Ground.phase }, { on := 7, ground := Ground.phase }, { on := 8, ground := Ground.phase }], guard := none }) rfl (fun K hK => ?_) AllReadyH.nil)
          have hcx := hJ.cell2
          have hfx := hJ.frz2
          try simp only [drew_size] at hcx hfx
          go_simp
          refine abs_K (Q := J2 w8 _ _ _) (hJ.store2 _) ?_
          clear hJ hcx hfx
          intro wa hJ
          go_wp2_with fail
          clear hHeld
          refine hK.out _ _ (hJ.old hc) (fun hHeld => ?_)
          clear hK K
          try simp only [Act.put, List.setIfInBounds_toArray, List.set_cons_zero, List.set_cons_succ]
          refine wpAnyH_done (by kernel_rfl) ?_ _
          refine NoPanic.normal ?_
          clear hHeld
          go_wp2_with fail
          go_meet
          exact ⟨_, _, _, _, _, _, _, _, rfl, rfl, hJ.bun HB9.out⟩
        · go_simp
          refine abs_K (Q := J2 w8 _ _ _) hJ.alloc2 ?_
          clear hJ
          intro wa hJ
          go_wp2_with fail
          clear hHeld
          refine hK.out _ _ (hJ.old hc) (fun hHeld => ?_)
          clear hK K
          try simp only [Act.put, List.setIfInBounds_toArray, List.set_cons_zero, List.set_cons_succ]
          refine wpAnyH_ready (rs := [5]) (by kernel_rfl) (by simp) ?_
          refine (AllReadyH.cons (o := { dst := some 38, op := Op.call { callee := Callee.value (Operand.func 30), args := #[Operand.tmp 36, Operand.tmp 37], argTypes := #[27, 23] }, type := 27, pos := "law.go:62", after := #[{ on := 3, ground := Ground.data }, { on := 4, ground := Ground.data }, { on := 2, ground := Ground.chain }], guard := none }) rfl (fun K hK => ?_) AllReadyH.nil)
          go_simp
          go_at_call 30
          with_reducible refine (from_j HB9.out (List.mem_cons_of_mem _ List.mem_cons_self) hJ (by omega) v HV.out).mono ?_
          rintro e wf ⟨A10, n10, c10, rfl, hJ9⟩
          clear hJ
          have hJ := hJ9
          clear hJ9
          go_wp2_with fail
          clear hHeld
          refine hK.out _ _ (hJ.old hc) (fun hHeld => ?_)
          clear hK K
          try simp only [Act.put, List.setIfInBounds_toArray, List.set_cons_zero, List.set_cons_succ]
          refine wpAnyH_ready (rs := [8]) (by kernel_rfl) (by simp) ?_
          refine (AllReadyH.cons (o := { dst := none, op := Op.store 27 (Operand.tmp 12) (Operand.tmp 35), type := 0, pos := "law.go:62", after := #[{ on := 6, ground := Ground.data }, { on := 2, ground := Ground.data }, { on := 5, ground := Ground.chain }, { on := 0, ground := Ground.phase }, { on := 1, ground := Ground.phase }, { on := 2, ground := Ground.phase }, { on := 3, ground := Ground.textOnly Departure.lateStores }, { on := 4, ground := Ground.textOnly Departure.lateStores }, { on := 5, ground := Ground.textOnly Departure.lateStoresUnsure }, { on := 6, ground := Ground.phase }, { on := 7, ground := Ground.phase }], guard := none }) rfl (fun K hK => ?_) AllReadyH.nil)
          have hcx := hJ.cell1
          have hfx := hJ.frz1
          try simp only [drew_size] at hcx hfx
          go_simp
          refine abs_K (Q := J2 w8 _ _ _) (hJ.store1 _) ?_
          clear hJ hcx hfx
          intro wa hJ
          go_wp2_with fail
          clear hHeld
          refine hK.out _ _ (hJ.old hc) (fun hHeld => ?_)
          clear hK K
          try simp only [Act.put, List.setIfInBounds_toArray, List.set_cons_zero, List.set_cons_succ]
          refine wpAnyH_ready (rs := [9]) (by kernel_rfl) (by simp) ?_
          refine (AllReadyH.cons (o := { dst := none, op := Op.store 27 (Operand.tmp 13) (Operand.tmp 38), type := 0, pos := "law.go:62", after := #[{ on := 7, ground := Ground.data }, { on := 5, ground := Ground.data }, { on := 8, ground := Ground.chain }, { on := 0, ground := Ground.phase }, { on := 1, ground := Ground.phase }, { on := 2, ground := Ground.phase }, { on := 3, ground := Ground.phase }, { on := 4, ground := Ground.phase }, { on := 5, ground := Ground.phase }, { on := 6, ground := Ground.phase }, { on := 7, ground := Ground.phase }, { on := 8, ground := Ground.phase }], guard := none }) rfl (fun K hK => ?_) AllReadyH.nil)
          have hcx := hJ.cell2
          have hfx := hJ.frz2
          try simp only [drew_size] at hcx hfx
          go_simp
          refine abs_K (Q := J2 w8 _ _ _) (hJ.store2 _) ?_
          clear hJ hcx hfx
          intro wa hJ
          go_wp2_with fail
          clear hHeld
          refine hK.out _ _ (hJ.old hc) (fun hHeld => ?_)
          clear hK K
          try simp only [Act.put, List.setIfInBounds_toArray, List.set_cons_zero, List.set_cons_succ]
          refine wpAnyH_done (by kernel_rfl) ?_ _
          refine NoPanic.normal ?_
          clear hHeld
          go_wp2_with fail
          go_meet
          exact ⟨_, _, _, _, _, _, _, _, rfl, rfl, hJ.bun HB9.out⟩
      · go_simp
        refine abs_K (Q := J2 w8 _ _ _) hJ.alloc2 ?_
        clear hJ
        intro wa hJ
        go_wp2_with fail
        clear hHeld
        refine hK.out _ _ (hJ.old hc) (fun hHeld => ?_)
        clear hK K
        try simp only [Act.put, List.setIfInBounds_toArray, List.set_cons_zero, List.set_cons_succ]
        refine wpAnyH_ready (rs := [2]) (by kernel_rfl) (by simp) ?_
        refine (AllReadyH.cons (o := { dst := some 35, op := Op.call { callee := Callee.value (Operand.func 29), args := #[Operand.tmp 33, Operand.tmp 34], argTypes := #[27, 23] }, type := 27, pos := "law.go:62", after := #[{ on := 0, ground := Ground.data }, { on := 1, ground := Ground.data }], guard := none }) rfl (fun K hK => ?_) AllReadyH.nil)
        go_simp
        go_at_call 29
        with_reducible refine (below_j HB9.out (List.mem_cons_of_mem _ List.mem_cons_self) hJ (by omega) v HV.out).mono ?_
        rintro e wb ⟨A9, n9, c9, rfl, hJ9⟩
        clear hJ
        have hJ := hJ9
        clear hJ9
        go_wp2_with fail
        clear hHeld
        refine hK.out _ _ (hJ.old hc) (fun hHeld => ?_)
        clear hK K
        try simp only [Act.put, List.setIfInBounds_toArray, List.set_cons_zero, List.set_cons_succ]
        refine wpAnyH_ready (rs := [5]) (by kernel_rfl) (by simp) ?_
        refine (AllReadyH.cons (o := { dst := some 38, op := Op.call { callee := Callee.value (Operand.func 30), args := #[Operand.tmp 36, Operand.tmp 37], argTypes := #[27, 23] }, type := 27, pos := "law.go:62", after := #[{ on := 3, ground := Ground.data }, { on := 4, ground := Ground.data }, { on := 2, ground := Ground.chain }], guard := none }) rfl (fun K hK => ?_) AllReadyH.nil)
        go_simp
        go_at_call 30
        with_reducible refine (from_j HB9.out (List.mem_cons_of_mem _ List.mem_cons_self) hJ (by omega) v HV.out).mono ?_
        rintro e wf ⟨A10, n10, c10, rfl, hJ9⟩
        clear hJ
        have hJ := hJ9
        clear hJ9
        go_wp2_with fail
        clear hHeld
        refine hK.out _ _ (hJ.old hc) (fun hHeld => ?_)
        clear hK K
        try simp only [Act.put, List.setIfInBounds_toArray, List.set_cons_zero, List.set_cons_succ]
        refine wpAnyH_ready (rs := [8]) (by kernel_rfl) (by simp) ?_
        refine (AllReadyH.cons (o := { dst := none, op := Op.store 27 (Operand.tmp 12) (Operand.tmp 35), type := 0, pos := "law.go:62", after := #[{ on := 6, ground := Ground.data }, { on := 2, ground := Ground.data }, { on := 5, ground := Ground.chain }, { on := 0, ground := Ground.phase }, { on := 1, ground := Ground.phase }, { on := 2, ground := Ground.phase }, { on := 3, ground := Ground.textOnly Departure.lateStores }, { on := 4, ground := Ground.textOnly Departure.lateStores }, { on := 5, ground := Ground.textOnly Departure.lateStoresUnsure }, { on := 6, ground := Ground.phase }, { on := 7, ground := Ground.phase }], guard := none }) rfl (fun K hK => ?_) AllReadyH.nil)
        have hcx := hJ.cell1
        have hfx := hJ.frz1
        try simp only [drew_size] at hcx hfx
        go_simp
        refine abs_K (Q := J2 w8 _ _ _) (hJ.store1 _) ?_
        clear hJ hcx hfx
        intro wa hJ
        go_wp2_with fail
        clear hHeld
        refine hK.out _ _ (hJ.old hc) (fun hHeld => ?_)
        clear hK K
        try simp only [Act.put, List.setIfInBounds_toArray, List.set_cons_zero, List.set_cons_succ]
        refine wpAnyH_ready (rs := [9]) (by kernel_rfl) (by simp) ?_
        refine (AllReadyH.cons (o := { dst := none, op := Op.store 27 (Operand.tmp 13) (Operand.tmp 38), type := 0, pos := "law.go:62", after := #[{ on := 7, ground := Ground.data }, { on := 5, ground := Ground.data }, { on := 8, ground := Ground.chain }, { on := 0, ground := Ground.phase }, { on := 1, ground := Ground.phase }, { on := 2, ground := Ground.phase }, { on := 3, ground := Ground.phase }, { on := 4, ground := Ground.phase }, { on := 5, ground := Ground.phase }, { on := 6, ground := Ground.phase }, { on := 7, ground := Ground.phase }, { on := 8, ground := Ground.phase }], guard := none }) rfl (fun K hK => ?_) AllReadyH.nil)
        have hcx := hJ.cell2
        have hfx := hJ.frz2
        try simp only [drew_size] at hcx hfx
        go_simp
        refine abs_K (Q := J2 w8 _ _ _) (hJ.store2 _) ?_
        clear hJ hcx hfx
        intro wa hJ
        go_wp2_with fail
        clear hHeld
        refine hK.out _ _ (hJ.old hc) (fun hHeld => ?_)
        clear hK K
        try simp only [Act.put, List.setIfInBounds_toArray, List.set_cons_zero, List.set_cons_succ]
        refine wpAnyH_done (by kernel_rfl) ?_ _
        refine NoPanic.normal ?_
        clear hHeld
        go_wp2_with fail
        go_meet
        exact ⟨_, _, _, _, _, _, _, _, rfl, rfl, hJ.bun HB9.out⟩
    · go_simp
      refine abs_K (Q := J2 w8 _ _ _) hJ.alloc2 ?_
      clear hJ
      intro wa hJ
      go_wp2_with fail
      clear hHeld
      refine hK.out _ _ (hJ.old hc) (fun hHeld => ?_)
      clear hK K
      try simp only [Act.put, List.setIfInBounds_toArray, List.set_cons_zero, List.set_cons_succ]
      refine wpAnyH_ready (rs := [2, 6]) (by kernel_rfl) (by simp) ?_
      refine (AllReadyH.cons (o := { dst := some 35, op := Op.call { callee := Callee.value (Operand.func 29), args := #[Operand.tmp 33, Operand.tmp 34], argTypes := #[27, 23] }, type := 27, pos := "law.go:62", after := #[{ on := 0, ground := Ground.data }, { on := 1, ground := Ground.data }], guard := none }) rfl (fun K hK => ?_) (AllReadyH.cons (o := { dst := some 12, op := Op.alloc 27, type := 0, pos := "law.go:62", after := #[], guard := none }) rfl (fun K hK => ?_) AllReadyH.nil))
      · go_simp
        go_at_call 29
        with_reducible refine (below_j HB9.out (List.mem_cons_of_mem _ List.mem_cons_self) hJ (by omega) v HV.out).mono ?_
        rintro e wb ⟨A9, n9, c9, rfl, hJ9⟩
        clear hJ
        have hJ := hJ9
        clear hJ9
        go_wp2_with fail
        clear hHeld
        refine hK.out _ _ (hJ.old hc) (fun hHeld => ?_)
        clear hK K
        try simp only [Act.put, List.setIfInBounds_toArray, List.set_cons_zero, List.set_cons_succ]
        refine wpAnyH_ready (rs := [5, 6]) (by kernel_rfl) (by simp) ?_
        refine (AllReadyH.cons (o := { dst := some 38, op := Op.call { callee := Callee.value (Operand.func 30), args := #[Operand.tmp 36, Operand.tmp 37], argTypes := #[27, 23] }, type := 27, pos := "law.go:62", after := #[{ on := 3, ground := Ground.data }, { on := 4, ground := Ground.data }, { on := 2, ground := Ground.chain }], guard := none }) rfl (fun K hK => ?_) (AllReadyH.cons (o := { dst := some 12, op := Op.alloc 27, type := 0, pos := "law.go:62", after := #[], guard := none }) rfl (fun K hK => ?_) AllReadyH.nil))
        · go_simp
          go_at_call 30
          with_reducible refine (from_j HB9.out (List.mem_cons_of_mem _ List.mem_cons_self) hJ (by omega) v HV.out).mono ?_
          rintro e wf ⟨A10, n10, c10, rfl, hJ9⟩
          clear hJ
          have hJ := hJ9
          clear hJ9
          go_wp2_with fail
          clear hHeld
          refine hK.out _ _ (hJ.old hc) (fun hHeld => ?_)
          clear hK K
          try simp only [Act.put, List.setIfInBounds_toArray, List.set_cons_zero, List.set_cons_succ]
          refine wpAnyH_ready (rs := [6]) (by kernel_rfl) (by simp) ?_
          refine (AllReadyH.cons (o := { dst := some 12, op := Op.alloc 27, type := 0, pos := "law.go:62", after := #[], guard := none }) rfl (fun K hK => ?_) AllReadyH.nil)
          go_simp
          refine abs_K (Q := J2 w8 _ _ _) hJ.alloc1 ?_
          clear hJ
          intro wa hJ
          go_wp2_with fail
          clear hHeld
          refine hK.out _ _ (hJ.old hc) (fun hHeld => ?_)
          clear hK K
          try simp only [Act.put, List.setIfInBounds_toArray, List.set_cons_zero, List.set_cons_succ]
          refine wpAnyH_ready (rs := [8]) (by kernel_rfl) (by simp) ?_
          refine (AllReadyH.cons (o := { dst := none, op := Op.store 27 (Operand.tmp 12) (Operand.tmp 35), type := 0, pos := "law.go:62", after := #[{ on := 6, ground := Ground.data }, { on := 2, ground := Ground.data }, { on := 5, ground := Ground.chain }, { on := 0, ground := Ground.phase }, { on := 1, ground := Ground.phase }, { on := 2, ground := Ground.phase }, { on := 3, ground := Ground.textOnly Departure.lateStores }, { on := 4, ground := Ground.textOnly Departure.lateStores }, { on := 5, ground := Ground.textOnly Departure.lateStoresUnsure }, { on := 6, ground := Ground.phase }, { on := 7, ground := Ground.phase }], guard := none }) rfl (fun K hK => ?_) AllReadyH.nil)
          have hcx := hJ.cell1
          have hfx := hJ.frz1
          try simp only [drew_size] at hcx hfx
          go_simp
          refine abs_K (Q := J2 w8 _ _ _) (hJ.store1 _) ?_
          clear hJ hcx hfx
          intro wa hJ
          go_wp2_with fail
          clear hHeld
          refine hK.out _ _ (hJ.old hc) (fun hHeld => ?_)
          clear hK K
          try simp only [Act.put, List.setIfInBounds_toArray, List.set_cons_zero, List.set_cons_succ]
          refine wpAnyH_ready (rs := [9]) (by kernel_rfl) (by simp) ?_
          refine (AllReadyH.cons (o := { dst := none, op := Op.store 27 (Operand.tmp 13) (Operand.tmp 38), type := 0, pos := "law.go:62", after := #[{ on := 7, ground := Ground.data }, { on := 5, ground := Ground.data }, { on := 8, ground := Ground.chain }, { on := 0, ground := Ground.phase }, { on := 1, ground := Ground.phase }, { on := 2, ground := Ground.phase }, { on := 3, ground := Ground.phase }, { on := 4, ground := Ground.phase }, { on := 5, ground := Ground.phase }, { on := 6, ground := Ground.phase }, { on := 7, ground := Ground.phase }, { on := 8, ground := Ground.phase }], guard := none }) rfl (fun K hK => ?_) AllReadyH.nil)
          have hcx := hJ.cell2
          have hfx := hJ.frz2
          try simp only [drew_size] at hcx hfx
          go_simp
          refine abs_K (Q := J2 w8 _ _ _) (hJ.store2 _) ?_
          clear hJ hcx hfx
          intro wa hJ
          go_wp2_with fail
          clear hHeld
          refine hK.out _ _ (hJ.old hc) (fun hHeld => ?_)
          clear hK K
          try simp only [Act.put, List.setIfInBounds_toArray, List.set_cons_zero, List.set_cons_succ]
          refine wpAnyH_done (by kernel_rfl) ?_ _
          refine NoPanic.normal ?_
          clear hHeld
          go_wp2_with fail
          go_meet
          exact ⟨_, _, _, _, _, _, _, _, rfl, rfl, hJ.bun HB9.out⟩
        · go_simp
          refine abs_K (Q := J2 w8 _ _ _) hJ.alloc1 ?_
          clear hJ
          intro wa hJ
          go_wp2_with fail
          clear hHeld
          refine hK.out _ _ (hJ.old hc) (fun hHeld => ?_)
          clear hK K
          try simp only [Act.put, List.setIfInBounds_toArray, List.set_cons_zero, List.set_cons_succ]
          refine wpAnyH_ready (rs := [5]) (by kernel_rfl) (by simp) ?_
          refine (AllReadyH.cons (o := { dst := some 38, op := Op.call { callee := Callee.value (Operand.func 30), args := #[Operand.tmp 36, Operand.tmp 37], argTypes := #[27, 23] }, type := 27, pos := "law.go:62", after := #[{ on := 3, ground := Ground.data }, { on := 4, ground := Ground.data }, { on := 2, ground := Ground.chain }], guard := none }) rfl (fun K hK => ?_) AllReadyH.nil)
          go_simp
          go_at_call 30
          with_reducible refine (from_j HB9.out (List.mem_cons_of_mem _ List.mem_cons_self) hJ (by omega) v HV.out).mono ?_
          rintro e wf ⟨A10, n10, c10, rfl, hJ9⟩
          clear hJ
          have hJ := hJ9
          clear hJ9
          go_wp2_with fail
          clear hHeld
          refine hK.out _ _ (hJ.old hc) (fun hHeld => ?_)
          clear hK K
          try simp only [Act.put, List.setIfInBounds_toArray, List.set_cons_zero, List.set_cons_succ]
          refine wpAnyH_ready (rs := [8]) (by kernel_rfl) (by simp) ?_
          refine (AllReadyH.cons (o := { dst := none, op := Op.store 27 (Operand.tmp 12) (Operand.tmp 35), type := 0, pos := "law.go:62", after := #[{ on := 6, ground := Ground.data }, { on := 2, ground := Ground.data }, { on := 5, ground := Ground.chain }, { on := 0, ground := Ground.phase }, { on := 1, ground := Ground.phase }, { on := 2, ground := Ground.phase }, { on := 3, ground := Ground.textOnly Departure.lateStores }, { on := 4, ground := Ground.textOnly Departure.lateStores }, { on := 5, ground := Ground.textOnly Departure.lateStoresUnsure }, { on := 6, ground := Ground.phase }, { on := 7, ground := Ground.phase }], guard := none }) rfl (fun K hK => ?_) AllReadyH.nil)
          have hcx := hJ.cell1
          have hfx := hJ.frz1
          try simp only [drew_size] at hcx hfx
          go_simp
          refine abs_K (Q := J2 w8 _ _ _) (hJ.store1 _) ?_
          clear hJ hcx hfx
          intro wa hJ
          go_wp2_with fail
          clear hHeld
          refine hK.out _ _ (hJ.old hc) (fun hHeld => ?_)
          clear hK K
          try simp only [Act.put, List.setIfInBounds_toArray, List.set_cons_zero, List.set_cons_succ]
          refine wpAnyH_ready (rs := [9]) (by kernel_rfl) (by simp) ?_
          refine (AllReadyH.cons (o := { dst := none, op := Op.store 27 (Operand.tmp 13) (Operand.tmp 38), type := 0, pos := "law.go:62", after := #[{ on := 7, ground := Ground.data }, { on := 5, ground := Ground.data }, { on := 8, ground := Ground.chain }, { on := 0, ground := Ground.phase }, { on := 1, ground := Ground.phase }, { on := 2, ground := Ground.phase }, { on := 3, ground := Ground.phase }, { on := 4, ground := Ground.phase }, { on := 5, ground := Ground.phase }, { on := 6, ground := Ground.phase }, { on := 7, ground := Ground.phase }, { on := 8, ground := Ground.phase }], guard := none }) rfl (fun K hK => ?_) AllReadyH.nil)
          have hcx := hJ.cell2
          have hfx := hJ.frz2
          try simp only [drew_size] at hcx hfx
          go_simp
          refine abs_K (Q := J2 w8 _ _ _) (hJ.store2 _) ?_
          clear hJ hcx hfx
          intro wa hJ
          go_wp2_with fail
          clear hHeld
          refine hK.out _ _ (hJ.old hc) (fun hHeld => ?_)
          clear hK K
          try simp only [Act.put, List.setIfInBounds_toArray, List.set_cons_zero, List.set_cons_succ]
          refine wpAnyH_done (by kernel_rfl) ?_ _
          refine NoPanic.normal ?_
          clear hHeld
          go_wp2_with fail
          go_meet
          exact ⟨_, _, _, _, _, _, _, _, rfl, rfl, hJ.bun HB9.out⟩
      · go_simp
        refine abs_K (Q := J2 w8 _ _ _) hJ.alloc1 ?_
        clear hJ
        intro wa hJ
        go_wp2_with fail
        clear hHeld
        refine hK.out _ _ (hJ.old hc) (fun hHeld => ?_)
        clear hK K
        try simp only [Act.put, List.setIfInBounds_toArray, List.set_cons_zero, List.set_cons_succ]
        refine wpAnyH_ready (rs := [2]) (by kernel_rfl) (by simp) ?_
        refine (AllReadyH.cons (o := { dst := some 35, op := Op.call { callee := Callee.value (Operand.func 29), args := #[Operand.tmp 33, Operand.tmp 34], argTypes := #[27, 23] }, type := 27, pos := "law.go:62", after := #[{ on := 0, ground := Ground.data }, { on := 1, ground := Ground.data }], guard := none }) rfl (fun K hK => ?_) AllReadyH.nil)
        go_simp
        go_at_call 29
        with_reducible refine (below_j HB9.out (List.mem_cons_of_mem _ List.mem_cons_self) hJ (by omega) v HV.out).mono ?_
        rintro e wb ⟨A9, n9, c9, rfl, hJ9⟩
        clear hJ
        have hJ := hJ9
        clear hJ9
        go_wp2_with fail
        clear hHeld
        refine hK.out _ _ (hJ.old hc) (fun hHeld => ?_)
        clear hK K
        try simp only [Act.put, List.setIfInBounds_toArray, List.set_cons_zero, List.set_cons_succ]
        refine wpAnyH_ready (rs := [5]) (by kernel_rfl) (by simp) ?_
        refine (AllReadyH.cons (o := { dst := some 38, op := Op.call { callee := Callee.value (Operand.func 30), args := #[Operand.tmp 36, Operand.tmp 37], argTypes := #[27, 23] }, type := 27, pos := "law.go:62", after := #[{ on := 3, ground := Ground.data }, { on := 4, ground := Ground.data }, { on := 2, ground := Ground.chain }], guard := none }) rfl (fun K hK => ?_) AllReadyH.nil)
        go_simp
        go_at_call 30
        with_reducible refine (from_j HB9.out (List.mem_cons_of_mem _ List.mem_cons_self) hJ (by omega) v HV.out).mono ?_
        rintro e wf ⟨A10, n10, c10, rfl, hJ9⟩
        clear hJ
        have hJ := hJ9
        clear hJ9
        go_wp2_with fail
        clear hHeld
        refine hK.out _ _ (hJ.old hc) (fun hHeld => ?_)
        clear hK K
        try simp only [Act.put, List.setIfInBounds_toArray, List.set_cons_zero, List.set_cons_succ]
        refine wpAnyH_ready (rs := [8]) (by kernel_rfl) (by simp) ?_
        refine (AllReadyH.cons (o := { dst := none, op := Op.store 27 (Operand.tmp 12) (Operand.tmp 35), type := 0, pos := "law.go:62", after := #[{ on := 6, ground := Ground.data }, { on := 2, ground := Ground.data }, { on := 5, ground := Ground.chain }, { on := 0, ground := Ground.phase }, { on := 1, ground := Ground.phase }, { on := 2, ground := Ground.phase }, { on := 3, ground := Ground.textOnly Departure.lateStores }, { on := 4, ground := Ground.textOnly Departure.lateStores }, { on := 5, ground := Ground.textOnly Departure.lateStoresUnsure }, { on := 6, ground := Ground.phase }, { on := 7, ground := Ground.phase }], guard := none }) rfl (fun K hK => ?_) AllReadyH.nil)
        have hcx := hJ.cell1
        have hfx := hJ.frz1
        try simp only [drew_size] at hcx hfx
        go_simp
        refine abs_K (Q := J2 w8 _ _ _) (hJ.store1 _) ?_
        clear hJ hcx hfx
        intro wa hJ
        go_wp2_with fail
        clear hHeld
        refine hK.out _ _ (hJ.old hc) (fun hHeld => ?_)
        clear hK K
        try simp only [Act.put, List.setIfInBounds_toArray, List.set_cons_zero, List.set_cons_succ]
        refine wpAnyH_ready (rs := [9]) (by kernel_rfl) (by simp) ?_
        refine (AllReadyH.cons (o := { dst := none, op := Op.store 27 (Operand.tmp 13) (Operand.tmp 38), type := 0, pos := "law.go:62", after := #[{ on := 7, ground := Ground.data }, { on := 5, ground := Ground.data }, { on := 8, ground := Ground.chain }, { on := 0, ground := Ground.phase }, { on := 1, ground := Ground.phase }, { on := 2, ground := Ground.phase }, { on := 3, ground := Ground.phase }, { on := 4, ground := Ground.phase }, { on := 5, ground := Ground.phase }, { on := 6, ground := Ground.phase }, { on := 7, ground := Ground.phase }, { on := 8, ground := Ground.phase }], guard := none }) rfl (fun K hK => ?_) AllReadyH.nil)
        have hcx := hJ.cell2
        have hfx := hJ.frz2
        try simp only [drew_size] at hcx hfx
        go_simp
        refine abs_K (Q := J2 w8 _ _ _) (hJ.store2 _) ?_
        clear hJ hcx hfx
        intro wa hJ
        go_wp2_with fail
        clear hHeld
        refine hK.out _ _ (hJ.old hc) (fun hHeld => ?_)
        clear hK K
        try simp only [Act.put, List.setIfInBounds_toArray, List.set_cons_zero, List.set_cons_succ]
        refine wpAnyH_done (by kernel_rfl) ?_ _
        refine NoPanic.normal ?_
        clear hHeld
        go_wp2_with fail
        go_meet
        exact ⟨_, _, _, _, _, _, _, _, rfl, rfl, hJ.bun HB9.out⟩
  case rest =>
    obtain ⟨X1, X2, A11, n11, c11, A12, n12, c12, rfl, rfl, hb⟩ := hcut
    have HB20 := Lib.hid hb
    obtain ⟨k1, k2, k3, k4⟩ := hb.c4
    clear hb HB9
    go_wp2_with fail
    refine (union_b HB20.out (List.mem_cons_of_mem _ (List.mem_cons_of_mem _ (List.mem_cons_of_mem _ List.mem_cons_self))) (List.mem_cons_of_mem _ (List.mem_cons_of_mem _ List.mem_cons_self)) (by omega)).mono ?_
    rintro e w21 ⟨A21, n21, c21, rfl, hb⟩
    have HB21 := Lib.hid hb
    clear k1 k2 k3 k4
    obtain ⟨k1, k2, k3, k4⟩ := hb.c4
    clear hb HB20
    go_wp2_with fail
    refine (runs_b HB21.out List.mem_cons_self (by omega)).mono ?_
    rintro e w22 ⟨A22, n22, c22, rfl, hb⟩
    have HB22 := Lib.hid hb
    clear k1 k2 k3 k4
    obtain ⟨k1, k2, k3, k4⟩ := hb.c4
    clear hb HB21
    go_wp2_with fail
    refine (own_b HB22.out List.mem_cons_self (by omega)).mono ?_
    rintro e w23 ⟨A23, n23, c23, rfl, hb⟩
    have HB23 := Lib.hid hb
    clear k1 k2 k3 k4
    obtain ⟨k1, k2, k3, k4⟩ := hb.c4
    clear hb HB22
    go_wp2_with fail
    refine (plain_b HB23.out (List.mem_cons_of_mem _ (List.mem_cons_of_mem _ List.mem_cons_self)) (by omega)).mono ?_
    rintro e w24 ⟨A24, n24, c24, rfl, hb⟩
    have HB24 := Lib.hid hb
    clear k1 k2 k3 k4
    obtain ⟨k1, k2, k3, k4⟩ := hb.c4
    clear hb HB23
    go_wp2_with fail
    refine (refSame_yes HB24.out (List.mem_cons_of_mem _ List.mem_cons_self) List.mem_cons_self (sets1 HLA.out HLB.out)).mono ?_
    rintro e w25 ⟨rfl, hb⟩
    have HB25 := Lib.hid hb
    clear k1 k2 k3 k4
    obtain ⟨k1, k2, k3, k4⟩ := hb.c4
    clear hb HB24
    go_wp2_with fail
    refine (less_b HB25.out (List.mem_cons_of_mem _ (List.mem_cons_of_mem _ (List.mem_cons_of_mem _ (List.mem_cons_of_mem _ List.mem_cons_self)))) (List.mem_cons_of_mem _ (List.mem_cons_of_mem _ (List.mem_cons_of_mem _ List.mem_cons_self))) (by omega) (by omega)).mono ?_
    rintro e w26 ⟨A26, n26, c26, rfl, hb⟩
    have HB26 := Lib.hid hb
    clear k1 k2 k3 k4
    obtain ⟨k1, k2, k3, k4⟩ := hb.c4
    clear hb HB25
    go_wp2_with fail
    refine (runs_b HB26.out List.mem_cons_self (by omega)).mono ?_
    rintro e w27 ⟨A27, n27, c27, rfl, hb⟩
    have HB27 := Lib.hid hb
    clear k1 k2 k3 k4
    obtain ⟨k1, k2, k3, k4⟩ := hb.c4
    clear hb HB26
    go_wp2_with fail
    refine (own_b HB27.out List.mem_cons_self (by omega)).mono ?_
    rintro e w28 ⟨A28, n28, c28, rfl, hb⟩
    have HB28 := Lib.hid hb
    clear k1 k2 k3 k4
    obtain ⟨k1, k2, k3, k4⟩ := hb.c4
    clear hb HB27
    go_wp2_with fail
    refine (refLess_b HB28.out (List.mem_cons_of_mem _ (List.mem_cons_of_mem _ (List.mem_cons_of_mem _ (List.mem_cons_of_mem _ (List.mem_cons_of_mem _ (List.mem_cons_of_mem _ (List.mem_cons_of_mem _ List.mem_cons_self))))))) (List.mem_cons_of_mem _ (List.mem_cons_of_mem _ (List.mem_cons_of_mem _ (List.mem_cons_of_mem _ (List.mem_cons_of_mem _ (List.mem_cons_of_mem _ List.mem_cons_self)))))) (by omega) (by omega)).mono ?_
    rintro e w29 ⟨A29, n29, c29, rfl, hb⟩
    have HB29 := Lib.hid hb
    clear k1 k2 k3 k4
    obtain ⟨k1, k2, k3, k4⟩ := hb.c4
    clear hb HB28
    go_wp2_with fail
    refine (refSame_yes HB29.out (List.mem_cons_of_mem _ List.mem_cons_self) List.mem_cons_self rfl).mono ?_
    rintro e w30 ⟨rfl, hb⟩
    have HB30 := Lib.hid hb
    clear k1 k2 k3 k4
    obtain ⟨k1, k2, k3, k4⟩ := hb.c4
    clear hb HB29
    go_wp2_with fail
    refine (runs_b HB30.out (List.mem_cons_of_mem _ (List.mem_cons_of_mem _ (List.mem_cons_of_mem _ List.mem_cons_self))) (by omega)).mono ?_
    rintro e w31 ⟨A31, n31, c31, rfl, hb⟩
    have HB31 := Lib.hid hb
    clear k1 k2 k3 k4
    obtain ⟨k1, k2, k3, k4⟩ := hb.c4
    clear hb HB30
    go_wp2_with fail
    refine (own_b HB31.out List.mem_cons_self (by omega)).mono ?_
    rintro e w32 ⟨A32, n32, c32, rfl, hb⟩
    have HB32 := Lib.hid hb
    clear k1 k2 k3 k4
    obtain ⟨k1, k2, k3, k4⟩ := hb.c4
    clear hb HB31
    go_wp2_with fail
    have hb := Bun.litMax HB32.out v HV.out
    generalize w32.alloc (.cells #[.int .u64 (v : Int), .int .u64 18446744073709551615] 49) = w33 at *
    generalize w32.heap.size = g33 at *
    have HB33 := Lib.hid hb
    clear k1 k2 k3 k4
    obtain ⟨k1, k2, k3, k4⟩ := hb.c4
    clear hb HB32
    refine (refLess_b HB33.out (List.mem_cons_of_mem _ (List.mem_cons_of_mem _ (List.mem_cons_of_mem _ (List.mem_cons_of_mem _ (List.mem_cons_of_mem _ (List.mem_cons_of_mem _ (List.mem_cons_of_mem _ (List.mem_cons_of_mem _ (List.mem_cons_of_mem _ (List.mem_cons_of_mem _ (List.mem_cons_of_mem _ List.mem_cons_self))))))))))) List.mem_cons_self (by omega) (by omega)).mono ?_
    rintro e w34 ⟨A34, n34, c34, rfl, hb⟩
    have HB34 := Lib.hid hb
    clear k1 k2 k3 k4
    obtain ⟨k1, k2, k3, k4⟩ := hb.c4
    clear hb HB33
    go_wp2_with fail
    refine (refSame_yes HB34.out (List.mem_cons_of_mem _ (List.mem_cons_of_mem _ List.mem_cons_self)) List.mem_cons_self rfl).mono ?_
    rintro e w35 ⟨rfl, hb⟩
    have HB35 := Lib.hid hb
    clear k1 k2 k3 k4
    obtain ⟨k1, k2, k3, k4⟩ := hb.c4
    clear hb HB34
    rcases Nat.eq_zero_or_pos v with hv0 | hv0
    · have hv0I : ¬ (0 : Int) < (v : Int) := by omega
      have hv0B : ((v : Int) == 0) = true := by simp; omega
      have HV0 := Lib.hid hv0
      clear hv0
      go_wp2_with fail
      refine (same_yes HB35.out (List.mem_cons_of_mem _ (List.mem_cons_of_mem _ List.mem_cons_self)) (List.mem_cons_of_mem _ (List.mem_cons_of_mem _ (List.mem_cons_of_mem _ (List.mem_cons_of_mem _ (List.mem_cons_of_mem _ List.mem_cons_self))))) (by rw [HV0.out]; rfl)).mono ?_
      rintro e w36 ⟨rfl, hb⟩
      have HB36 := Lib.hid hb
      clear k1 k2 k3 k4
      obtain ⟨k1, k2, k3, k4⟩ := hb.c4
      clear hb HB35
      go_wp2_with fail
      have hB : Bun _ _ _ w w36.drew := HB36.out.drewN 1
      clear k1 k2 k3 k4 HB36
      go_region_held3 (fun w' => w'.cell? ⟨X, 0, none⟩ = some (.slice A2 n2 c2) ∧ w'.cell? ⟨X + 1, 0, none⟩ = some (.slice A3 n3 c3) ∧ w'.cell? ⟨X1, 0, none⟩ = some (.slice A11 n11 c11) ∧ w'.cell? ⟨X2, 0, none⟩ = some (.slice A12 n12 c12)) (first | exact hB.c4) (first
        | (go_at_call 31; ((with_reducible refine (union_b hB (by repeat (first | exact List.mem_cons_self | refine List.mem_cons_of_mem _ ?_)) (by repeat (first | exact List.mem_cons_self | refine List.mem_cons_of_mem _ ?_)) (by omega)).mono ?_); rintro e w9 ⟨Aq, nq, cq, rfl, hB9⟩; clear hB; have hB := hB9; clear hB9))
        | (go_at_call 32; ((with_reducible refine (less_b hB (by repeat (first | exact List.mem_cons_self | refine List.mem_cons_of_mem _ ?_)) (by repeat (first | exact List.mem_cons_self | refine List.mem_cons_of_mem _ ?_)) (by omega) (by omega)).mono ?_); rintro e w9 ⟨Aq, nq, cq, rfl, hB9⟩; clear hB; have hB := hB9; clear hB9))
        | (go_at_call 20; ((with_reducible refine (runs_b hB (by repeat (first | exact List.mem_cons_self | refine List.mem_cons_of_mem _ ?_)) (by omega)).mono ?_); rintro e w9 ⟨Aq, nq, cq, rfl, hB9⟩; clear hB; have hB := hB9; clear hB9))
        | (go_at_call 18; ((with_reducible refine (own_b hB (by repeat (first | exact List.mem_cons_self | refine List.mem_cons_of_mem _ ?_)) (by omega)).mono ?_); rintro e w9 ⟨Aq, nq, cq, rfl, hB9⟩; clear hB; have hB := hB9; clear hB9))
        | (go_at_call 17; ((with_reducible refine (plain_b hB (by repeat (first | exact List.mem_cons_self | refine List.mem_cons_of_mem _ ?_)) (by omega)).mono ?_); rintro e w9 ⟨Aq, nq, cq, rfl, hB9⟩; clear hB; have hB := hB9; clear hB9))
        | (go_at_call 24; ((with_reducible refine (same_yes hB (by repeat (first | exact List.mem_cons_self | refine List.mem_cons_of_mem _ ?_)) (by repeat (first | exact List.mem_cons_self | refine List.mem_cons_of_mem _ ?_)) (by first | exact sets2 HS1.out HV.out | exact sets3 HS1.out HS2.out)).mono ?_); rintro e w9 ⟨rfl, hB9⟩; clear hB; have hB := hB9; clear hB9))
        | (go_at_call 23; ((with_reducible refine (refSame_yes hB (by repeat (first | exact List.mem_cons_self | refine List.mem_cons_of_mem _ ?_)) (by repeat (first | exact List.mem_cons_self | refine List.mem_cons_of_mem _ ?_)) rfl).mono ?_); rintro e w9 ⟨rfl, hB9⟩; clear hB; have hB := hB9; clear hB9)))
      have HBB := Lib.hid hB.bel
      clear hB
      go_wp2
      go_ret
      exact ⟨rfl, HBB.out⟩
    · obtain ⟨u, hu⟩ : ∃ u, v = u + 1 := ⟨v - 1, by omega⟩
      have hv0I : (0 : Int) < (v : Int) := by omega
      have hv0B : ((v : Int) == 0) = false := by simp; omega
      have hvu : (v : Int) - 1 = (u : Int) := by omega
      have hv1 : (1 : Int) ≤ (v : Int) := by omega
      have hul : u < two64 := by have := HV.out; omega
      have hul2 : u < 18446744073709551616 := by unfold two64 at hul; omega
      have HU := Lib.hid hu
      clear hv0 hu
      go_wp2_with fail
      refine (runs_b HB35.out (List.mem_cons_of_mem _ (List.mem_cons_of_mem _ List.mem_cons_self)) (by omega)).mono ?_
      rintro e w36 ⟨A36, n36, c36, rfl, hb⟩
      have HB36 := Lib.hid hb
      clear k1 k2 k3 k4
      obtain ⟨k1, k2, k3, k4⟩ := hb.c4
      clear hb HB35
      go_wp2_with fail
      refine (own_b HB36.out List.mem_cons_self (by omega)).mono ?_
      rintro e w37 ⟨A37, n37, c37, rfl, hb⟩
      have HB37 := Lib.hid hb
      clear k1 k2 k3 k4
      obtain ⟨k1, k2, k3, k4⟩ := hb.c4
      clear hb HB36
      go_wp2_with fail
      have hb := Bun.litZero HB37.out u hul
      generalize w37.alloc (.cells #[.int .u64 0, .int .u64 (u : Int)] 49) = w38 at *
      generalize w37.heap.size = g38 at *
      have HB38 := Lib.hid hb
      clear k1 k2 k3 k4
      obtain ⟨k1, k2, k3, k4⟩ := hb.c4
      clear hb HB37
      refine (refLess_b HB38.out (List.mem_cons_of_mem _ (List.mem_cons_of_mem _ (List.mem_cons_of_mem _ (List.mem_cons_of_mem _ (List.mem_cons_of_mem _ (List.mem_cons_of_mem _ (List.mem_cons_of_mem _ (List.mem_cons_of_mem _ (List.mem_cons_of_mem _ (List.mem_cons_of_mem _ (List.mem_cons_of_mem _ (List.mem_cons_of_mem _ (List.mem_cons_of_mem _ (List.mem_cons_of_mem _ (List.mem_cons_of_mem _ List.mem_cons_self))))))))))))))) List.mem_cons_self (by omega) (by omega)).mono ?_
      rintro e w39 ⟨A39, n39, c39, rfl, hb⟩
      have HB39 := Lib.hid hb
      clear k1 k2 k3 k4
      obtain ⟨k1, k2, k3, k4⟩ := hb.c4
      clear hb HB38
      go_wp2_with fail
      refine (refSame_yes HB39.out (List.mem_cons_of_mem _ (List.mem_cons_of_mem _ List.mem_cons_self)) List.mem_cons_self (from_pos _ HU.out)).mono ?_
      rintro e w40 ⟨rfl, hb⟩
      have HB40 := Lib.hid hb
      clear k1 k2 k3 k4
      obtain ⟨k1, k2, k3, k4⟩ := hb.c4
      clear hb HB39
      go_wp2_with fail
      have hB : Bun _ _ _ w w40.drew := HB40.out.drewN 1
      clear k1 k2 k3 k4 HB40
      go_region_held3 (fun w' => w'.cell? ⟨X, 0, none⟩ = some (.slice A2 n2 c2) ∧ w'.cell? ⟨X + 1, 0, none⟩ = some (.slice A3 n3 c3) ∧ w'.cell? ⟨X1, 0, none⟩ = some (.slice A11 n11 c11) ∧ w'.cell? ⟨X2, 0, none⟩ = some (.slice A12 n12 c12)) (first | exact hB.c4) (first
        | (go_at_call 31; ((with_reducible refine (union_b hB (by repeat (first | exact List.mem_cons_self | refine List.mem_cons_of_mem _ ?_)) (by repeat (first | exact List.mem_cons_self | refine List.mem_cons_of_mem _ ?_)) (by omega)).mono ?_); rintro e w9 ⟨Aq, nq, cq, rfl, hB9⟩; clear hB; have hB := hB9; clear hB9))
        | (go_at_call 32; ((with_reducible refine (less_b hB (by repeat (first | exact List.mem_cons_self | refine List.mem_cons_of_mem _ ?_)) (by repeat (first | exact List.mem_cons_self | refine List.mem_cons_of_mem _ ?_)) (by omega) (by omega)).mono ?_); rintro e w9 ⟨Aq, nq, cq, rfl, hB9⟩; clear hB; have hB := hB9; clear hB9))
        | (go_at_call 20; ((with_reducible refine (runs_b hB (by repeat (first | exact List.mem_cons_self | refine List.mem_cons_of_mem _ ?_)) (by omega)).mono ?_); rintro e w9 ⟨Aq, nq, cq, rfl, hB9⟩; clear hB; have hB := hB9; clear hB9))
        | (go_at_call 18; ((with_reducible refine (own_b hB (by repeat (first | exact List.mem_cons_self | refine List.mem_cons_of_mem _ ?_)) (by omega)).mono ?_); rintro e w9 ⟨Aq, nq, cq, rfl, hB9⟩; clear hB; have hB := hB9; clear hB9))
        | (go_at_call 17; ((with_reducible refine (plain_b hB (by repeat (first | exact List.mem_cons_self | refine List.mem_cons_of_mem _ ?_)) (by omega)).mono ?_); rintro e w9 ⟨Aq, nq, cq, rfl, hB9⟩; clear hB; have hB := hB9; clear hB9))
        | (go_at_call 24; ((with_reducible refine (same_yes hB (by repeat (first | exact List.mem_cons_self | refine List.mem_cons_of_mem _ ?_)) (by repeat (first | exact List.mem_cons_self | refine List.mem_cons_of_mem _ ?_)) (by first | exact sets2 HS1.out HV.out | exact sets3 HS1.out HS2.out)).mono ?_); rintro e w9 ⟨rfl, hB9⟩; clear hB; have hB := hB9; clear hB9))
        | (go_at_call 23; ((with_reducible refine (refSame_yes hB (by repeat (first | exact List.mem_cons_self | refine List.mem_cons_of_mem _ ?_)) (by repeat (first | exact List.mem_cons_self | refine List.mem_cons_of_mem _ ?_)) rfl).mono ?_); rintro e w9 ⟨rfl, hB9⟩; clear hB; have hB := hB9; clear hB9)))
      have HBB := Lib.hid hB.bel
      clear hB
      go_wp2
      go_ret
      exact ⟨rfl, HBB.out⟩
theorem runsSets_law (w : World) (A : Option Addr) (n c : Nat) (l : List Rn) (hs : Rs w w.heap.size A n c l) (A' : Option Addr) (n' c' : Nat) (l' : List Rn) (hs' : Rs w w.heap.size A' n' c' l') (v : Int) (hv : 0 ≤ v ∧ v ≤ 18446744073709551615) :
    Calls Try.prog 4 #[.slice A n c, .slice A' n' c', .int .u64 v] w (Says w (.bool true)) := by
  obtain ⟨x, rfl⟩ := Int.eq_ofNat_of_zero_le hv.1
  exact runsSets_walk w A n c l hs A' n' c' l' hs' x (by unfold two64; omega)
end Go.Proofs.Ytefoeebchjnfaaa
