/-
  THE WALK of the law RunsAlgebra: whatever the runs, it returns true, and turns nothing that was there.
-/
import Derived.Test.YtefoeebchjnfaaaRunsBun
import Derived.Test.YtefoeebchjnfaaaAlgMath
import Derived.Deep.DeepCutAuto
import Derived.Deep.CutBlock
namespace Go.Proofs.Ytefoeebchjnfaaa
open Go.RowKit

theorem Bun.st {cs : List (Nat × Value)} {l r : List Sq} {w0 w : World} {A : Option Addr} {n c m : Nat} {L : List Rn} (h : Bun cs l r w0 w) (hq : Sq.mk A n c L m ∈ l) : St w w.heap.size A n c L := (h.sets _ hq).1
theorem Bun.le {cs : List (Nat × Value)} {l r : List Sq} {w0 w : World} {A : Option Addr} {n c m : Nat} {L : List Rn} (h : Bun cs l r w0 w) (hq : Sq.mk A n c L m ∈ l) : n ≤ m := (h.sets _ hq).2.2
/-- A set is handed back whose row is new. -/
def LessF (w : World) (L : List Rn) (m : Nat) (e : Ending) (w' : World) : Prop :=
  ∃ A n c, e = .returned (.agg #[.slice A n c]) ∧ St w' w'.heap.size A n c L ∧ (∀ b o, A = some ⟨b, o, none⟩ → w.heap.size ≤ b) ∧ n ≤ m ∧ Below w.heap.size w w'
theorem less_f {cs : List (Nat × Value)} {l r : List Sq} {w0 w : World} {A A' : Option Addr} {n c n' c' m m' : Nat} {L L' : List Rn} (h : Bun cs l r w0 w) (hq : Sq.mk A n c L m ∈ l) (hs' : St w w.heap.size A' n' c' L') (hk' : Okl L') (hn' : n' ≤ m') (hm : m ≤ 900) (hm' : m' ≤ 900) :
    Calls Try.prog 32 #[.agg #[.slice A n c], .agg #[.slice A' n' c']] w (LessF w (lessL L L') (m + m')) := by
  obtain ⟨h1, h2, h3⟩ := h.sets _ hq
  simp only at h1 h2 h3
  refine (rless_any w A A' n c n' c' L L' h1.rs hs'.rs h2 hk' (by omega) (by omega)).mono ?_
  rintro e w' ⟨A2, n2, c2, rfl, hs, hp, hb⟩
  refine ⟨A2, n2, c2, rfl, hs, fun b o e => by have := hp b o e; omega, ?_, hb⟩
  have h4 := less_len (t := L') h2
  have := h1.rs.len
  have := hs'.rs.len
  have := hs.rs.len
  omega
/-- A set's cell that was just made. -/
def CellAt (w : World) (X : Nat) : Prop := w.heap[X]? = some (.cells #[.slice none 0 0] 27 (0, 0))
theorem CellAt.lt {w : World} {X : Nat} (h : CellAt w X) : X < w.heap.size := (Array.getElem?_eq_some_iff.1 h).1
theorem CellAt.next {w w' : World} {X : Nat} (h : CellAt w X) (hb : Below w.heap.size w w') : CellAt w' X := (hb.block X h.lt).trans h
theorem cellAt_new (w : World) : CellAt (w.alloc (.cells #[.slice none 0 0] 27)) w.heap.size := heap_alloc_new w _
theorem CellAt.cell {w : World} {X : Nat} (h : CellAt w X) : w.cell? ⟨X, 0, none⟩ = some (.slice none 0 0) := by rw [cell_of_row w _ 0 _ _ _ h]; rfl
/-- A set is stored into its cell. -/
theorem Bun.store {cs : List (Nat × Value)} {l r : List Sq} {w0 w W : World} {X n c m : Nat} {A : Option Addr} {L : List Rn} (h : Bun cs l r w0 w) (hb : Below w.heap.size w W) (hX : CellAt W X) (hlow : w.heap.size ≤ X) (hs : St W W.heap.size A n c L) (hne : ∀ b o, A = some ⟨b, o, none⟩ → b ≠ X) (hk : Okl L) (hn : n ≤ m) :
    Bun ((X, .slice A n c) :: cs) (⟨A, n, c, L, m⟩ :: l) r w0 (W.setCell ⟨X, 0, none⟩ (.slice A n c)) := by
  have h2 := h.next (hb.setCell (p := ⟨X, 0, none⟩) hlow (.slice A n c))
  have hz : W.heap.size ≤ (W.setCell ⟨X, 0, none⟩ (.slice A n c)).heap.size := by simp [World.setCell]
  refine ⟨fun q hq => ?_, (h2.add ⟨(hs.rs.off (p := ⟨X, 0, none⟩) (fun b o e => hne b o e) _).more hz, fun b o e => Nat.lt_of_lt_of_le (hs.lies b o e) hz⟩ hk hn).sets, h2.rows, h2.bel⟩
  rcases List.mem_cons.1 hq with rfl | hq
  · exact World.cell?_setCell_same _ _ _ hX.cell
  · exact h2.cell q hq
theorem Bun.c4 {X1 X2 X3 X4 : Nat} {v1 v2 v3 v4 : Value} {l r : List Sq} {w0 w : World} (h : Bun [(X4, v4), (X3, v3), (X2, v2), (X1, v1)] l r w0 w) :
    w.cell? ⟨X1, 0, none⟩ = some v1 ∧ w.cell? ⟨X2, 0, none⟩ = some v2 ∧ w.cell? ⟨X3, 0, none⟩ = some v3 ∧ w.cell? ⟨X4, 0, none⟩ = some v4 :=
  ⟨h.cell _ (List.mem_cons_of_mem _ (List.mem_cons_of_mem _ (List.mem_cons_of_mem _ List.mem_cons_self))), h.cell _ (List.mem_cons_of_mem _ (List.mem_cons_of_mem _ List.mem_cons_self)), h.cell _ (List.mem_cons_of_mem _ List.mem_cons_self), h.cell _ List.mem_cons_self⟩
def AlgCut (X1 X2 X3 : Nat) (v1 v2 v3 : Value) (l r : List Sq) (w : World) (L : List Rn) (v : Value) (wx : World) : Prop :=
  ∃ X A n c, v = .pointer (some ⟨X, 0, none⟩) ∧ Bun [(X, .slice A n c), (X3, v3), (X2, v2), (X1, v1)] (⟨A, n, c, L, 60⟩ :: l) r w wx

set_option maxRecDepth 100000 in
set_option maxHeartbeats 2000000 in
theorem runsAlgebra_law (w : World) (A : Option Addr) (n c : Nat) (l : List Rn) (hs : Rs w w.heap.size A n c l) (A' : Option Addr) (n' c' : Nat) (l' : List Rn) (hs' : Rs w w.heap.size A' n' c' l') (A'' : Option Addr) (n'' c'' : Nat) (l'' : List Rn) (hs'' : Rs w w.heap.size A'' n'' c'' l'') :
    Calls Try.prog 8 #[.slice A n c, .slice A' n' c', .slice A'' n'' c''] w (Says w (.bool true)) := by
  have HB := Lib.hid ((((Bun.start w).addR (m := n) hs (Nat.le_refl _)).addR (m := n') hs' (Nat.le_refl _)).addR (m := n'') hs'' (Nat.le_refl _))
  clear hs hs' hs''
  go_enter Try.func8, Try.ntmps8
  go_wp2_with fail
  refine (awake_b HB.out).mono ?_
  rintro e w1 ⟨rfl, hb⟩
  have HB1 := Lib.hid hb
  clear hb HB
  go_wp2_with fail
  refine (few_b HB1.out (List.mem_cons_of_mem _ (List.mem_cons_of_mem _ List.mem_cons_self))).mono ?_
  rintro e w1' ⟨rfl, rfl⟩
  have HB2 := Lib.hid (HB1.out.few (List.mem_cons_of_mem _ (List.mem_cons_of_mem _ List.mem_cons_self)))
  have HO1 := Lib.hid (set_spec _ (HB2.out.lt List.mem_cons_self)).1
  clear HB1
  generalize l.take (min n 20) = L1 at *
  generalize min n 20 = k1 at *
  go_wp2_with fail
  refine (set_b HB2.out List.mem_cons_self (by omega)).mono ?_
  rintro e w2 ⟨A2, n2, c2, rfl, hb⟩
  have HB3 := Lib.hid hb
  generalize setL L1 = S at *
  clear hb HB2
  go_wp2_with fail
  refine (few_b HB3.out (List.mem_cons_of_mem _ (List.mem_cons_of_mem _ List.mem_cons_self))).mono ?_
  rintro e w2' ⟨rfl, rfl⟩
  have HB4 := Lib.hid (HB3.out.few (List.mem_cons_of_mem _ (List.mem_cons_of_mem _ List.mem_cons_self)))
  have HO2 := Lib.hid (set_spec _ (HB4.out.lt List.mem_cons_self)).1
  clear HB3
  generalize l'.take (min n' 20) = L2 at *
  generalize min n' 20 = k2 at *
  go_wp2_with fail
  refine (set_b HB4.out List.mem_cons_self (by omega)).mono ?_
  rintro e w3 ⟨A3, n3, c3, rfl, hb⟩
  have HB5 := Lib.hid hb
  generalize setL L2 = T at *
  clear hb HB4
  go_wp2_with fail
  refine (few_b HB5.out (List.mem_cons_of_mem _ (List.mem_cons_of_mem _ List.mem_cons_self))).mono ?_
  rintro e w3' ⟨rfl, rfl⟩
  have HB6 := Lib.hid (HB5.out.few (List.mem_cons_of_mem _ (List.mem_cons_of_mem _ List.mem_cons_self)))
  have HO3 := Lib.hid (set_spec _ (HB6.out.lt List.mem_cons_self)).1
  clear HB5
  generalize l''.take (min n'' 20) = L3 at *
  generalize min n'' 20 = k3 at *
  go_wp2_with fail
  refine (set_b HB6.out List.mem_cons_self (by omega)).mono ?_
  rintro e w4 ⟨A4, n4, c4, rfl, hb⟩
  have hb7 := ((hb.box (.slice A2 n2 c2) 27).box (.slice A3 n3 c3) 27).box (.slice A4 n4 c4) 27
  rw [show (w4.alloc (.cells #[.slice A2 n2 c2] 27)).heap.size = w4.heap.size + 1 from by simp, show ((w4.alloc (.cells #[.slice A2 n2 c2] 27)).alloc (.cells #[.slice A3 n3 c3] 27)).heap.size = w4.heap.size + 1 + 1 from by simp] at hb7
  have HB7 := Lib.hid hb7
  generalize setL L3 = U at *
  clear hb hb7 HB6
  go_wp2_with fail
  generalize ((w4.alloc (.cells #[.slice A2 n2 c2] 27)).alloc (.cells #[.slice A3 n3 c3] 27)).alloc (.cells #[.slice A4 n4 c4] 27) = w5 at *
  generalize w4.heap.size = X at *
  generalize ([⟨A'', k3, c'', L3, 20⟩, ⟨A', k2, c', L2, 20⟩, ⟨A, k1, c, L1, 20⟩, ⟨A'', n'', c'', l'', n''⟩, ⟨A', n', c', l', n'⟩, ⟨A, n, c, l, n⟩] : List Sq) = R at *
  go_cut [10] (fun v wx => AlgCut X (X + 1) (X + 1 + 1) (.slice A2 n2 c2) (.slice A3 n3 c3) (.slice A4 n4 c4) [⟨A4, n4, c4, U, 20⟩, ⟨A3, n3, c3, T, 20⟩, ⟨A2, n2, c2, S, 20⟩] R w (lessL S (lessL S T)) v wx)
  case first =>
    have hc1 : w5.cell? ⟨X, 0, none⟩ = some (.slice A2 n2 c2) := HB7.out.cell _ (List.mem_cons_of_mem _ (List.mem_cons_of_mem _ List.mem_cons_self))
    have hc2 : w5.cell? ⟨X + 1, 0, none⟩ = some (.slice A3 n3 c3) := HB7.out.cell _ (List.mem_cons_of_mem _ List.mem_cons_self)
    skip
    refine wp_region_noPanic ?_
    refine wp_region_held_drew (S := (fun w' => (w'.cell? ⟨X, 0, none⟩ = some (.slice A2 n2 c2) ∧ w'.cell? ⟨X + 1, 0, none⟩ = some (.slice A3 n3 c3)) ∧ Below w5.heap.size w5 w')) (by kernel_rfl) ⟨⟨hc1, hc2⟩, (Below.refl _ _).drew⟩ (fun hHeld => ?_)
    refine wpAnyH_take (i := 0) (oi := { dst := some 24, op := Op.load 27 (Operand.tmp 7), type := 27, pos := "law.go:132", after := #[], guard := none }) (v := ?_) rfl (by kernel_rfl) (by kernel_rfl) (by kernel_rfl) (fun _ _ _ h => h) (Or.inl ⟨by rfl, ?_⟩) (by assumption) ?_
    rotate_left
    · intro w hSw; (try dsimp only at hSw); first | (go_simp; done) | (go_simp; with_reducible rfl)
    try simp only [Act.put, List.setIfInBounds_toArray, List.set_cons_zero, List.set_cons_succ]
    refine wpAnyH_take (i := 1) (oi := { dst := some 25, op := Op.load 27 (Operand.tmp 7), type := 27, pos := "law.go:132", after := #[], guard := none }) (v := ?_) rfl (by kernel_rfl) (by kernel_rfl) (by kernel_rfl) (fun _ _ _ h => h) (Or.inl ⟨by rfl, ?_⟩) (by assumption) ?_
    rotate_left
    · intro w hSw; (try dsimp only at hSw); first | (go_simp; done) | (go_simp; with_reducible rfl)
    try simp only [Act.put, List.setIfInBounds_toArray, List.set_cons_zero, List.set_cons_succ]
    refine wpAnyH_take (i := 2) (oi := { dst := some 26, op := Op.load 27 (Operand.tmp 8), type := 27, pos := "law.go:132", after := #[], guard := none }) (v := ?_) rfl (by kernel_rfl) (by kernel_rfl) (by kernel_rfl) (fun _ _ _ h => h) (Or.inl ⟨by rfl, ?_⟩) (by assumption) ?_
    rotate_left
    · intro w hSw; (try dsimp only at hSw); first | (go_simp; done) | (go_simp; with_reducible rfl)
    try simp only [Act.put, List.setIfInBounds_toArray, List.set_cons_zero, List.set_cons_succ]
    refine wpAnyH_ready (rs := [3, 5]) (by kernel_rfl) (by simp) ?_
    refine (AllReadyH.cons (o := { dst := some 27, op := Op.call { callee := Callee.value (Operand.func 32), args := #[Operand.tmp 25, Operand.tmp 26], argTypes := #[27, 27] }, type := 27, pos := "law.go:132", after := #[{ on := 1, ground := Ground.data }, { on := 2, ground := Ground.data }], guard := none }) rfl (fun K hK => ?_) (AllReadyH.cons (o := { dst := some 10, op := Op.alloc 27, type := 0, pos := "law.go:132", after := #[], guard := none }) rfl (fun K hK => ?_) AllReadyH.nil))
    · go_simp
      go_at_call 32
      with_reducible refine (less_f (HB7.out.next hHeld.2) (List.mem_cons_of_mem _ (List.mem_cons_of_mem _ List.mem_cons_self)) ((HB7.out.next hHeld.2).st (List.mem_cons_of_mem _ List.mem_cons_self)) HO2.out ((HB7.out.next hHeld.2).le (List.mem_cons_of_mem _ List.mem_cons_self)) (by omega) (by omega)).mono ?_
      rintro e w6 ⟨A6, n6, c6, rfl, hs6, hp6, hn6, hb6⟩
      have hKeep : (w6.cell? ⟨X, 0, none⟩ = some (.slice A2 n2 c2) ∧ w6.cell? ⟨X + 1, 0, none⟩ = some (.slice A3 n3 c3)) ∧ Below w5.heap.size w5 w6 := ⟨⟨(hb6.cell (p := ⟨X, 0, none⟩) (World.block_lt_of_cell? _ _ hHeld.1.1)).trans hHeld.1.1, (hb6.cell (p := ⟨X + 1, 0, none⟩) (World.block_lt_of_cell? _ _ hHeld.1.2)).trans hHeld.1.2⟩, hHeld.2.trans (hb6.mono hHeld.2.size)⟩
      have HS6 := Lib.hid hs6
      clear hs6 hp6 hb6
      go_wp2_with fail
      clear hHeld
      refine hK.out _ _ hKeep (fun hHeld => ?_)
      clear hK K
      try simp only [Act.put, List.setIfInBounds_toArray, List.set_cons_zero, List.set_cons_succ]
      refine wpAnyH_ready (rs := [4, 5]) (by kernel_rfl) (by simp) ?_
      refine (AllReadyH.cons (o := { dst := some 28, op := Op.call { callee := Callee.value (Operand.func 32), args := #[Operand.tmp 24, Operand.tmp 27], argTypes := #[27, 27] }, type := 27, pos := "law.go:132", after := #[{ on := 0, ground := Ground.data }, { on := 3, ground := Ground.data }, { on := 3, ground := Ground.chain }], guard := none }) rfl (fun K hK => ?_) (AllReadyH.cons (o := { dst := some 10, op := Op.alloc 27, type := 0, pos := "law.go:132", after := #[], guard := none }) rfl (fun K hK => ?_) AllReadyH.nil))
      · go_simp
        go_at_call 32
        with_reducible refine (less_f (HB7.out.next hHeld.2) (List.mem_cons_of_mem _ (List.mem_cons_of_mem _ List.mem_cons_self)) HS6.out (less_ok HO1.out HO2.out) hn6 (by omega) (by omega)).mono ?_
        rintro e w7 ⟨A7, n7, c7, rfl, hs7, hp7, hn7, hb7⟩
        have hKeep : (w7.cell? ⟨X, 0, none⟩ = some (.slice A2 n2 c2) ∧ w7.cell? ⟨X + 1, 0, none⟩ = some (.slice A3 n3 c3)) ∧ Below w5.heap.size w5 w7 := ⟨⟨(hb7.cell (p := ⟨X, 0, none⟩) (World.block_lt_of_cell? _ _ hHeld.1.1)).trans hHeld.1.1, (hb7.cell (p := ⟨X + 1, 0, none⟩) (World.block_lt_of_cell? _ _ hHeld.1.2)).trans hHeld.1.2⟩, hHeld.2.trans (hb7.mono hHeld.2.size)⟩
        have HS7 := Lib.hid hs7
        clear hs7 hp7 hb7
        go_wp2_with fail
        clear hHeld
        refine hK.out _ _ hKeep (fun hHeld => ?_)
        clear hK K
        try simp only [Act.put, List.setIfInBounds_toArray, List.set_cons_zero, List.set_cons_succ]
        refine wpAnyH_ready (rs := [5]) (by kernel_rfl) (by simp) ?_
        refine (AllReadyH.cons (o := { dst := some 10, op := Op.alloc 27, type := 0, pos := "law.go:132", after := #[], guard := none }) rfl (fun K hK => ?_) AllReadyH.nil)
        go_simp
        have HXA := Lib.hid (cellAt_new w7)
        have HXL := Lib.hid hHeld.2.size
        have HNE : Hid (∀ b o, A7 = some ⟨b, o, none⟩ → b ≠ w7.heap.size) := fun b o e => Nat.ne_of_lt (HS7.out.lies b o e)
        have hKeep : ((w7.alloc (.cells #[.slice none 0 0] 27)).cell? ⟨X, 0, none⟩ = some (.slice A2 n2 c2) ∧ (w7.alloc (.cells #[.slice none 0 0] 27)).cell? ⟨X + 1, 0, none⟩ = some (.slice A3 n3 c3)) ∧ Below w5.heap.size w5 (w7.alloc (.cells #[.slice none 0 0] 27)) := ⟨⟨((below_box w7 _).cell (p := ⟨X, 0, none⟩) (World.block_lt_of_cell? _ _ hHeld.1.1)).trans hHeld.1.1, ((below_box w7 _).cell (p := ⟨X + 1, 0, none⟩) (World.block_lt_of_cell? _ _ hHeld.1.2)).trans hHeld.1.2⟩, hHeld.2.trans ((below_box w7 _).mono hHeld.2.size)⟩
        replace HS7 := Lib.hid (HS7.out.on (below_box w7 (.cells #[.slice none 0 0] 27)) (Nat.le_refl _))
        generalize w7.alloc (.cells #[.slice none 0 0] 27) = w8 at *
        generalize w7.heap.size = Xa at *
        have hcx := HXA.out.cell
        have hfx := frz_row (i := 0) HXA.out
        go_wp2_with fail
        clear hHeld
        refine hK.out _ _ hKeep (fun hHeld => ?_)
        clear hK K
        try simp only [Act.put, List.setIfInBounds_toArray, List.set_cons_zero, List.set_cons_succ]
        refine wpAnyH_ready (rs := [6]) (by kernel_rfl) (by simp) ?_
        refine (AllReadyH.cons (o := { dst := none, op := Op.store 27 (Operand.tmp 10) (Operand.tmp 28), type := 0, pos := "law.go:132", after := #[{ on := 5, ground := Ground.data }, { on := 4, ground := Ground.data }, { on := 4, ground := Ground.chain }, { on := 0, ground := Ground.phase }, { on := 1, ground := Ground.phase }, { on := 2, ground := Ground.phase }, { on := 3, ground := Ground.phase }, { on := 4, ground := Ground.phase }, { on := 5, ground := Ground.phase }], guard := none }) rfl (fun K hK => ?_) AllReadyH.nil)
        go_simp
        have hB8 := HB7.out.store hHeld.2 HXA.out HXL.out HS7.out HNE.out (less_ok HO1.out (less_ok HO1.out HO2.out)) hn7
        have HB8 := Lib.hid hB8
        have hKeep : ((w8.setCell ⟨Xa, 0, none⟩ (.slice A7 n7 c7)).cell? ⟨X, 0, none⟩ = some (.slice A2 n2 c2) ∧ (w8.setCell ⟨Xa, 0, none⟩ (.slice A7 n7 c7)).cell? ⟨X + 1, 0, none⟩ = some (.slice A3 n3 c3)) ∧ Below w5.heap.size w5 (w8.setCell ⟨Xa, 0, none⟩ (.slice A7 n7 c7)) := ⟨⟨HB8.out.cell _ (List.mem_cons_of_mem _ (List.mem_cons_of_mem _ (List.mem_cons_of_mem _ List.mem_cons_self))), HB8.out.cell _ (List.mem_cons_of_mem _ (List.mem_cons_of_mem _ List.mem_cons_self))⟩, hHeld.2.setCell HXL.out _⟩
        clear hcx hfx hB8
        go_wp2_with fail
        clear hHeld
        refine hK.out _ _ hKeep (fun hHeld => ?_)
        clear hK K
        try simp only [Act.put, List.setIfInBounds_toArray, List.set_cons_zero, List.set_cons_succ]
        refine wpAnyH_done (by kernel_rfl) ?_ _
        refine NoPanic.normal ?_
        clear hHeld
        go_wp2_with fail
        go_meet
        exact ⟨Xa, A7, n7, c7, rfl, HB8.out⟩
      · go_simp
        have HXA := Lib.hid (cellAt_new w6)
        have HXL := Lib.hid hHeld.2.size
        have hKeep : ((w6.alloc (.cells #[.slice none 0 0] 27)).cell? ⟨X, 0, none⟩ = some (.slice A2 n2 c2) ∧ (w6.alloc (.cells #[.slice none 0 0] 27)).cell? ⟨X + 1, 0, none⟩ = some (.slice A3 n3 c3)) ∧ Below w5.heap.size w5 (w6.alloc (.cells #[.slice none 0 0] 27)) := ⟨⟨((below_box w6 _).cell (p := ⟨X, 0, none⟩) (World.block_lt_of_cell? _ _ hHeld.1.1)).trans hHeld.1.1, ((below_box w6 _).cell (p := ⟨X + 1, 0, none⟩) (World.block_lt_of_cell? _ _ hHeld.1.2)).trans hHeld.1.2⟩, hHeld.2.trans ((below_box w6 _).mono hHeld.2.size)⟩
        replace HS6 := Lib.hid (HS6.out.on (below_box w6 (.cells #[.slice none 0 0] 27)) (Nat.le_refl _))
        generalize w6.alloc (.cells #[.slice none 0 0] 27) = w8 at *
        generalize w6.heap.size = Xa at *
        go_wp2_with fail
        clear hHeld
        refine hK.out _ _ hKeep (fun hHeld => ?_)
        clear hK K
        try simp only [Act.put, List.setIfInBounds_toArray, List.set_cons_zero, List.set_cons_succ]
        refine wpAnyH_ready (rs := [4]) (by kernel_rfl) (by simp) ?_
        refine (AllReadyH.cons (o := { dst := some 28, op := Op.call { callee := Callee.value (Operand.func 32), args := #[Operand.tmp 24, Operand.tmp 27], argTypes := #[27, 27] }, type := 27, pos := "law.go:132", after := #[{ on := 0, ground := Ground.data }, { on := 3, ground := Ground.data }, { on := 3, ground := Ground.chain }], guard := none }) rfl (fun K hK => ?_) AllReadyH.nil)
        go_simp
        go_at_call 32
        with_reducible refine (less_f (HB7.out.next hHeld.2) (List.mem_cons_of_mem _ (List.mem_cons_of_mem _ List.mem_cons_self)) HS6.out (less_ok HO1.out HO2.out) hn6 (by omega) (by omega)).mono ?_
        rintro e w7 ⟨A7, n7, c7, rfl, hs7, hp7, hn7, hb7⟩
        have hKeep : (w7.cell? ⟨X, 0, none⟩ = some (.slice A2 n2 c2) ∧ w7.cell? ⟨X + 1, 0, none⟩ = some (.slice A3 n3 c3)) ∧ Below w5.heap.size w5 w7 := ⟨⟨(hb7.cell (p := ⟨X, 0, none⟩) (World.block_lt_of_cell? _ _ hHeld.1.1)).trans hHeld.1.1, (hb7.cell (p := ⟨X + 1, 0, none⟩) (World.block_lt_of_cell? _ _ hHeld.1.2)).trans hHeld.1.2⟩, hHeld.2.trans (hb7.mono hHeld.2.size)⟩
        have HS7 := Lib.hid hs7
        have HNE : Hid (∀ b o, A7 = some ⟨b, o, none⟩ → b ≠ Xa) := fun b o e => by have := hp7 b o e; have := HXA.out.lt; omega
        replace HXA := Lib.hid (HXA.out.next hb7)
        clear hs7 hp7 hb7
        have hcx := HXA.out.cell
        have hfx := frz_row (i := 0) HXA.out
        go_wp2_with fail
        clear hHeld
        refine hK.out _ _ hKeep (fun hHeld => ?_)
        clear hK K
        try simp only [Act.put, List.setIfInBounds_toArray, List.set_cons_zero, List.set_cons_succ]
        refine wpAnyH_ready (rs := [6]) (by kernel_rfl) (by simp) ?_
        refine (AllReadyH.cons (o := { dst := none, op := Op.store 27 (Operand.tmp 10) (Operand.tmp 28), type := 0, pos := "law.go:132", after := #[{ on := 5, ground := Ground.data }, { on := 4, ground := Ground.data }, { on := 4, ground := Ground.chain }, { on := 0, ground := Ground.phase }, { on := 1, ground := Ground.phase }, { on := 2, ground := Ground.phase }, { on := 3, ground := Ground.phase }, { on := 4, ground := Ground.phase }, { on := 5, ground := Ground.phase }], guard := none }) rfl (fun K hK => ?_) AllReadyH.nil)
        go_simp
        have hB8 := HB7.out.store hHeld.2 HXA.out HXL.out HS7.out HNE.out (less_ok HO1.out (less_ok HO1.out HO2.out)) hn7
        have HB8 := Lib.hid hB8
        have hKeep : ((w7.setCell ⟨Xa, 0, none⟩ (.slice A7 n7 c7)).cell? ⟨X, 0, none⟩ = some (.slice A2 n2 c2) ∧ (w7.setCell ⟨Xa, 0, none⟩ (.slice A7 n7 c7)).cell? ⟨X + 1, 0, none⟩ = some (.slice A3 n3 c3)) ∧ Below w5.heap.size w5 (w7.setCell ⟨Xa, 0, none⟩ (.slice A7 n7 c7)) := ⟨⟨HB8.out.cell _ (List.mem_cons_of_mem _ (List.mem_cons_of_mem _ (List.mem_cons_of_mem _ List.mem_cons_self))), HB8.out.cell _ (List.mem_cons_of_mem _ (List.mem_cons_of_mem _ List.mem_cons_self))⟩, hHeld.2.setCell HXL.out _⟩
        clear hcx hfx hB8
        go_wp2_with fail
        clear hHeld
        refine hK.out _ _ hKeep (fun hHeld => ?_)
        clear hK K
        try simp only [Act.put, List.setIfInBounds_toArray, List.set_cons_zero, List.set_cons_succ]
        refine wpAnyH_done (by kernel_rfl) ?_ _
        refine NoPanic.normal ?_
        clear hHeld
        go_wp2_with fail
        go_meet
        exact ⟨Xa, A7, n7, c7, rfl, HB8.out⟩
    · go_simp
      have HXA : Hid (CellAt (w5.alloc (.cells #[.slice none 0 0] 27)).drew w5.heap.size) := cellAt_new w5
      have HXL : Hid (w5.heap.size ≤ w5.heap.size) := Nat.le_refl _
      have hKeep : ((w5.alloc (.cells #[.slice none 0 0] 27)).drew.cell? ⟨X, 0, none⟩ = some (.slice A2 n2 c2) ∧ (w5.alloc (.cells #[.slice none 0 0] 27)).drew.cell? ⟨X + 1, 0, none⟩ = some (.slice A3 n3 c3)) ∧ Below w5.heap.size w5 (w5.alloc (.cells #[.slice none 0 0] 27)).drew := ⟨⟨((below_box w5 _).cell (p := ⟨X, 0, none⟩) (World.block_lt_of_cell? _ _ hc1)).trans hc1, ((below_box w5 _).cell (p := ⟨X + 1, 0, none⟩) (World.block_lt_of_cell? _ _ hc2)).trans hc2⟩, (below_box w5 _).drew⟩
      generalize (w5.alloc (.cells #[.slice none 0 0] 27)).drew = w8 at *
      obtain ⟨Xa, HXE⟩ : ∃ Xa, Hid (Xa = w5.heap.size) := ⟨_, rfl⟩
      rw [← HXE.out] at HXA ⊢
      replace HXL : Hid (w5.heap.size ≤ Xa) := by rw [HXE.out]; exact HXL.out
      go_wp2_with fail
      clear hHeld
      refine hK.out _ _ hKeep (fun hHeld => ?_)
      clear hK K
      try simp only [Act.put, List.setIfInBounds_toArray, List.set_cons_zero, List.set_cons_succ]
      refine wpAnyH_ready (rs := [3]) (by kernel_rfl) (by simp) ?_
      refine (AllReadyH.cons (o := { dst := some 27, op := Op.call { callee := Callee.value (Operand.func 32), args := #[Operand.tmp 25, Operand.tmp 26], argTypes := #[27, 27] }, type := 27, pos := "law.go:132", after := #[{ on := 1, ground := Ground.data }, { on := 2, ground := Ground.data }], guard := none }) rfl (fun K hK => ?_) AllReadyH.nil)
      go_simp
      go_at_call 32
      with_reducible refine (less_f (HB7.out.next hHeld.2) (List.mem_cons_of_mem _ (List.mem_cons_of_mem _ List.mem_cons_self)) ((HB7.out.next hHeld.2).st (List.mem_cons_of_mem _ List.mem_cons_self)) HO2.out ((HB7.out.next hHeld.2).le (List.mem_cons_of_mem _ List.mem_cons_self)) (by omega) (by omega)).mono ?_
      rintro e w6 ⟨A6, n6, c6, rfl, hs6, hp6, hn6, hb6⟩
      have hKeep : (w6.cell? ⟨X, 0, none⟩ = some (.slice A2 n2 c2) ∧ w6.cell? ⟨X + 1, 0, none⟩ = some (.slice A3 n3 c3)) ∧ Below w5.heap.size w5 w6 := ⟨⟨(hb6.cell (p := ⟨X, 0, none⟩) (World.block_lt_of_cell? _ _ hHeld.1.1)).trans hHeld.1.1, (hb6.cell (p := ⟨X + 1, 0, none⟩) (World.block_lt_of_cell? _ _ hHeld.1.2)).trans hHeld.1.2⟩, hHeld.2.trans (hb6.mono hHeld.2.size)⟩
      have HS6 := Lib.hid hs6
      replace HXA := Lib.hid (HXA.out.next hb6)
      clear hs6 hp6 hb6
      go_wp2_with fail
      clear hHeld
      refine hK.out _ _ hKeep (fun hHeld => ?_)
      clear hK K
      try simp only [Act.put, List.setIfInBounds_toArray, List.set_cons_zero, List.set_cons_succ]
      refine wpAnyH_ready (rs := [4]) (by kernel_rfl) (by simp) ?_
      refine (AllReadyH.cons (o := { dst := some 28, op := Op.call { callee := Callee.value (Operand.func 32), args := #[Operand.tmp 24, Operand.tmp 27], argTypes := #[27, 27] }, type := 27, pos := "law.go:132", after := #[{ on := 0, ground := Ground.data }, { on := 3, ground := Ground.data }, { on := 3, ground := Ground.chain }], guard := none }) rfl (fun K hK => ?_) AllReadyH.nil)
      go_simp
      go_at_call 32
      with_reducible refine (less_f (HB7.out.next hHeld.2) (List.mem_cons_of_mem _ (List.mem_cons_of_mem _ List.mem_cons_self)) HS6.out (less_ok HO1.out HO2.out) hn6 (by omega) (by omega)).mono ?_
      rintro e w7 ⟨A7, n7, c7, rfl, hs7, hp7, hn7, hb7⟩
      have hKeep : (w7.cell? ⟨X, 0, none⟩ = some (.slice A2 n2 c2) ∧ w7.cell? ⟨X + 1, 0, none⟩ = some (.slice A3 n3 c3)) ∧ Below w5.heap.size w5 w7 := ⟨⟨(hb7.cell (p := ⟨X, 0, none⟩) (World.block_lt_of_cell? _ _ hHeld.1.1)).trans hHeld.1.1, (hb7.cell (p := ⟨X + 1, 0, none⟩) (World.block_lt_of_cell? _ _ hHeld.1.2)).trans hHeld.1.2⟩, hHeld.2.trans (hb7.mono hHeld.2.size)⟩
      have HS7 := Lib.hid hs7
      have HNE : Hid (∀ b o, A7 = some ⟨b, o, none⟩ → b ≠ Xa) := fun b o e => by have := hp7 b o e; have := HXA.out.lt; omega
      replace HXA := Lib.hid (HXA.out.next hb7)
      clear hs7 hp7 hb7
      have hcx := HXA.out.cell
      have hfx := frz_row (i := 0) HXA.out
      go_wp2_with fail
      clear hHeld
      refine hK.out _ _ hKeep (fun hHeld => ?_)
      clear hK K
      try simp only [Act.put, List.setIfInBounds_toArray, List.set_cons_zero, List.set_cons_succ]
      refine wpAnyH_ready (rs := [6]) (by kernel_rfl) (by simp) ?_
      refine (AllReadyH.cons (o := { dst := none, op := Op.store 27 (Operand.tmp 10) (Operand.tmp 28), type := 0, pos := "law.go:132", after := #[{ on := 5, ground := Ground.data }, { on := 4, ground := Ground.data }, { on := 4, ground := Ground.chain }, { on := 0, ground := Ground.phase }, { on := 1, ground := Ground.phase }, { on := 2, ground := Ground.phase }, { on := 3, ground := Ground.phase }, { on := 4, ground := Ground.phase }, { on := 5, ground := Ground.phase }], guard := none }) rfl (fun K hK => ?_) AllReadyH.nil)
      go_simp
      have hB8 := HB7.out.store hHeld.2 HXA.out HXL.out HS7.out HNE.out (less_ok HO1.out (less_ok HO1.out HO2.out)) hn7
      have HB8 := Lib.hid hB8
      have hKeep : ((w7.setCell ⟨Xa, 0, none⟩ (.slice A7 n7 c7)).cell? ⟨X, 0, none⟩ = some (.slice A2 n2 c2) ∧ (w7.setCell ⟨Xa, 0, none⟩ (.slice A7 n7 c7)).cell? ⟨X + 1, 0, none⟩ = some (.slice A3 n3 c3)) ∧ Below w5.heap.size w5 (w7.setCell ⟨Xa, 0, none⟩ (.slice A7 n7 c7)) := ⟨⟨HB8.out.cell _ (List.mem_cons_of_mem _ (List.mem_cons_of_mem _ (List.mem_cons_of_mem _ List.mem_cons_self))), HB8.out.cell _ (List.mem_cons_of_mem _ (List.mem_cons_of_mem _ List.mem_cons_self))⟩, hHeld.2.setCell HXL.out _⟩
      clear hcx hfx hB8
      go_wp2_with fail
      clear hHeld
      refine hK.out _ _ hKeep (fun hHeld => ?_)
      clear hK K
      try simp only [Act.put, List.setIfInBounds_toArray, List.set_cons_zero, List.set_cons_succ]
      refine wpAnyH_done (by kernel_rfl) ?_ _
      refine NoPanic.normal ?_
      clear hHeld
      go_wp2_with fail
      go_meet
      exact ⟨Xa, A7, n7, c7, rfl, HB8.out⟩
  case rest =>
    obtain ⟨Xb, Ab, nb, cb, rfl, hb⟩ := hcut
    have hB : Bun _ _ _ w wc.drew := (hb.add (St.nil_ _ _) Okl.nil (Nat.le_refl 0)).drewN 1
    clear hb HB7
    go_wp2_with fail
    go_region_held3 (fun w' => w'.cell? ⟨X, 0, none⟩ = some (.slice A2 n2 c2) ∧ w'.cell? ⟨X + 1, 0, none⟩ = some (.slice A3 n3 c3) ∧ w'.cell? ⟨X + 1 + 1, 0, none⟩ = some (.slice A4 n4 c4) ∧ w'.cell? ⟨Xb, 0, none⟩ = some (.slice Ab nb cb)) (first | exact hB.c4) (first
      | (go_at_call 31; ((with_reducible refine (union_b hB (by repeat (first | exact List.mem_cons_self | refine List.mem_cons_of_mem _ ?_)) (by repeat (first | exact List.mem_cons_self | refine List.mem_cons_of_mem _ ?_)) (by omega)).mono ?_); rintro e w9 ⟨Aq, nq, cq, rfl, hB9⟩; clear hB; have hB := hB9; clear hB9))
      | (go_at_call 32; ((with_reducible refine (less_b hB (by repeat (first | exact List.mem_cons_self | refine List.mem_cons_of_mem _ ?_)) (by repeat (first | exact List.mem_cons_self | refine List.mem_cons_of_mem _ ?_)) (by omega) (by omega)).mono ?_); rintro e w9 ⟨Aq, nq, cq, rfl, hB9⟩; clear hB; have hB := hB9; clear hB9))
      | (go_at_call 24; ((with_reducible refine (same_yes hB (by repeat (first | exact List.mem_cons_self | refine List.mem_cons_of_mem _ ?_)) (by repeat (first | exact List.mem_cons_self | refine List.mem_cons_of_mem _ ?_)) (by first | exact alg1 HO1.out HO2.out HO3.out | exact alg2 HO1.out | exact alg3 HO1.out | exact alg4 HO1.out HO2.out | exact alg5 HO1.out HO2.out HO3.out | exact alg6 HO1.out HO2.out)).mono ?_); rintro e w9 ⟨rfl, hB9⟩; clear hB; have hB := hB9; clear hB9)))
    go_wp2_with fail
    replace hB : Bun _ _ _ w w9.drew := hB.drewN 1
    go_region_held3 (fun w' => w'.cell? ⟨X, 0, none⟩ = some (.slice A2 n2 c2) ∧ w'.cell? ⟨X + 1, 0, none⟩ = some (.slice A3 n3 c3) ∧ w'.cell? ⟨X + 1 + 1, 0, none⟩ = some (.slice A4 n4 c4) ∧ w'.cell? ⟨Xb, 0, none⟩ = some (.slice Ab nb cb)) (first | exact hB.c4) (first
      | (go_at_call 32; ((with_reducible refine (less_b hB (by repeat (first | exact List.mem_cons_self | refine List.mem_cons_of_mem _ ?_)) (by repeat (first | exact List.mem_cons_self | refine List.mem_cons_of_mem _ ?_)) (by omega) (by omega)).mono ?_); rintro e w9 ⟨Aq, nq, cq, rfl, hB9⟩; clear hB; have hB := hB9; clear hB9))
      | (go_at_call 27; ((with_reducible refine (count_b hB (by repeat (first | exact List.mem_cons_self | refine List.mem_cons_of_mem _ ?_))).mono ?_); rintro e w9 ⟨rfl, hB9⟩; clear hB; have hB := hB9; clear hB9)))
    have HA7 := Lib.hid (alg7 HO1.out HO2.out)
    have HXL := Lib.hid (cnt_lt (less_ok HO1.out HO2.out))
    have HYL := Lib.hid (cnt_lt (less_ok HO1.out (less_ok HO1.out HO2.out)))
    have hcn := count_b hB (A := A2) (n := n2) (c := c2) (L := S) (m := 20) (by repeat (first | exact List.mem_cons_self | refine List.mem_cons_of_mem _ ?_))
    have hcx := hB.c4.1
    have HBB := Lib.hid hB.bel
    have HCN := Lib.hid hcn
    clear hcn hB
    generalize cntL (lessL S T) = x at *
    generalize cntL (lessL S (lessL S T)) = y at *
    obtain ⟨z, hz⟩ : ∃ z, z = (x + y) % two64 := ⟨_, rfl⟩
    rw [← hz] at HA7
    have hwz : IntKind.u64.wrap ((x : Int) + (y : Int)) = (z : Int) := by rw [IntKind.wrap_u64, hz]; unfold two64; omega
    clear hz
    by_cases hlt : z < x
    · have hltI : (z : Int) < (x : Int) := by omega
      go_wp2
      go_ret
      exact ⟨rfl, HBB.out⟩
    · have hltI : ¬ (z : Int) < (x : Int) := by omega
      have hzz : ((z : Int) == (z : Int)) = true := by simp
      have HCS : Hid (cntL S = z) := by
        rcases HA7.out with h | h
        · omega
        · exact h
      rw [HCS.out] at HCN
      go_wp2_with fail
      refine HCN.out.mono ?_
      rintro e w10 ⟨rfl, hb⟩
      have HB10 := Lib.hid hb.bel
      clear hb
      go_wp2
      go_ret
      exact ⟨rfl, HB10.out⟩
end Go.Proofs.Ytefoeebchjnfaaa
