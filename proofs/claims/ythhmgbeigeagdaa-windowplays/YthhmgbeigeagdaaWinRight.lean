/-
  CONTRACT of Right.
  No statement is proved here.
-/
import Derived.Test.YthhmgbeigeagdaaWinPut
import Derived.Test.YthhmgbeigeagdaaRunsTwo
import Derived.Deep.DeepCutAuto
import Derived.Deep.CutBlock
namespace Go.Proofs.Ythhmgbeigeagdaa
open Go.RowKit

theorem drew_size' (w : World) : w.drew.heap.size = w.heap.size := rfl
theorem J2.oldi {wz W : World} {x1 x2 : Option (Nat × Value)} {qs : List Sq} {X i : Nat} {v : Value} (h : J2 wz x1 x2 qs W) (hc : wz.cell? ⟨X, i, none⟩ = some v) : W.cell? ⟨X, i, none⟩ = some v := (h.bel.cell (p := ⟨X, i, none⟩) (World.block_lt_of_cell? wz _ hc)).trans hc
def rightW (W : Wn) : Bool := decide (1 ≤ W.width) && (decide (W.width ≤ 1024) && (decide (W.low < 4611686018427387904) && (decide (cntL (belowL W.L (W.low + 2)) = 0) && decide (cntL (fromL W.L (W.low + W.width + 1)) = 0))))
/-- Behind the two cells. -/
def RightCut (l : List Sq) (w : World) (Ll Lh : List Rn) (m : Nat) (v1 v2 : Value) (wx : World) : Prop :=
  ∃ X1 X2 A1 n1 c1 A2 n2 c2, v1 = .pointer (some ⟨X1, 0, none⟩) ∧ v2 = .pointer (some ⟨X2, 0, none⟩) ∧ Bun [(X2, .slice A2 n2 c2), (X1, .slice A1 n1 c1)] (⟨A2, n2, c2, Lh, m⟩ :: ⟨A1, n1, c1, Ll, m⟩ :: l) [] w wx
theorem limit_b (w : World) (A : Option Addr) (n c : Nat) (W : Wn) (b : Nat) (hb : limW W = b) : Calls Try.prog 25 #[.agg #[.int .u64 (W.low : Int), .int .u64 (W.width : Int), .slice A n c]] w (Says w (.int .u64 (b : Int))) := hb ▸ limit_any w A n c W
theorem right_no (w : World) (A : Option Addr) (n c : Nat) (W : Wn) (hno : ¬ (1 ≤ W.width ∧ W.width ≤ 1024 ∧ W.low < 4611686018427387904)) :
    Calls Try.prog 27 #[wvv W A n c] w (Says w (.bool (rightW W))) := by
  unfold wvv
  have hr : rightW W = false := by
    unfold rightW
    by_cases h1 : 1 ≤ W.width
    · by_cases h2 : W.width ≤ 1024
      · have h3 : ¬ W.low < 4611686018427387904 := fun h3 => hno ⟨h1, h2, h3⟩
        simp [h3]
      · simp [h2]
    · simp [h1]
  rw [hr]
  by_cases h1 : (W.width : Int) < 1
  · go_enter Try.func27, Try.ntmps27
    go_wp2
    go_ret
    exact ⟨rfl, below_box w _⟩
  · by_cases h2 : (1024 : Int) < (W.width : Int)
    · go_enter Try.func27, Try.ntmps27
      go_wp2
      go_ret
      exact ⟨rfl, below_box w _⟩
    · have h3 : (4611686018427387904 : Int) ≤ (W.low : Int) := by omega
      go_enter Try.func27, Try.ntmps27
      go_wp2
      go_ret
      exact ⟨rfl, below_box w _⟩
set_option maxRecDepth 100000 in
set_option maxHeartbeats 4000000 in
theorem right_yes (w : World) (A : Option Addr) (n c : Nat) (W : Wn) (h : Wat w A n c W) (hn : n ≤ 800) (h1 : 1 ≤ W.width) (h2 : W.width ≤ 1024) (h3 : W.low < 4611686018427387904) :
    Calls Try.prog 27 #[wvv W A n c] w (Says w (.bool (rightW W))) := by
  obtain ⟨R, HR⟩ : ∃ R, Hid (R = rightW W) := ⟨_, rfl⟩
  rw [← HR.out]
  have i1 : ¬ (W.width : Int) < 1 := by omega
  have i2 : ¬ (1024 : Int) < (W.width : Int) := by omega
  have i3 : ¬ (4611686018427387904 : Int) ≤ (W.low : Int) := by omega
  obtain ⟨u1, hu1⟩ : ∃ u, u = W.low + 2 := ⟨_, rfl⟩
  obtain ⟨b, hb⟩ : ∃ u, u = W.low + W.width := ⟨_, rfl⟩
  obtain ⟨u2, hu2⟩ : ∃ u, u = b + 1 := ⟨_, rfl⟩
  have e1 : (W.low : Int) + 2 = (u1 : Int) := by omega
  have e2 : (b : Int) + 1 = (u2 : Int) := by omega
  have f1 : IntKind.u64.wrap (u1 : Int) = (u1 : Int) := by rw [IntKind.wrap_u64]; omega
  have f2 : IntKind.u64.wrap (u2 : Int) = (u2 : Int) := by rw [IntKind.wrap_u64]; omega
  have hlim : limW W = b := by unfold limW; omega
  have HV1 : Hid (u1 < two64) := by show _ < _; unfold two64; omega
  have HV2 : Hid (u2 < two64) := by show _ < _; unfold two64; omega
  have HLIM := Lib.hid hlim
  have HR2 : Hid (R = (decide (cntL (belowL W.L u1) = 0) && decide (cntL (fromL W.L u2) = 0))) := by
    show R = _
    rw [HR.out]
    unfold rightW
    rw [hu2, hu1, hb]
    simp [h1, h2, h3]
  have H := Lib.hid h
  have H123 := Lib.hid (And.intro h1 (And.intro h2 h3))
  clear h hlim h1 h2 h3 hu1 hu2 hb HR
  unfold wvv
  go_enter Try.func27, Try.ntmps27
  go_wp2_with fail
  have hbx := below_box w (Obj.cells #[.int .u64 (W.low : Int), .int .u64 (W.width : Int), .slice A n c] 30)
  have hc0 : (w.alloc (Obj.cells #[.int .u64 (W.low : Int), .int .u64 (W.width : Int), .slice A n c] 30)).cell? ⟨w.heap.size, 0, none⟩ = some (.int .u64 (W.low : Int)) := cell_last w _ _ _ 0 rfl
  have hc1 : (w.alloc (Obj.cells #[.int .u64 (W.low : Int), .int .u64 (W.width : Int), .slice A n c] 30)).cell? ⟨w.heap.size, 1, none⟩ = some (.int .u64 (W.width : Int)) := cell_last w _ _ _ 1 rfl
  have hc2 : (w.alloc (Obj.cells #[.int .u64 (W.low : Int), .int .u64 (W.width : Int), .slice A n c] 30)).cell? ⟨w.heap.size, 2, none⟩ = some (.slice A n c) := cell_last w _ _ _ 2 rfl
  have HB : Hid (Bun [] [⟨A, n, c, W.L, 800⟩] [] w (w.alloc (Obj.cells #[.int .u64 (W.low : Int), .int .u64 (W.width : Int), .slice A n c] 30))) := ((Bun.start w).add H.out.st H.out.ok hn).next hbx
  clear hbx
  generalize w.alloc (Obj.cells #[.int .u64 (W.low : Int), .int .u64 (W.width : Int), .slice A n c] 30) = w8 at *
  go_cut [3, 4] (fun v1 v2 wx => RightCut [⟨A, n, c, W.L, 800⟩] w (belowL W.L u1) (fromL W.L u2) 801 v1 v2 wx)
  case first =>
    have hJ := J2.start w8
    refine wp_region_noPanic ?_
    refine wp_region_held_drew (S := (fun w' => w'.cell? ⟨w.heap.size, 0, none⟩ = some (.int .u64 (W.low : Int)) ∧ w'.cell? ⟨w.heap.size, 1, none⟩ = some (.int .u64 (W.width : Int)) ∧ w'.cell? ⟨w.heap.size, 2, none⟩ = some (.slice A n c))) (by kernel_rfl) ⟨hc0, hc1, hc2⟩ (fun hHeld => ?_)
    refine wpAnyH_take (i := 0) (oi := { dst := some 18, op := Op.fieldAddr 30 (Operand.tmp 1) 2, type := 0, pos := "window.go:30", after := #[], guard := none }) (v := ?_) rfl (by kernel_rfl) (by kernel_rfl) (by kernel_rfl) (fun _ _ _ h => h) (Or.inl ⟨by rfl, ?_⟩) (by assumption) ?_
    rotate_left
    · intro w hSw; (try dsimp only at hSw); first | (go_simp; done) | (go_simp; with_reducible rfl)
    try simp only [Act.put, List.setIfInBounds_toArray, List.set_cons_zero, List.set_cons_succ]
    refine wpAnyH_take (i := 1) (oi := { dst := some 19, op := Op.load 28 (Operand.tmp 18), type := 28, pos := "window.go:30", after := #[{ on := 0, ground := Ground.data }], guard := none }) (v := ?_) rfl (by kernel_rfl) (by kernel_rfl) (by kernel_rfl) (fun _ _ _ h => h) (Or.inl ⟨by rfl, ?_⟩) (by assumption) ?_
    rotate_left
    · intro w hSw; (try dsimp only at hSw); first | (go_simp; done) | (go_simp; with_reducible rfl)
    try simp only [Act.put, List.setIfInBounds_toArray, List.set_cons_zero, List.set_cons_succ]
    refine wpAnyH_take (i := 2) (oi := { dst := some 20, op := Op.fieldAddr 30 (Operand.tmp 1) 0, type := 0, pos := "window.go:30", after := #[], guard := none }) (v := ?_) rfl (by kernel_rfl) (by kernel_rfl) (by kernel_rfl) (fun _ _ _ h => h) (Or.inl ⟨by rfl, ?_⟩) (by assumption) ?_
    rotate_left
    · intro w hSw; (try dsimp only at hSw); first | (go_simp; done) | (go_simp; with_reducible rfl)
    try simp only [Act.put, List.setIfInBounds_toArray, List.set_cons_zero, List.set_cons_succ]
    refine wpAnyH_take (i := 3) (oi := { dst := some 21, op := Op.load 25 (Operand.tmp 20), type := 25, pos := "window.go:30", after := #[{ on := 2, ground := Ground.data }], guard := none }) (v := ?_) rfl (by kernel_rfl) (by kernel_rfl) (by kernel_rfl) (fun _ _ _ h => h) (Or.inl ⟨by rfl, ?_⟩) (by assumption) ?_
    rotate_left
    · intro w hSw; (try dsimp only at hSw); first | (go_simp; done) | (go_simp; with_reducible rfl)
    try simp only [Act.put, List.setIfInBounds_toArray, List.set_cons_zero, List.set_cons_succ]
    refine wpAnyH_take (i := 4) (oi := { dst := some 22, op := Op.binOp BinOp.add 25 (Operand.tmp 21) (Operand.const (Value.int IntKind.u64 2)) 25, type := 25, pos := "window.go:30", after := #[{ on := 3, ground := Ground.data }], guard := none }) (v := ?_) rfl (by kernel_rfl) (by kernel_rfl) (by kernel_rfl) (fun _ _ _ h => h) (Or.inl ⟨by rfl, ?_⟩) (by assumption) ?_
    rotate_left
    · intro w hSw; (try dsimp only at hSw); first | (go_simp; done) | (go_simp; with_reducible rfl)
    try simp only [Act.put, List.setIfInBounds_toArray, List.set_cons_zero, List.set_cons_succ]
    refine wpAnyH_take (i := 6) (oi := { dst := some 24, op := Op.fieldAddr 30 (Operand.tmp 1) 2, type := 0, pos := "window.go:30", after := #[], guard := none }) (v := ?_) rfl (by kernel_rfl) (by kernel_rfl) (by kernel_rfl) (fun _ _ _ h => h) (Or.inl ⟨by rfl, ?_⟩) (by assumption) ?_
    rotate_left
    · intro w hSw; (try dsimp only at hSw); first | (go_simp; done) | (go_simp; with_reducible rfl)
    try simp only [Act.put, List.setIfInBounds_toArray, List.set_cons_zero, List.set_cons_succ]
    refine wpAnyH_take (i := 7) (oi := { dst := some 25, op := Op.load 28 (Operand.tmp 24), type := 28, pos := "window.go:30", after := #[{ on := 6, ground := Ground.data }], guard := none }) (v := ?_) rfl (by kernel_rfl) (by kernel_rfl) (by kernel_rfl) (fun _ _ _ h => h) (Or.inl ⟨by rfl, ?_⟩) (by assumption) ?_
    rotate_left
    · intro w hSw; (try dsimp only at hSw); first | (go_simp; done) | (go_simp; with_reducible rfl)
    try simp only [Act.put, List.setIfInBounds_toArray, List.set_cons_zero, List.set_cons_succ]
    refine wpAnyH_take (i := 8) (oi := { dst := some 26, op := Op.load 30 (Operand.tmp 1), type := 30, pos := "window.go:30", after := #[], guard := none }) (v := ?_) rfl (by kernel_rfl) (by kernel_rfl) (by kernel_rfl) (fun _ _ _ h => h) (Or.inl ⟨by rfl, ?_⟩) (by assumption) ?_
    rotate_left
    · intro w hSw; (try dsimp only at hSw); first | (go_simp; done) | (go_simp; with_reducible rfl)
    try simp only [Act.put, List.setIfInBounds_toArray, List.set_cons_zero, List.set_cons_succ]
    refine wpAnyH_ready (rs := [5, 12, 13]) (by kernel_rfl) (by simp) ?_
    refine (AllReadyH.cons (o := { dst := some 23, op := Op.call { callee := Callee.value (Operand.func 39), args := #[Operand.tmp 19, Operand.tmp 22], argTypes := #[28, 25] }, type := 28, pos := "window.go:30", after := #[{ on := 1, ground := Ground.data }, { on := 4, ground := Ground.data }], guard := none }) rfl (fun K hK => ?_) (AllReadyH.cons (o := { dst := some 3, op := Op.alloc 28, type := 0, pos := "window.go:30", after := #[], guard := none }) rfl (fun K hK => ?_) (AllReadyH.cons (o := { dst := some 4, op := Op.alloc 28, type := 0, pos := "window.go:30", after := #[], guard := none }) rfl (fun K hK => ?_) AllReadyH.nil)))
    · go_simp
      go_at_call 39
      with_reducible refine (below_j HB.out List.mem_cons_self hJ (by omega) u1 HV1.out).mono ?_
      rintro e wb ⟨A9, n9, c9, rfl, hJ9⟩
      clear hJ
      have hJ := hJ9
      clear hJ9
      go_wp2_with fail
      clear hHeld
      refine hK.out _ _ ⟨hJ.oldi hc0, hJ.oldi hc1, hJ.oldi hc2⟩ (fun hHeld => ?_)
      clear hK K
      try simp only [Act.put, List.setIfInBounds_toArray, List.set_cons_zero, List.set_cons_succ]
      refine wpAnyH_ready (rs := [9, 12, 13]) (by kernel_rfl) (by simp) ?_
      refine (AllReadyH.cons (o := { dst := some 27, op := Op.call { callee := Callee.value (Operand.func 25), args := #[Operand.tmp 26], argTypes := #[30] }, type := 25, pos := "window.go:30", after := #[{ on := 8, ground := Ground.data }, { on := 5, ground := Ground.chain }], guard := none }) rfl (fun K hK => ?_) (AllReadyH.cons (o := { dst := some 3, op := Op.alloc 28, type := 0, pos := "window.go:30", after := #[], guard := none }) rfl (fun K hK => ?_) (AllReadyH.cons (o := { dst := some 4, op := Op.alloc 28, type := 0, pos := "window.go:30", after := #[], guard := none }) rfl (fun K hK => ?_) AllReadyH.nil)))
      · go_simp
        go_at_call 25
        with_reducible refine (limit_b _ A n c W b HLIM.out).mono ?_
        rintro e wl ⟨rfl, hbl⟩
        replace hJ := hJ.next hbl
        clear hbl
        go_wp2_with fail
        clear hHeld
        refine hK.out _ _ ⟨hJ.oldi hc0, hJ.oldi hc1, hJ.oldi hc2⟩ (fun hHeld => ?_)
        clear hK K
        try simp only [Act.put, List.setIfInBounds_toArray, List.set_cons_zero, List.set_cons_succ]
        refine wpAnyH_take (i := 10) (oi := { dst := some 28, op := Op.binOp BinOp.add 25 (Operand.tmp 27) (Operand.const (Value.int IntKind.u64 1)) 25, type := 25, pos := "window.go:30", after := #[{ on := 9, ground := Ground.data }], guard := none }) (v := ?_) rfl (by kernel_rfl) (by kernel_rfl) (by kernel_rfl) (fun _ _ _ h => h) (Or.inl ⟨by rfl, ?_⟩) (by assumption) ?_
        rotate_left
        · intro w hSw; (try dsimp only at hSw); first | (go_simp; done) | (go_simp; with_reducible rfl)
        try simp only [Act.put, List.setIfInBounds_toArray, List.set_cons_zero, List.set_cons_succ]
        refine wpAnyH_ready (rs := [11, 12, 13]) (by kernel_rfl) (by simp) ?_
        refine (AllReadyH.cons (o := { dst := some 29, op := Op.call { callee := Callee.value (Operand.func 40), args := #[Operand.tmp 25, Operand.tmp 28], argTypes := #[28, 25] }, type := 28, pos := "window.go:30", after := #[{ on := 7, ground := Ground.data }, { on := 10, ground := Ground.data }, { on := 9, ground := Ground.chain }], guard := none }) rfl (fun K hK => ?_) (AllReadyH.cons (o := { dst := some 3, op := Op.alloc 28, type := 0, pos := "window.go:30", after := #[], guard := none }) rfl (fun K hK => ?_) (AllReadyH.cons (o := { dst := some 4, op := Op.alloc 28, type := 0, pos := "window.go:30", after := #[], guard := none }) rfl (fun K hK => ?_) AllReadyH.nil)))
        · go_simp
          go_at_call 40
          with_reducible refine (from_j HB.out List.mem_cons_self hJ (by omega) u2 HV2.out).mono ?_
          rintro e wf ⟨A10, n10, c10, rfl, hJ9⟩
          clear hJ
          have hJ := hJ9
          clear hJ9
          go_wp2_with fail
          clear hHeld
          refine hK.out _ _ ⟨hJ.oldi hc0, hJ.oldi hc1, hJ.oldi hc2⟩ (fun hHeld => ?_)
          clear hK K
          try simp only [Act.put, List.setIfInBounds_toArray, List.set_cons_zero, List.set_cons_succ]
          refine wpAnyH_ready (rs := [12, 13]) (by kernel_rfl) (by simp) ?_
          refine (AllReadyH.cons (o := { dst := some 3, op := Op.alloc 28, type := 0, pos := "window.go:30", after := #[], guard := none }) rfl (fun K hK => ?_) (AllReadyH.cons (o := { dst := some 4, op := Op.alloc 28, type := 0, pos := "window.go:30", after := #[], guard := none }) rfl (fun K hK => ?_) AllReadyH.nil))
          · go_simp
            refine abs_K (Q := J2 w8 _ _ _) hJ.alloc1 ?_
            clear hJ
            intro wa hJ
            go_wp2_with fail
            clear hHeld
            refine hK.out _ _ ⟨hJ.oldi hc0, hJ.oldi hc1, hJ.oldi hc2⟩ (fun hHeld => ?_)
            clear hK K
            try simp only [Act.put, List.setIfInBounds_toArray, List.set_cons_zero, List.set_cons_succ]
            refine wpAnyH_ready (rs := [13]) (by kernel_rfl) (by simp) ?_
            refine (AllReadyH.cons (o := { dst := some 4, op := Op.alloc 28, type := 0, pos := "window.go:30", after := #[], guard := none }) rfl (fun K hK => ?_) AllReadyH.nil)
            go_simp
            refine abs_K (Q := J2 w8 _ _ _) hJ.alloc2 ?_
            clear hJ
            intro wa hJ
            go_wp2_with fail
            clear hHeld
            refine hK.out _ _ ⟨hJ.oldi hc0, hJ.oldi hc1, hJ.oldi hc2⟩ (fun hHeld => ?_)
            clear hK K
            try simp only [Act.put, List.setIfInBounds_toArray, List.set_cons_zero, List.set_cons_succ]
            refine wpAnyH_ready (rs := [14]) (by kernel_rfl) (by simp) ?_
            refine (AllReadyH.cons (o := { dst := none, op := Op.store 28 (Operand.tmp 3) (Operand.tmp 23), type := 0, pos := "window.go:30", after := #[{ on := 12, ground := Ground.data }, { on := 5, ground := Ground.data }, { on := 11, ground := Ground.chain }, { on := 0, ground := Ground.phase }, { on := 1, ground := Ground.phase }, { on := 2, ground := Ground.phase }, { on := 3, ground := Ground.phase }, { on := 4, ground := Ground.phase }, { on := 5, ground := Ground.phase }, { on := 6, ground := Ground.textOnly Departure.lateStores }, { on := 7, ground := Ground.textOnly Departure.lateStores }, { on := 8, ground := Ground.textOnly Departure.lateStores }, { on := 9, ground := Ground.textOnly Departure.lateStoresUnsure }, { on := 10, ground := Ground.textOnly Departure.lateStores }, { on := 11, ground := Ground.textOnly Departure.lateStoresUnsure }, { on := 12, ground := Ground.phase }, { on := 13, ground := Ground.phase }], guard := none }) rfl (fun K hK => ?_) AllReadyH.nil)
            have hcx := hJ.cell1
            have hfx := hJ.frz1
            try simp only [drew_size'] at hcx hfx
            go_simp
            refine abs_K (Q := J2 w8 _ _ _) (hJ.store1 _) ?_
            clear hJ hcx hfx
            intro wa hJ
            go_wp2_with fail
            clear hHeld
            refine hK.out _ _ ⟨hJ.oldi hc0, hJ.oldi hc1, hJ.oldi hc2⟩ (fun hHeld => ?_)
            clear hK K
            try simp only [Act.put, List.setIfInBounds_toArray, List.set_cons_zero, List.set_cons_succ]
            refine wpAnyH_ready (rs := [15]) (by kernel_rfl) (by simp) ?_
            refine (AllReadyH.cons (o := { dst := none, op := Op.store 28 (Operand.tmp 4) (Operand.tmp 29), type := 0, pos := "window.go:30", after := #[{ on := 13, ground := Ground.data }, { on := 11, ground := Ground.data }, { on := 14, ground := Ground.chain }, { on := 0, ground := Ground.phase }, { on := 1, ground := Ground.phase }, { on := 2, ground := Ground.phase }, { on := 3, ground := Ground.phase }, { on := 4, ground := Ground.phase }, { on := 5, ground := Ground.phase }, { on := 6, ground := Ground.phase }, { on := 7, ground := Ground.phase }, { on := 8, ground := Ground.phase }, { on := 9, ground := Ground.phase }, { on := 10, ground := Ground.phase }, { on := 11, ground := Ground.phase }, { on := 12, ground := Ground.phase }, { on := 13, ground := Ground.phase }, { on := 14, ground := Ground.phase }], guard := none }) rfl (fun K hK => ?_) AllReadyH.nil)
            have hcx := hJ.cell2
            have hfx := hJ.frz2
            try simp only [drew_size'] at hcx hfx
            go_simp
            refine abs_K (Q := J2 w8 _ _ _) (hJ.store2 _) ?_
            clear hJ hcx hfx
            intro wa hJ
            go_wp2_with fail
            clear hHeld
            refine hK.out _ _ ⟨hJ.oldi hc0, hJ.oldi hc1, hJ.oldi hc2⟩ (fun hHeld => ?_)
            clear hK K
            try simp only [Act.put, List.setIfInBounds_toArray, List.set_cons_zero, List.set_cons_succ]
            refine wpAnyH_done (by kernel_rfl) ?_ _
            refine NoPanic.normal ?_
            clear hHeld
            go_wp2_with fail
            go_meet
            exact ⟨_, _, _, _, _, _, _, _, rfl, rfl, hJ.bun HB.out⟩
          · go_simp
            refine abs_K (Q := J2 w8 _ _ _) hJ.alloc2 ?_
            clear hJ
            intro wa hJ
            go_wp2_with fail
            clear hHeld
            refine hK.out _ _ ⟨hJ.oldi hc0, hJ.oldi hc1, hJ.oldi hc2⟩ (fun hHeld => ?_)
            clear hK K
            try simp only [Act.put, List.setIfInBounds_toArray, List.set_cons_zero, List.set_cons_succ]
            refine wpAnyH_ready (rs := [12]) (by kernel_rfl) (by simp) ?_
            refine (AllReadyH.cons (o := { dst := some 3, op := Op.alloc 28, type := 0, pos := "window.go:30", after := #[], guard := none }) rfl (fun K hK => ?_) AllReadyH.nil)
            go_simp
            refine abs_K (Q := J2 w8 _ _ _) hJ.alloc1 ?_
            clear hJ
            intro wa hJ
            go_wp2_with fail
            clear hHeld
            refine hK.out _ _ ⟨hJ.oldi hc0, hJ.oldi hc1, hJ.oldi hc2⟩ (fun hHeld => ?_)
            clear hK K
            try simp only [Act.put, List.setIfInBounds_toArray, List.set_cons_zero, List.set_cons_succ]
            refine wpAnyH_ready (rs := [14]) (by kernel_rfl) (by simp) ?_
            refine (AllReadyH.cons (o := { dst := none, op := Op.store 28 (Operand.tmp 3) (Operand.tmp 23), type := 0, pos := "window.go:30", after := #[{ on := 12, ground := Ground.data }, { on := 5, ground := Ground.data }, { on := 11, ground := Ground.chain }, { on := 0, ground := Ground.phase }, { on := 1, ground := Ground.phase }, { on := 2, ground := Ground.phase }, { on := 3, ground := Ground.phase }, { on := 4, ground := Ground.phase }, { on := 5, ground := Ground.phase }, { on := 6, ground := Ground.textOnly Departure.lateStores }, { on := 7, ground := Ground.textOnly Departure.lateStores }, { on := 8, ground := Ground.textOnly Departure.lateStores }, { on := 9, ground := Ground.textOnly Departure.lateStoresUnsure }, { on := 10, ground := Ground.textOnly Departure.lateStores }, { on := 11, ground := Ground.textOnly Departure.lateStoresUnsure }, { on := 12, ground := Ground.phase }, { on := 13, ground := Ground.phase }], guard := none }) rfl (fun K hK => ?_) AllReadyH.nil)
            have hcx := hJ.cell1
            have hfx := hJ.frz1
            try simp only [drew_size'] at hcx hfx
            go_simp
            refine abs_K (Q := J2 w8 _ _ _) (hJ.store1 _) ?_
            clear hJ hcx hfx
            intro wa hJ
            go_wp2_with fail
            clear hHeld
            refine hK.out _ _ ⟨hJ.oldi hc0, hJ.oldi hc1, hJ.oldi hc2⟩ (fun hHeld => ?_)
            clear hK K
            try simp only [Act.put, List.setIfInBounds_toArray, List.set_cons_zero, List.set_cons_succ]
            refine wpAnyH_ready (rs := [15]) (by kernel_rfl) (by simp) ?_
            refine (AllReadyH.cons (o := { dst := none, op := Op.store 28 (Operand.tmp 4) (Operand.tmp 29), type := 0, pos := "window.go:30", after := #[{ on := 13, ground := Ground.data }, { on := 11, ground := Ground.data }, { on := 14, ground := Ground.chain }, { on := 0, ground := Ground.phase }, { on := 1, ground := Ground.phase }, { on := 2, ground := Ground.phase }, { on := 3, ground := Ground.phase }, { on := 4, ground := Ground.phase }, { on := 5, ground := Ground.phase }, { on := 6, ground := Ground.phase }, { on := 7, ground := Ground.phase }, { on := 8, ground := Ground.phase }, { on := 9, ground := Ground.phase }, { on := 10, ground := Ground.phase }, { on := 11, ground := Ground.phase }, { on := 12, ground := Ground.phase }, { on := 13, ground := Ground.phase }, { on := 14, ground := Ground.phase }], guard := none }) rfl (fun K hK => ?_) AllReadyH.nil)
            have hcx := hJ.cell2
            have hfx := hJ.frz2
            try simp only [drew_size'] at hcx hfx
            go_simp
            refine abs_K (Q := J2 w8 _ _ _) (hJ.store2 _) ?_
            clear hJ hcx hfx
            intro wa hJ
            go_wp2_with fail
            clear hHeld
            refine hK.out _ _ ⟨hJ.oldi hc0, hJ.oldi hc1, hJ.oldi hc2⟩ (fun hHeld => ?_)
            clear hK K
            try simp only [Act.put, List.setIfInBounds_toArray, List.set_cons_zero, List.set_cons_succ]
            refine wpAnyH_done (by kernel_rfl) ?_ _
            refine NoPanic.normal ?_
            clear hHeld
            go_wp2_with fail
            go_meet
            exact ⟨_, _, _, _, _, _, _, _, rfl, rfl, hJ.bun HB.out⟩
        · go_simp
          refine abs_K (Q := J2 w8 _ _ _) hJ.alloc1 ?_
          clear hJ
          intro wa hJ
          go_wp2_with fail
          clear hHeld
          refine hK.out _ _ ⟨hJ.oldi hc0, hJ.oldi hc1, hJ.oldi hc2⟩ (fun hHeld => ?_)
          clear hK K
          try simp only [Act.put, List.setIfInBounds_toArray, List.set_cons_zero, List.set_cons_succ]
          refine wpAnyH_ready (rs := [11, 13]) (by kernel_rfl) (by simp) ?_
          refine (AllReadyH.cons (o := { dst := some 29, op := Op.call { callee := Callee.value (Operand.func 40), args := #[Operand.tmp 25, Operand.tmp 28], argTypes := #[28, 25] }, type := 28, pos := "window.go:30", after := #[{ on := 7, ground := Ground.data }, { on := 10, ground := Ground.data }, { on := 9, ground := Ground.chain }], guard := none }) rfl (fun K hK => ?_) (AllReadyH.cons (o := { dst := some 4, op := Op.alloc 28, type := 0, pos := "window.go:30", after := #[], guard := none }) rfl (fun K hK => ?_) AllReadyH.nil))
          · go_simp
            go_at_call 40
            with_reducible refine (from_j HB.out List.mem_cons_self hJ (by omega) u2 HV2.out).mono ?_
            rintro e wf ⟨A10, n10, c10, rfl, hJ9⟩
            clear hJ
            have hJ := hJ9
            clear hJ9
            go_wp2_with fail
            clear hHeld
            refine hK.out _ _ ⟨hJ.oldi hc0, hJ.oldi hc1, hJ.oldi hc2⟩ (fun hHeld => ?_)
            clear hK K
            try simp only [Act.put, List.setIfInBounds_toArray, List.set_cons_zero, List.set_cons_succ]
            refine wpAnyH_ready (rs := [13]) (by kernel_rfl) (by simp) ?_
            refine (AllReadyH.cons (o := { dst := some 4, op := Op.alloc 28, type := 0, pos := "window.go:30", after := #[], guard := none }) rfl (fun K hK => ?_) AllReadyH.nil)
            go_simp
            refine abs_K (Q := J2 w8 _ _ _) hJ.alloc2 ?_
            clear hJ
            intro wa hJ
            go_wp2_with fail
            clear hHeld
            refine hK.out _ _ ⟨hJ.oldi hc0, hJ.oldi hc1, hJ.oldi hc2⟩ (fun hHeld => ?_)
            clear hK K
            try simp only [Act.put, List.setIfInBounds_toArray, List.set_cons_zero, List.set_cons_succ]
            refine wpAnyH_ready (rs := [14]) (by kernel_rfl) (by simp) ?_
            refine (AllReadyH.cons (o := { dst := none, op := Op.store 28 (Operand.tmp 3) (Operand.tmp 23), type := 0, pos := "window.go:30", after := #[{ on := 12, ground := Ground.data }, { on := 5, ground := Ground.data }, { on := 11, ground := Ground.chain }, { on := 0, ground := Ground.phase }, { on := 1, ground := Ground.phase }, { on := 2, ground := Ground.phase }, { on := 3, ground := Ground.phase }, { on := 4, ground := Ground.phase }, { on := 5, ground := Ground.phase }, { on := 6, ground := Ground.textOnly Departure.lateStores }, { on := 7, ground := Ground.textOnly Departure.lateStores }, { on := 8, ground := Ground.textOnly Departure.lateStores }, { on := 9, ground := Ground.textOnly Departure.lateStoresUnsure }, { on := 10, ground := Ground.textOnly Departure.lateStores }, { on := 11, ground := Ground.textOnly Departure.lateStoresUnsure }, { on := 12, ground := Ground.phase }, { on := 13, ground := Ground.phase }], guard := none }) rfl (fun K hK => ?_) AllReadyH.nil)
            have hcx := hJ.cell1
            have hfx := hJ.frz1
            try simp only [drew_size'] at hcx hfx
            go_simp
            refine abs_K (Q := J2 w8 _ _ _) (hJ.store1 _) ?_
            clear hJ hcx hfx
            intro wa hJ
            go_wp2_with fail
            clear hHeld
            refine hK.out _ _ ⟨hJ.oldi hc0, hJ.oldi hc1, hJ.oldi hc2⟩ (fun hHeld => ?_)
            clear hK K
            try simp only [Act.put, List.setIfInBounds_toArray, List.set_cons_zero, List.set_cons_succ]
            refine wpAnyH_ready (rs := [15]) (by kernel_rfl) (by simp) ?_
            refine (AllReadyH.cons (o := { dst := none, op := Op.store 28 (Operand.tmp 4) (Operand.tmp 29), type := 0, pos := "window.go:30", after := #[{ on := 13, ground := Ground.data }, { on := 11, ground := Ground.data }, { on := 14, ground := Ground.chain }, { on := 0, ground := Ground.phase }, { on := 1, ground := Ground.phase }, { on := 2, ground := Ground.phase }, { on := 3, ground := Ground.phase }, { on := 4, ground := Ground.phase }, { on := 5, ground := Ground.phase }, { on := 6, ground := Ground.phase }, { on := 7, ground := Ground.phase }, { on := 8, ground := Ground.phase }, { on := 9, ground := Ground.phase }, { on := 10, ground := Ground.phase }, { on := 11, ground := Ground.phase }, { on := 12, ground := Ground.phase }, { on := 13, ground := Ground.phase }, { on := 14, ground := Ground.phase }], guard := none }) rfl (fun K hK => ?_) AllReadyH.nil)
            have hcx := hJ.cell2
            have hfx := hJ.frz2
            try simp only [drew_size'] at hcx hfx
            go_simp
            refine abs_K (Q := J2 w8 _ _ _) (hJ.store2 _) ?_
            clear hJ hcx hfx
            intro wa hJ
            go_wp2_with fail
            clear hHeld
            refine hK.out _ _ ⟨hJ.oldi hc0, hJ.oldi hc1, hJ.oldi hc2⟩ (fun hHeld => ?_)
            clear hK K
            try simp only [Act.put, List.setIfInBounds_toArray, List.set_cons_zero, List.set_cons_succ]
            refine wpAnyH_done (by kernel_rfl) ?_ _
            refine NoPanic.normal ?_
            clear hHeld
            go_wp2_with fail
            go_meet
            exact ⟨_, _, _, _, _, _, _, _, rfl, rfl, hJ.bun HB.out⟩
          · go_simp
            refine abs_K (Q := J2 w8 _ _ _) hJ.alloc2 ?_
            clear hJ
            intro wa hJ
            go_wp2_with fail
            clear hHeld
            refine hK.out _ _ ⟨hJ.oldi hc0, hJ.oldi hc1, hJ.oldi hc2⟩ (fun hHeld => ?_)
            clear hK K
            try simp only [Act.put, List.setIfInBounds_toArray, List.set_cons_zero, List.set_cons_succ]
            refine wpAnyH_ready (rs := [11]) (by kernel_rfl) (by simp) ?_
            refine (AllReadyH.cons (o := { dst := some 29, op := Op.call { callee := Callee.value (Operand.func 40), args := #[Operand.tmp 25, Operand.tmp 28], argTypes := #[28, 25] }, type := 28, pos := "window.go:30", after := #[{ on := 7, ground := Ground.data }, { on := 10, ground := Ground.data }, { on := 9, ground := Ground.chain }], guard := none }) rfl (fun K hK => ?_) AllReadyH.nil)
            go_simp
            go_at_call 40
            with_reducible refine (from_j HB.out List.mem_cons_self hJ (by omega) u2 HV2.out).mono ?_
            rintro e wf ⟨A10, n10, c10, rfl, hJ9⟩
            clear hJ
            have hJ := hJ9
            clear hJ9
            go_wp2_with fail
            clear hHeld
            refine hK.out _ _ ⟨hJ.oldi hc0, hJ.oldi hc1, hJ.oldi hc2⟩ (fun hHeld => ?_)
            clear hK K
            try simp only [Act.put, List.setIfInBounds_toArray, List.set_cons_zero, List.set_cons_succ]
            refine wpAnyH_ready (rs := [14]) (by kernel_rfl) (by simp) ?_
            refine (AllReadyH.cons (o := { dst := none, op := Op.store 28 (Operand.tmp 3) (Operand.tmp 23), type := 0, pos := "window.go:30", after := #[{ on := 12, ground := Ground.data }, { on := 5, ground := Ground.data }, { on := 11, ground := Ground.chain }, { on := 0, ground := Ground.phase }, { on := 1, ground := Ground.phase }, { on := 2, ground := Ground.phase }, { on := 3, ground := Ground.phase }, { on := 4, ground := Ground.phase }, { on := 5, ground := Ground.phase }, { on := 6, ground := Ground.textOnly Departure.lateStores }, { on := 7, ground := Ground.textOnly Departure.lateStores }, { on := 8, ground := Ground.textOnly Departure.lateStores }, { on := 9, ground := Ground.textOnly Departure.lateStoresUnsure }, { on := 10, ground := Ground.textOnly Departure.lateStores }, { on := 11, ground := Ground.textOnly Departure.lateStoresUnsure }, { on := 12, ground := Ground.phase }, { on := 13, ground := Ground.phase }], guard := none }) rfl (fun K hK => ?_) AllReadyH.nil)
            have hcx := hJ.cell1
            have hfx := hJ.frz1
            try simp only [drew_size'] at hcx hfx
            go_simp
            refine abs_K (Q := J2 w8 _ _ _) (hJ.store1 _) ?_
            clear hJ hcx hfx
            intro wa hJ
            go_wp2_with fail
            clear hHeld
            refine hK.out _ _ ⟨hJ.oldi hc0, hJ.oldi hc1, hJ.oldi hc2⟩ (fun hHeld => ?_)
            clear hK K
            try simp only [Act.put, List.setIfInBounds_toArray, List.set_cons_zero, List.set_cons_succ]
            refine wpAnyH_ready (rs := [15]) (by kernel_rfl) (by simp) ?_
            refine (AllReadyH.cons (o := { dst := none, op := Op.store 28 (Operand.tmp 4) (Operand.tmp 29), type := 0, pos := "window.go:30", after := #[{ on := 13, ground := Ground.data }, { on := 11, ground := Ground.data }, { on := 14, ground := Ground.chain }, { on := 0, ground := Ground.phase }, { on := 1, ground := Ground.phase }, { on := 2, ground := Ground.phase }, { on := 3, ground := Ground.phase }, { on := 4, ground := Ground.phase }, { on := 5, ground := Ground.phase }, { on := 6, ground := Ground.phase }, { on := 7, ground := Ground.phase }, { on := 8, ground := Ground.phase }, { on := 9, ground := Ground.phase }, { on := 10, ground := Ground.phase }, { on := 11, ground := Ground.phase }, { on := 12, ground := Ground.phase }, { on := 13, ground := Ground.phase }, { on := 14, ground := Ground.phase }], guard := none }) rfl (fun K hK => ?_) AllReadyH.nil)
            have hcx := hJ.cell2
            have hfx := hJ.frz2
            try simp only [drew_size'] at hcx hfx
            go_simp
            refine abs_K (Q := J2 w8 _ _ _) (hJ.store2 _) ?_
            clear hJ hcx hfx
            intro wa hJ
            go_wp2_with fail
            clear hHeld
            refine hK.out _ _ ⟨hJ.oldi hc0, hJ.oldi hc1, hJ.oldi hc2⟩ (fun hHeld => ?_)
            clear hK K
            try simp only [Act.put, List.setIfInBounds_toArray, List.set_cons_zero, List.set_cons_succ]
            refine wpAnyH_done (by kernel_rfl) ?_ _
            refine NoPanic.normal ?_
            clear hHeld
            go_wp2_with fail
            go_meet
            exact ⟨_, _, _, _, _, _, _, _, rfl, rfl, hJ.bun HB.out⟩
        · go_simp
          refine abs_K (Q := J2 w8 _ _ _) hJ.alloc2 ?_
          clear hJ
          intro wa hJ
          go_wp2_with fail
          clear hHeld
          refine hK.out _ _ ⟨hJ.oldi hc0, hJ.oldi hc1, hJ.oldi hc2⟩ (fun hHeld => ?_)
          clear hK K
          try simp only [Act.put, List.setIfInBounds_toArray, List.set_cons_zero, List.set_cons_succ]
          refine wpAnyH_ready (rs := [11, 12]) (by kernel_rfl) (by simp) ?_
          refine (AllReadyH.cons (o := { dst := some 29, op := Op.call { callee := Callee.value (Operand.func 40), args := #[Operand.tmp 25, Operand.tmp 28], argTypes := #[28, 25] }, type := 28, pos := "window.go:30", after := #[{ on := 7, ground := Ground.data }, { on := 10, ground := Ground.data }, { on := 9, ground := Ground.chain }], guard := none }) rfl (fun K hK => ?_) (AllReadyH.cons (o := { dst := some 3, op := Op.alloc 28, type := 0, pos := "window.go:30", after := #[], guard := none }) rfl (fun K hK => ?_) AllReadyH.nil))
          · go_simp
            go_at_call 40
            with_reducible refine (from_j HB.out List.mem_cons_self hJ (by omega) u2 HV2.out).mono ?_
            rintro e wf ⟨A10, n10, c10, rfl, hJ9⟩
            clear hJ
            have hJ := hJ9
            clear hJ9
            go_wp2_with fail
            clear hHeld
            refine hK.out _ _ ⟨hJ.oldi hc0, hJ.oldi hc1, hJ.oldi hc2⟩ (fun hHeld => ?_)
            clear hK K
            try simp only [Act.put, List.setIfInBounds_toArray, List.set_cons_zero, List.set_cons_succ]
            refine wpAnyH_ready (rs := [12]) (by kernel_rfl) (by simp) ?_
            refine (AllReadyH.cons (o := { dst := some 3, op := Op.alloc 28, type := 0, pos := "window.go:30", after := #[], guard := none }) rfl (fun K hK => ?_) AllReadyH.nil)
            go_simp
            refine abs_K (Q := J2 w8 _ _ _) hJ.alloc1 ?_
            clear hJ
            intro wa hJ
            go_wp2_with fail
            clear hHeld
            refine hK.out _ _ ⟨hJ.oldi hc0, hJ.oldi hc1, hJ.oldi hc2⟩ (fun hHeld => ?_)
            clear hK K
            try simp only [Act.put, List.setIfInBounds_toArray, List.set_cons_zero, List.set_cons_succ]
            refine wpAnyH_ready (rs := [14]) (by kernel_rfl) (by simp) ?_
            refine (AllReadyH.cons (o := { dst := none, op := Op.store 28 (Operand.tmp 3) (Operand.tmp 23), type := 0, pos := "window.go:30", after := #[{ on := 12, ground := Ground.data }, { on := 5, ground := Ground.data }, { on := 11, ground := Ground.chain }, { on := 0, ground := Ground.phase }, { on := 1, ground := Ground.phase }, { on := 2, ground := Ground.phase }, { on := 3, ground := Ground.phase }, { on := 4, ground := Ground.phase }, { on := 5, ground := Ground.phase }, { on := 6, ground := Ground.textOnly Departure.lateStores }, { on := 7, ground := Ground.textOnly Departure.lateStores }, { on := 8, ground := Ground.textOnly Departure.lateStores }, { on := 9, ground := Ground.textOnly Departure.lateStoresUnsure }, { on := 10, ground := Ground.textOnly Departure.lateStores }, { on := 11, ground := Ground.textOnly Departure.lateStoresUnsure }, { on := 12, ground := Ground.phase }, { on := 13, ground := Ground.phase }], guard := none }) rfl (fun K hK => ?_) AllReadyH.nil)
            have hcx := hJ.cell1
            have hfx := hJ.frz1
            try simp only [drew_size'] at hcx hfx
            go_simp
            refine abs_K (Q := J2 w8 _ _ _) (hJ.store1 _) ?_
            clear hJ hcx hfx
            intro wa hJ
            go_wp2_with fail
            clear hHeld
            refine hK.out _ _ ⟨hJ.oldi hc0, hJ.oldi hc1, hJ.oldi hc2⟩ (fun hHeld => ?_)
            clear hK K
            try simp only [Act.put, List.setIfInBounds_toArray, List.set_cons_zero, List.set_cons_succ]
            refine wpAnyH_ready (rs := [15]) (by kernel_rfl) (by simp) ?_
            refine (AllReadyH.cons (o := { dst := none, op := Op.store 28 (Operand.tmp 4) (Operand.tmp 29), type := 0, pos := "window.go:30", after := #[{ on := 13, ground := Ground.data }, { on := 11, ground := Ground.data }, { on := 14, ground := Ground.chain }, { on := 0, ground := Ground.phase }, { on := 1, ground := Ground.phase }, { on := 2, ground := Ground.phase }, { on := 3, ground := Ground.phase }, { on := 4, ground := Ground.phase }, { on := 5, ground := Ground.phase }, { on := 6, ground := Ground.phase }, { on := 7, ground := Ground.phase }, { on := 8, ground := Ground.phase }, { on := 9, ground := Ground.phase }, { on := 10, ground := Ground.phase }, { on := 11, ground := Ground.phase }, { on := 12, ground := Ground.phase }, { on := 13, ground := Ground.phase }, { on := 14, ground := Ground.phase }], guard := none }) rfl (fun K hK => ?_) AllReadyH.nil)
            have hcx := hJ.cell2
            have hfx := hJ.frz2
            try simp only [drew_size'] at hcx hfx
            go_simp
            refine abs_K (Q := J2 w8 _ _ _) (hJ.store2 _) ?_
            clear hJ hcx hfx
            intro wa hJ
            go_wp2_with fail
            clear hHeld
            refine hK.out _ _ ⟨hJ.oldi hc0, hJ.oldi hc1, hJ.oldi hc2⟩ (fun hHeld => ?_)
            clear hK K
            try simp only [Act.put, List.setIfInBounds_toArray, List.set_cons_zero, List.set_cons_succ]
            refine wpAnyH_done (by kernel_rfl) ?_ _
            refine NoPanic.normal ?_
            clear hHeld
            go_wp2_with fail
            go_meet
            exact ⟨_, _, _, _, _, _, _, _, rfl, rfl, hJ.bun HB.out⟩
          · go_simp
            refine abs_K (Q := J2 w8 _ _ _) hJ.alloc1 ?_
            clear hJ
            intro wa hJ
            go_wp2_with fail
            clear hHeld
            refine hK.out _ _ ⟨hJ.oldi hc0, hJ.oldi hc1, hJ.oldi hc2⟩ (fun hHeld => ?_)
            clear hK K
            try simp only [Act.put, List.setIfInBounds_toArray, List.set_cons_zero, List.set_cons_succ]
            refine wpAnyH_ready (rs := [11]) (by kernel_rfl) (by simp) ?_
            refine (AllReadyH.cons (o := { dst := some 29, op := Op.call { callee := Callee.value (Operand.func 40), args := #[Operand.tmp 25, Operand.tmp 28], argTypes := #[28, 25] }, type := 28, pos := "window.go:30", after := #[{ on := 7, ground := Ground.data }, { on := 10, ground := Ground.data }, { on := 9, ground := Ground.chain }], guard := none }) rfl (fun K hK => ?_) AllReadyH.nil)
            go_simp
            go_at_call 40
            with_reducible refine (from_j HB.out List.mem_cons_self hJ (by omega) u2 HV2.out).mono ?_
            rintro e wf ⟨A10, n10, c10, rfl, hJ9⟩
            clear hJ
            have hJ := hJ9
            clear hJ9
            go_wp2_with fail
            clear hHeld
            refine hK.out _ _ ⟨hJ.oldi hc0, hJ.oldi hc1, hJ.oldi hc2⟩ (fun hHeld => ?_)
            clear hK K
            try simp only [Act.put, List.setIfInBounds_toArray, List.set_cons_zero, List.set_cons_succ]
            refine wpAnyH_ready (rs := [14]) (by kernel_rfl) (by simp) ?_
            refine (AllReadyH.cons (o := { dst := none, op := Op.store 28 (Operand.tmp 3) (Operand.tmp 23), type := 0, pos := "window.go:30", after := #[{ on := 12, ground := Ground.data }, { on := 5, ground := Ground.data }, { on := 11, ground := Ground.chain }, { on := 0, ground := Ground.phase }, { on := 1, ground := Ground.phase }, { on := 2, ground := Ground.phase }, { on := 3, ground := Ground.phase }, { on := 4, ground := Ground.phase }, { on := 5, ground := Ground.phase }, { on := 6, ground := Ground.textOnly Departure.lateStores }, { on := 7, ground := Ground.textOnly Departure.lateStores }, { on := 8, ground := Ground.textOnly Departure.lateStores }, { on := 9, ground := Ground.textOnly Departure.lateStoresUnsure }, { on := 10, ground := Ground.textOnly Departure.lateStores }, { on := 11, ground := Ground.textOnly Departure.lateStoresUnsure }, { on := 12, ground := Ground.phase }, { on := 13, ground := Ground.phase }], guard := none }) rfl (fun K hK => ?_) AllReadyH.nil)
            have hcx := hJ.cell1
            have hfx := hJ.frz1
            try simp only [drew_size'] at hcx hfx
            go_simp
            refine abs_K (Q := J2 w8 _ _ _) (hJ.store1 _) ?_
            clear hJ hcx hfx
            intro wa hJ
            go_wp2_with fail
            clear hHeld
            refine hK.out _ _ ⟨hJ.oldi hc0, hJ.oldi hc1, hJ.oldi hc2⟩ (fun hHeld => ?_)
            clear hK K
            try simp only [Act.put, List.setIfInBounds_toArray, List.set_cons_zero, List.set_cons_succ]
            refine wpAnyH_ready (rs := [15]) (by kernel_rfl) (by simp) ?_
            refine (AllReadyH.cons (o := { dst := none, op := Op.store 28 (Operand.tmp 4) (Operand.tmp 29), type := 0, pos := "window.go:30", after := #[{ on := 13, ground := Ground.data }, { on := 11, ground := Ground.data }, { on := 14, ground := Ground.chain }, { on := 0, ground := Ground.phase }, { on := 1, ground := Ground.phase }, { on := 2, ground := Ground.phase }, { on := 3, ground := Ground.phase }, { on := 4, ground := Ground.phase }, { on := 5, ground := Ground.phase }, { on := 6, ground := Ground.phase }, { on := 7, ground := Ground.phase }, { on := 8, ground := Ground.phase }, { on := 9, ground := Ground.phase }, { on := 10, ground := Ground.phase }, { on := 11, ground := Ground.phase }, { on := 12, ground := Ground.phase }, { on := 13, ground := Ground.phase }, { on := 14, ground := Ground.phase }], guard := none }) rfl (fun K hK => ?_) AllReadyH.nil)
            have hcx := hJ.cell2
            have hfx := hJ.frz2
            try simp only [drew_size'] at hcx hfx
            go_simp
            refine abs_K (Q := J2 w8 _ _ _) (hJ.store2 _) ?_
            clear hJ hcx hfx
            intro wa hJ
            go_wp2_with fail
            clear hHeld
            refine hK.out _ _ ⟨hJ.oldi hc0, hJ.oldi hc1, hJ.oldi hc2⟩ (fun hHeld => ?_)
            clear hK K
            try simp only [Act.put, List.setIfInBounds_toArray, List.set_cons_zero, List.set_cons_succ]
            refine wpAnyH_done (by kernel_rfl) ?_ _
            refine NoPanic.normal ?_
            clear hHeld
            go_wp2_with fail
            go_meet
            exact ⟨_, _, _, _, _, _, _, _, rfl, rfl, hJ.bun HB.out⟩
      · go_simp
        refine abs_K (Q := J2 w8 _ _ _) hJ.alloc1 ?_
        clear hJ
        intro wa hJ
        go_wp2_with fail
        clear hHeld
        refine hK.out _ _ ⟨hJ.oldi hc0, hJ.oldi hc1, hJ.oldi hc2⟩ (fun hHeld => ?_)
        clear hK K
        try simp only [Act.put, List.setIfInBounds_toArray, List.set_cons_zero, List.set_cons_succ]
        refine wpAnyH_ready (rs := [9, 13]) (by kernel_rfl) (by simp) ?_
        refine (AllReadyH.cons (o := { dst := some 27, op := Op.call { callee := Callee.value (Operand.func 25), args := #[Operand.tmp 26], argTypes := #[30] }, type := 25, pos := "window.go:30", after := #[{ on := 8, ground := Ground.data }, { on := 5, ground := Ground.chain }], guard := none }) rfl (fun K hK => ?_) (AllReadyH.cons (o := { dst := some 4, op := Op.alloc 28, type := 0, pos := "window.go:30", after := #[], guard := none }) rfl (fun K hK => ?_) AllReadyH.nil))
        · go_simp
          go_at_call 25
          with_reducible refine (limit_b _ A n c W b HLIM.out).mono ?_
          rintro e wl ⟨rfl, hbl⟩
          replace hJ := hJ.next hbl
          clear hbl
          go_wp2_with fail
          clear hHeld
          refine hK.out _ _ ⟨hJ.oldi hc0, hJ.oldi hc1, hJ.oldi hc2⟩ (fun hHeld => ?_)
          clear hK K
          try simp only [Act.put, List.setIfInBounds_toArray, List.set_cons_zero, List.set_cons_succ]
          refine wpAnyH_take (i := 10) (oi := { dst := some 28, op := Op.binOp BinOp.add 25 (Operand.tmp 27) (Operand.const (Value.int IntKind.u64 1)) 25, type := 25, pos := "window.go:30", after := #[{ on := 9, ground := Ground.data }], guard := none }) (v := ?_) rfl (by kernel_rfl) (by kernel_rfl) (by kernel_rfl) (fun _ _ _ h => h) (Or.inl ⟨by rfl, ?_⟩) (by assumption) ?_
          rotate_left
          · intro w hSw; (try dsimp only at hSw); first | (go_simp; done) | (go_simp; with_reducible rfl)
          try simp only [Act.put, List.setIfInBounds_toArray, List.set_cons_zero, List.set_cons_succ]
          refine wpAnyH_ready (rs := [11, 13]) (by kernel_rfl) (by simp) ?_
          refine (AllReadyH.cons (o := { dst := some 29, op := Op.call { callee := Callee.value (Operand.func 40), args := #[Operand.tmp 25, Operand.tmp 28], argTypes := #[28, 25] }, type := 28, pos := "window.go:30", after := #[{ on := 7, ground := Ground.data }, { on := 10, ground := Ground.data }, { on := 9, ground := Ground.chain }], guard := none }) rfl (fun K hK => ?_) (AllReadyH.cons (o := { dst := some 4, op := Op.alloc 28, type := 0, pos := "window.go:30", after := #[], guard := none }) rfl (fun K hK => ?_) AllReadyH.nil))
          · go_simp
            go_at_call 40
            with_reducible refine (from_j HB.out List.mem_cons_self hJ (by omega) u2 HV2.out).mono ?_
            rintro e wf ⟨A10, n10, c10, rfl, hJ9⟩
            clear hJ
            have hJ := hJ9
            clear hJ9
            go_wp2_with fail
            clear hHeld
            refine hK.out _ _ ⟨hJ.oldi hc0, hJ.oldi hc1, hJ.oldi hc2⟩ (fun hHeld => ?_)
            clear hK K
            try simp only [Act.put, List.setIfInBounds_toArray, List.set_cons_zero, List.set_cons_succ]
            refine wpAnyH_ready (rs := [13]) (by kernel_rfl) (by simp) ?_
            refine (AllReadyH.cons (o := { dst := some 4, op := Op.alloc 28, type := 0, pos := "window.go:30", after := #[], guard := none }) rfl (fun K hK => ?_) AllReadyH.nil)
            go_simp
            refine abs_K (Q := J2 w8 _ _ _) hJ.alloc2 ?_
            clear hJ
            intro wa hJ
            go_wp2_with fail
            clear hHeld
            refine hK.out _ _ ⟨hJ.oldi hc0, hJ.oldi hc1, hJ.oldi hc2⟩ (fun hHeld => ?_)
            clear hK K
            try simp only [Act.put, List.setIfInBounds_toArray, List.set_cons_zero, List.set_cons_succ]
            refine wpAnyH_ready (rs := [14]) (by kernel_rfl) (by simp) ?_
            refine (AllReadyH.cons (o := { dst := none, op := Op.store 28 (Operand.tmp 3) (Operand.tmp 23), type := 0, pos := "window.go:30", after := #[{ on := 12, ground := Ground.data }, { on := 5, ground := Ground.data }, { on := 11, ground := Ground.chain }, { on := 0, ground := Ground.phase }, { on := 1, ground := Ground.phase }, { on := 2, ground := Ground.phase }, { on := 3, ground := Ground.phase }, { on := 4, ground := Ground.phase }, { on := 5, ground := Ground.phase }, { on := 6, ground := Ground.textOnly Departure.lateStores }, { on := 7, ground := Ground.textOnly Departure.lateStores }, { on := 8, ground := Ground.textOnly Departure.lateStores }, { on := 9, ground := Ground.textOnly Departure.lateStoresUnsure }, { on := 10, ground := Ground.textOnly Departure.lateStores }, { on := 11, ground := Ground.textOnly Departure.lateStoresUnsure }, { on := 12, ground := Ground.phase }, { on := 13, ground := Ground.phase }], guard := none }) rfl (fun K hK => ?_) AllReadyH.nil)
            have hcx := hJ.cell1
            have hfx := hJ.frz1
            try simp only [drew_size'] at hcx hfx
            go_simp
            refine abs_K (Q := J2 w8 _ _ _) (hJ.store1 _) ?_
            clear hJ hcx hfx
            intro wa hJ
            go_wp2_with fail
            clear hHeld
            refine hK.out _ _ ⟨hJ.oldi hc0, hJ.oldi hc1, hJ.oldi hc2⟩ (fun hHeld => ?_)
            clear hK K
            try simp only [Act.put, List.setIfInBounds_toArray, List.set_cons_zero, List.set_cons_succ]
            refine wpAnyH_ready (rs := [15]) (by kernel_rfl) (by simp) ?_
            refine (AllReadyH.cons (o := { dst := none, op := Op.store 28 (Operand.tmp 4) (Operand.tmp 29), type := 0, pos := "window.go:30", after := #[{ on := 13, ground := Ground.data }, { on := 11, ground := Ground.data }, { on := 14, ground := Ground.chain }, { on := 0, ground := Ground.phase }, { on := 1, ground := Ground.phase }, { on := 2, ground := Ground.phase }, { on := 3, ground := Ground.phase }, { on := 4, ground := Ground.phase }, { on := 5, ground := Ground.phase }, { on := 6, ground := Ground.phase }, { on := 7, ground := Ground.phase }, { on := 8, ground := Ground.phase }, { on := 9, ground := Ground.phase }, { on := 10, ground := Ground.phase }, { on := 11, ground := Ground.phase }, { on := 12, ground := Ground.phase }, { on := 13, ground := Ground.phase }, { on := 14, ground := Ground.phase }], guard := none }) rfl (fun K hK => ?_) AllReadyH.nil)
            have hcx := hJ.cell2
            have hfx := hJ.frz2
            try simp only [drew_size'] at hcx hfx
            go_simp
            refine abs_K (Q := J2 w8 _ _ _) (hJ.store2 _) ?_
            clear hJ hcx hfx
            intro wa hJ
            go_wp2_with fail
            clear hHeld
            refine hK.out _ _ ⟨hJ.oldi hc0, hJ.oldi hc1, hJ.oldi hc2⟩ (fun hHeld => ?_)
            clear hK K
            try simp only [Act.put, List.setIfInBounds_toArray, List.set_cons_zero, List.set_cons_succ]
            refine wpAnyH_done (by kernel_rfl) ?_ _
            refine NoPanic.normal ?_
            clear hHeld
            go_wp2_with fail
            go_meet
            exact ⟨_, _, _, _, _, _, _, _, rfl, rfl, hJ.bun HB.out⟩
          · go_simp
            refine abs_K (Q := J2 w8 _ _ _) hJ.alloc2 ?_
            clear hJ
            intro wa hJ
            go_wp2_with fail
            clear hHeld
            refine hK.out _ _ ⟨hJ.oldi hc0, hJ.oldi hc1, hJ.oldi hc2⟩ (fun hHeld => ?_)
            clear hK K
            try simp only [Act.put, List.setIfInBounds_toArray, List.set_cons_zero, List.set_cons_succ]
            refine wpAnyH_ready (rs := [11]) (by kernel_rfl) (by simp) ?_
            refine (AllReadyH.cons (o := { dst := some 29, op := Op.call { callee := Callee.value (Operand.func 40), args := #[Operand.tmp 25, Operand.tmp 28], argTypes := #[28, 25] }, type := 28, pos := "window.go:30", after := #[{ on := 7, ground := Ground.data }, { on := 10, ground := Ground.data }, { on := 9, ground := Ground.chain }], guard := none }) rfl (fun K hK => ?_) AllReadyH.nil)
            go_simp
            go_at_call 40
            with_reducible refine (from_j HB.out List.mem_cons_self hJ (by omega) u2 HV2.out).mono ?_
            rintro e wf ⟨A10, n10, c10, rfl, hJ9⟩
            clear hJ
            have hJ := hJ9
            clear hJ9
            go_wp2_with fail
            clear hHeld
            refine hK.out _ _ ⟨hJ.oldi hc0, hJ.oldi hc1, hJ.oldi hc2⟩ (fun hHeld => ?_)
            clear hK K
            try simp only [Act.put, List.setIfInBounds_toArray, List.set_cons_zero, List.set_cons_succ]
            refine wpAnyH_ready (rs := [14]) (by kernel_rfl) (by simp) ?_
            refine (AllReadyH.cons (o := { dst := none, op := Op.store 28 (Operand.tmp 3) (Operand.tmp 23), type := 0, pos := "window.go:30", after := #[{ on := 12, ground := Ground.data }, { on := 5, ground := Ground.data }, { on := 11, ground := Ground.chain }, { on := 0, ground := Ground.phase }, { on := 1, ground := Ground.phase }, { on := 2, ground := Ground.phase }, { on := 3, ground := Ground.phase }, { on := 4, ground := Ground.phase }, { on := 5, ground := Ground.phase }, { on := 6, ground := Ground.textOnly Departure.lateStores }, { on := 7, ground := Ground.textOnly Departure.lateStores }, { on := 8, ground := Ground.textOnly Departure.lateStores }, { on := 9, ground := Ground.textOnly Departure.lateStoresUnsure }, { on := 10, ground := Ground.textOnly Departure.lateStores }, { on := 11, ground := Ground.textOnly Departure.lateStoresUnsure }, { on := 12, ground := Ground.phase }, { on := 13, ground := Ground.phase }], guard := none }) rfl (fun K hK => ?_) AllReadyH.nil)
            have hcx := hJ.cell1
            have hfx := hJ.frz1
            try simp only [drew_size'] at hcx hfx
            go_simp
            refine abs_K (Q := J2 w8 _ _ _) (hJ.store1 _) ?_
            clear hJ hcx hfx
            intro wa hJ
            go_wp2_with fail
            clear hHeld
            refine hK.out _ _ ⟨hJ.oldi hc0, hJ.oldi hc1, hJ.oldi hc2⟩ (fun hHeld => ?_)
            clear hK K
            try simp only [Act.put, List.setIfInBounds_toArray, List.set_cons_zero, List.set_cons_succ]
            refine wpAnyH_ready (rs := [15]) (by kernel_rfl) (by simp) ?_
            refine (AllReadyH.cons (o := { dst := none, op := Op.store 28 (Operand.tmp 4) (Operand.tmp 29), type := 0, pos := "window.go:30", after := #[{ on := 13, ground := Ground.data }, { on := 11, ground := Ground.data }, { on := 14, ground := Ground.chain }, { on := 0, ground := Ground.phase }, { on := 1, ground := Ground.phase }, { on := 2, ground := Ground.phase }, { on := 3, ground := Ground.phase }, { on := 4, ground := Ground.phase }, { on := 5, ground := Ground.phase }, { on := 6, ground := Ground.phase }, { on := 7, ground := Ground.phase }, { on := 8, ground := Ground.phase }, { on := 9, ground := Ground.phase }, { on := 10, ground := Ground.phase }, { on := 11, ground := Ground.phase }, { on := 12, ground := Ground.phase }, { on := 13, ground := Ground.phase }, { on := 14, ground := Ground.phase }], guard := none }) rfl (fun K hK => ?_) AllReadyH.nil)
            have hcx := hJ.cell2
            have hfx := hJ.frz2
            try simp only [drew_size'] at hcx hfx
            go_simp
            refine abs_K (Q := J2 w8 _ _ _) (hJ.store2 _) ?_
            clear hJ hcx hfx
            intro wa hJ
            go_wp2_with fail
            clear hHeld
            refine hK.out _ _ ⟨hJ.oldi hc0, hJ.oldi hc1, hJ.oldi hc2⟩ (fun hHeld => ?_)
            clear hK K
            try simp only [Act.put, List.setIfInBounds_toArray, List.set_cons_zero, List.set_cons_succ]
            refine wpAnyH_done (by kernel_rfl) ?_ _
            refine NoPanic.normal ?_
            clear hHeld
            go_wp2_with fail
            go_meet
            exact ⟨_, _, _, _, _, _, _, _, rfl, rfl, hJ.bun HB.out⟩
        · go_simp
          refine abs_K (Q := J2 w8 _ _ _) hJ.alloc2 ?_
          clear hJ
          intro wa hJ
          go_wp2_with fail
          clear hHeld
          refine hK.out _ _ ⟨hJ.oldi hc0, hJ.oldi hc1, hJ.oldi hc2⟩ (fun hHeld => ?_)
          clear hK K
          try simp only [Act.put, List.setIfInBounds_toArray, List.set_cons_zero, List.set_cons_succ]
          refine wpAnyH_ready (rs := [9]) (by kernel_rfl) (by simp) ?_
          refine (AllReadyH.cons (o := { dst := some 27, op := Op.call { callee := Callee.value (Operand.func 25), args := #[Operand.tmp 26], argTypes := #[30] }, type := 25, pos := "window.go:30", after := #[{ on := 8, ground := Ground.data }, { on := 5, ground := Ground.chain }], guard := none }) rfl (fun K hK => ?_) AllReadyH.nil)
          go_simp
          go_at_call 25
          with_reducible refine (limit_b _ A n c W b HLIM.out).mono ?_
          rintro e wl ⟨rfl, hbl⟩
          replace hJ := hJ.next hbl
          clear hbl
          go_wp2_with fail
          clear hHeld
          refine hK.out _ _ ⟨hJ.oldi hc0, hJ.oldi hc1, hJ.oldi hc2⟩ (fun hHeld => ?_)
          clear hK K
          try simp only [Act.put, List.setIfInBounds_toArray, List.set_cons_zero, List.set_cons_succ]
          refine wpAnyH_take (i := 10) (oi := { dst := some 28, op := Op.binOp BinOp.add 25 (Operand.tmp 27) (Operand.const (Value.int IntKind.u64 1)) 25, type := 25, pos := "window.go:30", after := #[{ on := 9, ground := Ground.data }], guard := none }) (v := ?_) rfl (by kernel_rfl) (by kernel_rfl) (by kernel_rfl) (fun _ _ _ h => h) (Or.inl ⟨by rfl, ?_⟩) (by assumption) ?_
          rotate_left
          · intro w hSw; (try dsimp only at hSw); first | (go_simp; done) | (go_simp; with_reducible rfl)
          try simp only [Act.put, List.setIfInBounds_toArray, List.set_cons_zero, List.set_cons_succ]
          refine wpAnyH_ready (rs := [11]) (by kernel_rfl) (by simp) ?_
          refine (AllReadyH.cons (o := { dst := some 29, op := Op.call { callee := Callee.value (Operand.func 40), args := #[Operand.tmp 25, Operand.tmp 28], argTypes := #[28, 25] }, type := 28, pos := "window.go:30", after := #[{ on := 7, ground := Ground.data }, { on := 10, ground := Ground.data }, { on := 9, ground := Ground.chain }], guard := none }) rfl (fun K hK => ?_) AllReadyH.nil)
          go_simp
          go_at_call 40
          with_reducible refine (from_j HB.out List.mem_cons_self hJ (by omega) u2 HV2.out).mono ?_
          rintro e wf ⟨A10, n10, c10, rfl, hJ9⟩
          clear hJ
          have hJ := hJ9
          clear hJ9
          go_wp2_with fail
          clear hHeld
          refine hK.out _ _ ⟨hJ.oldi hc0, hJ.oldi hc1, hJ.oldi hc2⟩ (fun hHeld => ?_)
          clear hK K
          try simp only [Act.put, List.setIfInBounds_toArray, List.set_cons_zero, List.set_cons_succ]
          refine wpAnyH_ready (rs := [14]) (by kernel_rfl) (by simp) ?_
          refine (AllReadyH.cons (o := { dst := none, op := Op.store 28 (Operand.tmp 3) (Operand.tmp 23), type := 0, pos := "window.go:30", after := #[{ on := 12, ground := Ground.data }, { on := 5, ground := Ground.data }, { on := 11, ground := Ground.chain }, { on := 0, ground := Ground.phase }, { on := 1, ground := Ground.phase }, { on := 2, ground := Ground.phase }, { on := 3, ground := Ground.phase }, { on := 4, ground := Ground.phase }, { on := 5, ground := Ground.phase }, { on := 6, ground := Ground.textOnly Departure.lateStores }, { on := 7, ground := Ground.textOnly Departure.lateStores }, { on := 8, ground := Ground.textOnly Departure.lateStores }, { on := 9, ground := Ground.textOnly Departure.lateStoresUnsure }, { on := 10, ground := Ground.textOnly Departure.lateStores }, { on := 11, ground := Ground.textOnly Departure.lateStoresUnsure }, { on := 12, ground := Ground.phase }, { on := 13, ground := Ground.phase }], guard := none }) rfl (fun K hK => ?_) AllReadyH.nil)
          have hcx := hJ.cell1
          have hfx := hJ.frz1
          try simp only [drew_size'] at hcx hfx
          go_simp
          refine abs_K (Q := J2 w8 _ _ _) (hJ.store1 _) ?_
          clear hJ hcx hfx
          intro wa hJ
          go_wp2_with fail
          clear hHeld
          refine hK.out _ _ ⟨hJ.oldi hc0, hJ.oldi hc1, hJ.oldi hc2⟩ (fun hHeld => ?_)
          clear hK K
          try simp only [Act.put, List.setIfInBounds_toArray, List.set_cons_zero, List.set_cons_succ]
          refine wpAnyH_ready (rs := [15]) (by kernel_rfl) (by simp) ?_
          refine (AllReadyH.cons (o := { dst := none, op := Op.store 28 (Operand.tmp 4) (Operand.tmp 29), type := 0, pos := "window.go:30", after := #[{ on := 13, ground := Ground.data }, { on := 11, ground := Ground.data }, { on := 14, ground := Ground.chain }, { on := 0, ground := Ground.phase }, { on := 1, ground := Ground.phase }, { on := 2, ground := Ground.phase }, { on := 3, ground := Ground.phase }, { on := 4, ground := Ground.phase }, { on := 5, ground := Ground.phase }, { on := 6, ground := Ground.phase }, { on := 7, ground := Ground.phase }, { on := 8, ground := Ground.phase }, { on := 9, ground := Ground.phase }, { on := 10, ground := Ground.phase }, { on := 11, ground := Ground.phase }, { on := 12, ground := Ground.phase }, { on := 13, ground := Ground.phase }, { on := 14, ground := Ground.phase }], guard := none }) rfl (fun K hK => ?_) AllReadyH.nil)
          have hcx := hJ.cell2
          have hfx := hJ.frz2
          try simp only [drew_size'] at hcx hfx
          go_simp
          refine abs_K (Q := J2 w8 _ _ _) (hJ.store2 _) ?_
          clear hJ hcx hfx
          intro wa hJ
          go_wp2_with fail
          clear hHeld
          refine hK.out _ _ ⟨hJ.oldi hc0, hJ.oldi hc1, hJ.oldi hc2⟩ (fun hHeld => ?_)
          clear hK K
          try simp only [Act.put, List.setIfInBounds_toArray, List.set_cons_zero, List.set_cons_succ]
          refine wpAnyH_done (by kernel_rfl) ?_ _
          refine NoPanic.normal ?_
          clear hHeld
          go_wp2_with fail
          go_meet
          exact ⟨_, _, _, _, _, _, _, _, rfl, rfl, hJ.bun HB.out⟩
      · go_simp
        refine abs_K (Q := J2 w8 _ _ _) hJ.alloc2 ?_
        clear hJ
        intro wa hJ
        go_wp2_with fail
        clear hHeld
        refine hK.out _ _ ⟨hJ.oldi hc0, hJ.oldi hc1, hJ.oldi hc2⟩ (fun hHeld => ?_)
        clear hK K
        try simp only [Act.put, List.setIfInBounds_toArray, List.set_cons_zero, List.set_cons_succ]
        refine wpAnyH_ready (rs := [9, 12]) (by kernel_rfl) (by simp) ?_
        refine (AllReadyH.cons (o := { dst := some 27, op := Op.call { callee := Callee.value (Operand.func 25), args := #[Operand.tmp 26], argTypes := #[30] }, type := 25, pos := "window.go:30", after := #[{ on := 8, ground := Ground.data }, { on := 5, ground := Ground.chain }], guard := none }) rfl (fun K hK => ?_) (AllReadyH.cons (o := { dst := some 3, op := Op.alloc 28, type := 0, pos := "window.go:30", after := #[], guard := none }) rfl (fun K hK => ?_) AllReadyH.nil))
        · go_simp
          go_at_call 25
          with_reducible refine (limit_b _ A n c W b HLIM.out).mono ?_
          rintro e wl ⟨rfl, hbl⟩
          replace hJ := hJ.next hbl
          clear hbl
          go_wp2_with fail
          clear hHeld
          refine hK.out _ _ ⟨hJ.oldi hc0, hJ.oldi hc1, hJ.oldi hc2⟩ (fun hHeld => ?_)
          clear hK K
          try simp only [Act.put, List.setIfInBounds_toArray, List.set_cons_zero, List.set_cons_succ]
          refine wpAnyH_take (i := 10) (oi := { dst := some 28, op := Op.binOp BinOp.add 25 (Operand.tmp 27) (Operand.const (Value.int IntKind.u64 1)) 25, type := 25, pos := "window.go:30", after := #[{ on := 9, ground := Ground.data }], guard := none }) (v := ?_) rfl (by kernel_rfl) (by kernel_rfl) (by kernel_rfl) (fun _ _ _ h => h) (Or.inl ⟨by rfl, ?_⟩) (by assumption) ?_
          rotate_left
          · intro w hSw; (try dsimp only at hSw); first | (go_simp; done) | (go_simp; with_reducible rfl)
          try simp only [Act.put, List.setIfInBounds_toArray, List.set_cons_zero, List.set_cons_succ]
          refine wpAnyH_ready (rs := [11, 12]) (by kernel_rfl) (by simp) ?_
          refine (AllReadyH.cons (o := { dst := some 29, op := Op.call { callee := Callee.value (Operand.func 40), args := #[Operand.tmp 25, Operand.tmp 28], argTypes := #[28, 25] }, type := 28, pos := "window.go:30", after := #[{ on := 7, ground := Ground.data }, { on := 10, ground := Ground.data }, { on := 9, ground := Ground.chain }], guard := none }) rfl (fun K hK => ?_) (AllReadyH.cons (o := { dst := some 3, op := Op.alloc 28, type := 0, pos := "window.go:30", after := #[], guard := none }) rfl (fun K hK => ?_) AllReadyH.nil))
          · go_simp
            go_at_call 40
            with_reducible refine (from_j HB.out List.mem_cons_self hJ (by omega) u2 HV2.out).mono ?_
            rintro e wf ⟨A10, n10, c10, rfl, hJ9⟩
            clear hJ
            have hJ := hJ9
            clear hJ9
            go_wp2_with fail
            clear hHeld
            refine hK.out _ _ ⟨hJ.oldi hc0, hJ.oldi hc1, hJ.oldi hc2⟩ (fun hHeld => ?_)
            clear hK K
            try simp only [Act.put, List.setIfInBounds_toArray, List.set_cons_zero, List.set_cons_succ]
            refine wpAnyH_ready (rs := [12]) (by kernel_rfl) (by simp) ?_
            refine (AllReadyH.cons (o := { dst := some 3, op := Op.alloc 28, type := 0, pos := "window.go:30", after := #[], guard := none }) rfl (fun K hK => ?_) AllReadyH.nil)
            go_simp
            refine abs_K (Q := J2 w8 _ _ _) hJ.alloc1 ?_
            clear hJ
            intro wa hJ
            go_wp2_with fail
            clear hHeld
            refine hK.out _ _ ⟨hJ.oldi hc0, hJ.oldi hc1, hJ.oldi hc2⟩ (fun hHeld => ?_)
            clear hK K
            try simp only [Act.put, List.setIfInBounds_toArray, List.set_cons_zero, List.set_cons_succ]
            refine wpAnyH_ready (rs := [14]) (by kernel_rfl) (by simp) ?_
            refine (AllReadyH.cons (o := { dst := none, op := Op.store 28 (Operand.tmp 3) (Operand.tmp 23), type := 0, pos := "window.go:30", after := #[{ on := 12, ground := Ground.data }, { on := 5, ground := Ground.data }, { on := 11, ground := Ground.chain }, { on := 0, ground := Ground.phase }, { on := 1, ground := Ground.phase }, { on := 2, ground := Ground.phase }, { on := 3, ground := Ground.phase }, { on := 4, ground := Ground.phase }, { on := 5, ground := Ground.phase }, { on := 6, ground := Ground.textOnly Departure.lateStores }, { on := 7, ground := Ground.textOnly Departure.lateStores }, { on := 8, ground := Ground.textOnly Departure.lateStores }, { on := 9, ground := Ground.textOnly Departure.lateStoresUnsure }, { on := 10, ground := Ground.textOnly Departure.lateStores }, { on := 11, ground := Ground.textOnly Departure.lateStoresUnsure }, { on := 12, ground := Ground.phase }, { on := 13, ground := Ground.phase }], guard := none }) rfl (fun K hK => ?_) AllReadyH.nil)
            have hcx := hJ.cell1
            have hfx := hJ.frz1
            try simp only [drew_size'] at hcx hfx
            go_simp
            refine abs_K (Q := J2 w8 _ _ _) (hJ.store1 _) ?_
            clear hJ hcx hfx
            intro wa hJ
            go_wp2_with fail
            clear hHeld
            refine hK.out _ _ ⟨hJ.oldi hc0, hJ.oldi hc1, hJ.oldi hc2⟩ (fun hHeld => ?_)
            clear hK K
            try simp only [Act.put, List.setIfInBounds_toArray, List.set_cons_zero, List.set_cons_succ]
            refine wpAnyH_ready (rs := [15]) (by kernel_rfl) (by simp) ?_
            refine (AllReadyH.cons (o := { dst := none, op := Op.store 28 (Operand.tmp 4) (Operand.tmp 29), type := 0, pos := "window.go:30", after := #[{ on := 13, ground := Ground.data }, { on := 11, ground := Ground.data }, { on := 14, ground := Ground.chain }, { on := 0, ground := Ground.phase }, { on := 1, ground := Ground.phase }, { on := 2, ground := Ground.phase }, { on := 3, ground := Ground.phase }, { on := 4, ground := Ground.phase }, { on := 5, ground := Ground.phase }, { on := 6, ground := Ground.phase }, { on := 7, ground := Ground.phase }, { on := 8, ground := Ground.phase }, { on := 9, ground := Ground.phase }, { on := 10, ground := Ground.phase }, { on := 11, ground := Ground.phase }, { on := 12, ground := Ground.phase }, { on := 13, ground := Ground.phase }, { on := 14, ground := Ground.phase }], guard := none }) rfl (fun K hK => ?_) AllReadyH.nil)
            have hcx := hJ.cell2
            have hfx := hJ.frz2
            try simp only [drew_size'] at hcx hfx
            go_simp
            refine abs_K (Q := J2 w8 _ _ _) (hJ.store2 _) ?_
            clear hJ hcx hfx
            intro wa hJ
            go_wp2_with fail
            clear hHeld
            refine hK.out _ _ ⟨hJ.oldi hc0, hJ.oldi hc1, hJ.oldi hc2⟩ (fun hHeld => ?_)
            clear hK K
            try simp only [Act.put, List.setIfInBounds_toArray, List.set_cons_zero, List.set_cons_succ]
            refine wpAnyH_done (by kernel_rfl) ?_ _
            refine NoPanic.normal ?_
            clear hHeld
            go_wp2_with fail
            go_meet
            exact ⟨_, _, _, _, _, _, _, _, rfl, rfl, hJ.bun HB.out⟩
          · go_simp
            refine abs_K (Q := J2 w8 _ _ _) hJ.alloc1 ?_
            clear hJ
            intro wa hJ
            go_wp2_with fail
            clear hHeld
            refine hK.out _ _ ⟨hJ.oldi hc0, hJ.oldi hc1, hJ.oldi hc2⟩ (fun hHeld => ?_)
            clear hK K
            try simp only [Act.put, List.setIfInBounds_toArray, List.set_cons_zero, List.set_cons_succ]
            refine wpAnyH_ready (rs := [11]) (by kernel_rfl) (by simp) ?_
            refine (AllReadyH.cons (o := { dst := some 29, op := Op.call { callee := Callee.value (Operand.func 40), args := #[Operand.tmp 25, Operand.tmp 28], argTypes := #[28, 25] }, type := 28, pos := "window.go:30", after := #[{ on := 7, ground := Ground.data }, { on := 10, ground := Ground.data }, { on := 9, ground := Ground.chain }], guard := none }) rfl (fun K hK => ?_) AllReadyH.nil)
            go_simp
            go_at_call 40
            with_reducible refine (from_j HB.out List.mem_cons_self hJ (by omega) u2 HV2.out).mono ?_
            rintro e wf ⟨A10, n10, c10, rfl, hJ9⟩
            clear hJ
            have hJ := hJ9
            clear hJ9
            go_wp2_with fail
            clear hHeld
            refine hK.out _ _ ⟨hJ.oldi hc0, hJ.oldi hc1, hJ.oldi hc2⟩ (fun hHeld => ?_)
            clear hK K
            try simp only [Act.put, List.setIfInBounds_toArray, List.set_cons_zero, List.set_cons_succ]
            refine wpAnyH_ready (rs := [14]) (by kernel_rfl) (by simp) ?_
            refine (AllReadyH.cons (o := { dst := none, op := Op.store 28 (Operand.tmp 3) (Operand.tmp 23), type := 0, pos := "window.go:30", after := #[{ on := 12, ground := Ground.data }, { on := 5, ground := Ground.data }, { on := 11, ground := Ground.chain }, { on := 0, ground := Ground.phase }, { on := 1, ground := Ground.phase }, { on := 2, ground := Ground.phase }, { on := 3, ground := Ground.phase }, { on := 4, ground := Ground.phase }, { on := 5, ground := Ground.phase }, { on := 6, ground := Ground.textOnly Departure.lateStores }, { on := 7, ground := Ground.textOnly Departure.lateStores }, { on := 8, ground := Ground.textOnly Departure.lateStores }, { on := 9, ground := Ground.textOnly Departure.lateStoresUnsure }, { on := 10, ground := Ground.textOnly Departure.lateStores }, { on := 11, ground := Ground.textOnly Departure.lateStoresUnsure }, { on := 12, ground := Ground.phase }, { on := 13, ground := Ground.phase }], guard := none }) rfl (fun K hK => ?_) AllReadyH.nil)
            have hcx := hJ.cell1
            have hfx := hJ.frz1
            try simp only [drew_size'] at hcx hfx
            go_simp
            refine abs_K (Q := J2 w8 _ _ _) (hJ.store1 _) ?_
            clear hJ hcx hfx
            intro wa hJ
            go_wp2_with fail
            clear hHeld
            refine hK.out _ _ ⟨hJ.oldi hc0, hJ.oldi hc1, hJ.oldi hc2⟩ (fun hHeld => ?_)
            clear hK K
            try simp only [Act.put, List.setIfInBounds_toArray, List.set_cons_zero, List.set_cons_succ]
            refine wpAnyH_ready (rs := [15]) (by kernel_rfl) (by simp) ?_
            refine (AllReadyH.cons (o := { dst := none, op := Op.store 28 (Operand.tmp 4) (Operand.tmp 29), type := 0, pos := "window.go:30", after := #[{ on := 13, ground := Ground.data }, { on := 11, ground := Ground.data }, { on := 14, ground := Ground.chain }, { on := 0, ground := Ground.phase }, { on := 1, ground := Ground.phase }, { on := 2, ground := Ground.phase }, { on := 3, ground := Ground.phase }, { on := 4, ground := Ground.phase }, { on := 5, ground := Ground.phase }, { on := 6, ground := Ground.phase }, { on := 7, ground := Ground.phase }, { on := 8, ground := Ground.phase }, { on := 9, ground := Ground.phase }, { on := 10, ground := Ground.phase }, { on := 11, ground := Ground.phase }, { on := 12, ground := Ground.phase }, { on := 13, ground := Ground.phase }, { on := 14, ground := Ground.phase }], guard := none }) rfl (fun K hK => ?_) AllReadyH.nil)
            have hcx := hJ.cell2
            have hfx := hJ.frz2
            try simp only [drew_size'] at hcx hfx
            go_simp
            refine abs_K (Q := J2 w8 _ _ _) (hJ.store2 _) ?_
            clear hJ hcx hfx
            intro wa hJ
            go_wp2_with fail
            clear hHeld
            refine hK.out _ _ ⟨hJ.oldi hc0, hJ.oldi hc1, hJ.oldi hc2⟩ (fun hHeld => ?_)
            clear hK K
            try simp only [Act.put, List.setIfInBounds_toArray, List.set_cons_zero, List.set_cons_succ]
            refine wpAnyH_done (by kernel_rfl) ?_ _
            refine NoPanic.normal ?_
            clear hHeld
            go_wp2_with fail
            go_meet
            exact ⟨_, _, _, _, _, _, _, _, rfl, rfl, hJ.bun HB.out⟩
        · go_simp
          refine abs_K (Q := J2 w8 _ _ _) hJ.alloc1 ?_
          clear hJ
          intro wa hJ
          go_wp2_with fail
          clear hHeld
          refine hK.out _ _ ⟨hJ.oldi hc0, hJ.oldi hc1, hJ.oldi hc2⟩ (fun hHeld => ?_)
          clear hK K
          try simp only [Act.put, List.setIfInBounds_toArray, List.set_cons_zero, List.set_cons_succ]
          refine wpAnyH_ready (rs := [9]) (by kernel_rfl) (by simp) ?_
          refine (AllReadyH.cons (o := { dst := some 27, op := Op.call { callee := Callee.value (Operand.func 25), args := #[Operand.tmp 26], argTypes := #[30] }, type := 25, pos := "window.go:30", after := #[{ on := 8, ground := Ground.data }, { on := 5, ground := Ground.chain }], guard := none }) rfl (fun K hK => ?_) AllReadyH.nil)
          go_simp
          go_at_call 25
          with_reducible refine (limit_b _ A n c W b HLIM.out).mono ?_
          rintro e wl ⟨rfl, hbl⟩
          replace hJ := hJ.next hbl
          clear hbl
          go_wp2_with fail
          clear hHeld
          refine hK.out _ _ ⟨hJ.oldi hc0, hJ.oldi hc1, hJ.oldi hc2⟩ (fun hHeld => ?_)
          clear hK K
          try simp only [Act.put, List.setIfInBounds_toArray, List.set_cons_zero, List.set_cons_succ]
          refine wpAnyH_take (i := 10) (oi := { dst := some 28, op := Op.binOp BinOp.add 25 (Operand.tmp 27) (Operand.const (Value.int IntKind.u64 1)) 25, type := 25, pos := "window.go:30", after := #[{ on := 9, ground := Ground.data }], guard := none }) (v := ?_) rfl (by kernel_rfl) (by kernel_rfl) (by kernel_rfl) (fun _ _ _ h => h) (Or.inl ⟨by rfl, ?_⟩) (by assumption) ?_
          rotate_left
          · intro w hSw; (try dsimp only at hSw); first | (go_simp; done) | (go_simp; with_reducible rfl)
          try simp only [Act.put, List.setIfInBounds_toArray, List.set_cons_zero, List.set_cons_succ]
          refine wpAnyH_ready (rs := [11]) (by kernel_rfl) (by simp) ?_
          refine (AllReadyH.cons (o := { dst := some 29, op := Op.call { callee := Callee.value (Operand.func 40), args := #[Operand.tmp 25, Operand.tmp 28], argTypes := #[28, 25] }, type := 28, pos := "window.go:30", after := #[{ on := 7, ground := Ground.data }, { on := 10, ground := Ground.data }, { on := 9, ground := Ground.chain }], guard := none }) rfl (fun K hK => ?_) AllReadyH.nil)
          go_simp
          go_at_call 40
          with_reducible refine (from_j HB.out List.mem_cons_self hJ (by omega) u2 HV2.out).mono ?_
          rintro e wf ⟨A10, n10, c10, rfl, hJ9⟩
          clear hJ
          have hJ := hJ9
          clear hJ9
          go_wp2_with fail
          clear hHeld
          refine hK.out _ _ ⟨hJ.oldi hc0, hJ.oldi hc1, hJ.oldi hc2⟩ (fun hHeld => ?_)
          clear hK K
          try simp only [Act.put, List.setIfInBounds_toArray, List.set_cons_zero, List.set_cons_succ]
          refine wpAnyH_ready (rs := [14]) (by kernel_rfl) (by simp) ?_
          refine (AllReadyH.cons (o := { dst := none, op := Op.store 28 (Operand.tmp 3) (Operand.tmp 23), type := 0, pos := "window.go:30", after := #[{ on := 12, ground := Ground.data }, { on := 5, ground := Ground.data }, { on := 11, ground := Ground.chain }, { on := 0, ground := Ground.phase }, { on := 1, ground := Ground.phase }, { on := 2, ground := Ground.phase }, { on := 3, ground := Ground.phase }, { on := 4, ground := Ground.phase }, { on := 5, ground := Ground.phase }, { on := 6, ground := Ground.textOnly Departure.lateStores }, { on := 7, ground := Ground.textOnly Departure.lateStores }, { on := 8, ground := Ground.textOnly Departure.lateStores }, { on := 9, ground := Ground.textOnly Departure.lateStoresUnsure }, { on := 10, ground := Ground.textOnly Departure.lateStores }, { on := 11, ground := Ground.textOnly Departure.lateStoresUnsure }, { on := 12, ground := Ground.phase }, { on := 13, ground := Ground.phase }], guard := none }) rfl (fun K hK => ?_) AllReadyH.nil)
          have hcx := hJ.cell1
          have hfx := hJ.frz1
          try simp only [drew_size'] at hcx hfx
          go_simp
          refine abs_K (Q := J2 w8 _ _ _) (hJ.store1 _) ?_
          clear hJ hcx hfx
          intro wa hJ
          go_wp2_with fail
          clear hHeld
          refine hK.out _ _ ⟨hJ.oldi hc0, hJ.oldi hc1, hJ.oldi hc2⟩ (fun hHeld => ?_)
          clear hK K
          try simp only [Act.put, List.setIfInBounds_toArray, List.set_cons_zero, List.set_cons_succ]
          refine wpAnyH_ready (rs := [15]) (by kernel_rfl) (by simp) ?_
          refine (AllReadyH.cons (o := { dst := none, op := Op.store 28 (Operand.tmp 4) (Operand.tmp 29), type := 0, pos := "window.go:30", after := #[{ on := 13, ground := Ground.data }, { on := 11, ground := Ground.data }, { on := 14, ground := Ground.chain }, { on := 0, ground := Ground.phase }, { on := 1, ground := Ground.phase }, { on := 2, ground := Ground.phase }, { on := 3, ground := Ground.phase }, { on := 4, ground := Ground.phase }, { on := 5, ground := Ground.phase }, { on := 6, ground := Ground.phase }, { on := 7, ground := Ground.phase }, { on := 8, ground := Ground.phase }, { on := 9, ground := Ground.phase }, { on := 10, ground := Ground.phase }, { on := 11, ground := Ground.phase }, { on := 12, ground := Ground.phase }, { on := 13, ground := Ground.phase }, { on := 14, ground := Ground.phase }], guard := none }) rfl (fun K hK => ?_) AllReadyH.nil)
          have hcx := hJ.cell2
          have hfx := hJ.frz2
          try simp only [drew_size'] at hcx hfx
          go_simp
          refine abs_K (Q := J2 w8 _ _ _) (hJ.store2 _) ?_
          clear hJ hcx hfx
          intro wa hJ
          go_wp2_with fail
          clear hHeld
          refine hK.out _ _ ⟨hJ.oldi hc0, hJ.oldi hc1, hJ.oldi hc2⟩ (fun hHeld => ?_)
          clear hK K
          try simp only [Act.put, List.setIfInBounds_toArray, List.set_cons_zero, List.set_cons_succ]
          refine wpAnyH_done (by kernel_rfl) ?_ _
          refine NoPanic.normal ?_
          clear hHeld
          go_wp2_with fail
          go_meet
          exact ⟨_, _, _, _, _, _, _, _, rfl, rfl, hJ.bun HB.out⟩
    · go_simp
      refine abs_K (Q := J2 w8 _ _ _) hJ.alloc1 ?_
      clear hJ
      intro wa hJ
      go_wp2_with fail
      clear hHeld
      refine hK.out _ _ ⟨hJ.oldi hc0, hJ.oldi hc1, hJ.oldi hc2⟩ (fun hHeld => ?_)
      clear hK K
      try simp only [Act.put, List.setIfInBounds_toArray, List.set_cons_zero, List.set_cons_succ]
      refine wpAnyH_ready (rs := [5, 13]) (by kernel_rfl) (by simp) ?_
      refine (AllReadyH.cons (o := { dst := some 23, op := Op.call { callee := Callee.value (Operand.func 39), args := #[Operand.tmp 19, Operand.tmp 22], argTypes := #[28, 25] }, type := 28, pos := "window.go:30", after := #[{ on := 1, ground := Ground.data }, { on := 4, ground := Ground.data }], guard := none }) rfl (fun K hK => ?_) (AllReadyH.cons (o := { dst := some 4, op := Op.alloc 28, type := 0, pos := "window.go:30", after := #[], guard := none }) rfl (fun K hK => ?_) AllReadyH.nil))
      · go_simp
        go_at_call 39
        with_reducible refine (below_j HB.out List.mem_cons_self hJ (by omega) u1 HV1.out).mono ?_
        rintro e wb ⟨A9, n9, c9, rfl, hJ9⟩
        clear hJ
        have hJ := hJ9
        clear hJ9
        go_wp2_with fail
        clear hHeld
        refine hK.out _ _ ⟨hJ.oldi hc0, hJ.oldi hc1, hJ.oldi hc2⟩ (fun hHeld => ?_)
        clear hK K
        try simp only [Act.put, List.setIfInBounds_toArray, List.set_cons_zero, List.set_cons_succ]
        refine wpAnyH_ready (rs := [9, 13]) (by kernel_rfl) (by simp) ?_
        refine (AllReadyH.cons (o := { dst := some 27, op := Op.call { callee := Callee.value (Operand.func 25), args := #[Operand.tmp 26], argTypes := #[30] }, type := 25, pos := "window.go:30", after := #[{ on := 8, ground := Ground.data }, { on := 5, ground := Ground.chain }], guard := none }) rfl (fun K hK => ?_) (AllReadyH.cons (o := { dst := some 4, op := Op.alloc 28, type := 0, pos := "window.go:30", after := #[], guard := none }) rfl (fun K hK => ?_) AllReadyH.nil))
        · go_simp
          go_at_call 25
          with_reducible refine (limit_b _ A n c W b HLIM.out).mono ?_
          rintro e wl ⟨rfl, hbl⟩
          replace hJ := hJ.next hbl
          clear hbl
          go_wp2_with fail
          clear hHeld
          refine hK.out _ _ ⟨hJ.oldi hc0, hJ.oldi hc1, hJ.oldi hc2⟩ (fun hHeld => ?_)
          clear hK K
          try simp only [Act.put, List.setIfInBounds_toArray, List.set_cons_zero, List.set_cons_succ]
          refine wpAnyH_take (i := 10) (oi := { dst := some 28, op := Op.binOp BinOp.add 25 (Operand.tmp 27) (Operand.const (Value.int IntKind.u64 1)) 25, type := 25, pos := "window.go:30", after := #[{ on := 9, ground := Ground.data }], guard := none }) (v := ?_) rfl (by kernel_rfl) (by kernel_rfl) (by kernel_rfl) (fun _ _ _ h => h) (Or.inl ⟨by rfl, ?_⟩) (by assumption) ?_
          rotate_left
          · intro w hSw; (try dsimp only at hSw); first | (go_simp; done) | (go_simp; with_reducible rfl)
          try simp only [Act.put, List.setIfInBounds_toArray, List.set_cons_zero, List.set_cons_succ]
          refine wpAnyH_ready (rs := [11, 13]) (by kernel_rfl) (by simp) ?_
          refine (AllReadyH.cons (o := { dst := some 29, op := Op.call { callee := Callee.value (Operand.func 40), args := #[Operand.tmp 25, Operand.tmp 28], argTypes := #[28, 25] }, type := 28, pos := "window.go:30", after := #[{ on := 7, ground := Ground.data }, { on := 10, ground := Ground.data }, { on := 9, ground := Ground.chain }], guard := none }) rfl (fun K hK => ?_) (AllReadyH.cons (o := { dst := some 4, op := Op.alloc 28, type := 0, pos := "window.go:30", after := #[], guard := none }) rfl (fun K hK => ?_) AllReadyH.nil))
          · go_simp
            go_at_call 40
            with_reducible refine (from_j HB.out List.mem_cons_self hJ (by omega) u2 HV2.out).mono ?_
            rintro e wf ⟨A10, n10, c10, rfl, hJ9⟩
            clear hJ
            have hJ := hJ9
            clear hJ9
            go_wp2_with fail
            clear hHeld
            refine hK.out _ _ ⟨hJ.oldi hc0, hJ.oldi hc1, hJ.oldi hc2⟩ (fun hHeld => ?_)
            clear hK K
            try simp only [Act.put, List.setIfInBounds_toArray, List.set_cons_zero, List.set_cons_succ]
            refine wpAnyH_ready (rs := [13]) (by kernel_rfl) (by simp) ?_
            refine (AllReadyH.cons (o := { dst := some 4, op := Op.alloc 28, type := 0, pos := "window.go:30", after := #[], guard := none }) rfl (fun K hK => ?_) AllReadyH.nil)
            go_simp
            refine abs_K (Q := J2 w8 _ _ _) hJ.alloc2 ?_
            clear hJ
            intro wa hJ
            go_wp2_with fail
            clear hHeld
            refine hK.out _ _ ⟨hJ.oldi hc0, hJ.oldi hc1, hJ.oldi hc2⟩ (fun hHeld => ?_)
            clear hK K
            try simp only [Act.put, List.setIfInBounds_toArray, List.set_cons_zero, List.set_cons_succ]
            refine wpAnyH_ready (rs := [14]) (by kernel_rfl) (by simp) ?_
            refine (AllReadyH.cons (o := { dst := none, op := Op.store 28 (Operand.tmp 3) (Operand.tmp 23), type := 0, pos := "window.go:30", after := #[{ on := 12, ground := Ground.data }, { on := 5, ground := Ground.data }, { on := 11, ground := Ground.chain }, { on := 0, ground := Ground.phase }, { on := 1, ground := Ground.phase }, { on := 2, ground := Ground.phase }, { on := 3, ground := Ground.phase }, { on := 4, ground := Ground.phase }, { on := 5, ground := Ground.phase }, { on := 6, ground := Ground.textOnly Departure.lateStores }, { on := 7, ground := Ground.textOnly Departure.lateStores }, { on := 8, ground := Ground.textOnly Departure.lateStores }, { on := 9, ground := Ground.textOnly Departure.lateStoresUnsure }, { on := 10, ground := Ground.textOnly Departure.lateStores }, { on := 11, ground := Ground.textOnly Departure.lateStoresUnsure }, { on := 12, ground := Ground.phase }, { on := 13, ground := Ground.phase }], guard := none }) rfl (fun K hK => ?_) AllReadyH.nil)
            have hcx := hJ.cell1
            have hfx := hJ.frz1
            try simp only [drew_size'] at hcx hfx
            go_simp
            refine abs_K (Q := J2 w8 _ _ _) (hJ.store1 _) ?_
            clear hJ hcx hfx
            intro wa hJ
            go_wp2_with fail
            clear hHeld
            refine hK.out _ _ ⟨hJ.oldi hc0, hJ.oldi hc1, hJ.oldi hc2⟩ (fun hHeld => ?_)
            clear hK K
            try simp only [Act.put, List.setIfInBounds_toArray, List.set_cons_zero, List.set_cons_succ]
            refine wpAnyH_ready (rs := [15]) (by kernel_rfl) (by simp) ?_
            refine (AllReadyH.cons (o := { dst := none, op := Op.store 28 (Operand.tmp 4) (Operand.tmp 29), type := 0, pos := "window.go:30", after := #[{ on := 13, ground := Ground.data }, { on := 11, ground := Ground.data }, { on := 14, ground := Ground.chain }, { on := 0, ground := Ground.phase }, { on := 1, ground := Ground.phase }, { on := 2, ground := Ground.phase }, { on := 3, ground := Ground.phase }, { on := 4, ground := Ground.phase }, { on := 5, ground := Ground.phase }, { on := 6, ground := Ground.phase }, { on := 7, ground := Ground.phase }, { on := 8, ground := Ground.phase }, { on := 9, ground := Ground.phase }, { on := 10, ground := Ground.phase }, { on := 11, ground := Ground.phase }, { on := 12, ground := Ground.phase }, { on := 13, ground := Ground.phase }, { on := 14, ground := Ground.phase }], guard := none }) rfl (fun K hK => ?_) AllReadyH.nil)
            have hcx := hJ.cell2
            have hfx := hJ.frz2
            try simp only [drew_size'] at hcx hfx
            go_simp
            refine abs_K (Q := J2 w8 _ _ _) (hJ.store2 _) ?_
            clear hJ hcx hfx
            intro wa hJ
            go_wp2_with fail
            clear hHeld
            refine hK.out _ _ ⟨hJ.oldi hc0, hJ.oldi hc1, hJ.oldi hc2⟩ (fun hHeld => ?_)
            clear hK K
            try simp only [Act.put, List.setIfInBounds_toArray, List.set_cons_zero, List.set_cons_succ]
            refine wpAnyH_done (by kernel_rfl) ?_ _
            refine NoPanic.normal ?_
            clear hHeld
            go_wp2_with fail
            go_meet
            exact ⟨_, _, _, _, _, _, _, _, rfl, rfl, hJ.bun HB.out⟩
          · go_simp
            refine abs_K (Q := J2 w8 _ _ _) hJ.alloc2 ?_
            clear hJ
            intro wa hJ
            go_wp2_with fail
            clear hHeld
            refine hK.out _ _ ⟨hJ.oldi hc0, hJ.oldi hc1, hJ.oldi hc2⟩ (fun hHeld => ?_)
            clear hK K
            try simp only [Act.put, List.setIfInBounds_toArray, List.set_cons_zero, List.set_cons_succ]
            refine wpAnyH_ready (rs := [11]) (by kernel_rfl) (by simp) ?_
            refine (AllReadyH.cons (o := { dst := some 29, op := Op.call { callee := Callee.value (Operand.func 40), args := #[Operand.tmp 25, Operand.tmp 28], argTypes := #[28, 25] }, type := 28, pos := "window.go:30", after := #[{ on := 7, ground := Ground.data }, { on := 10, ground := Ground.data }, { on := 9, ground := Ground.chain }], guard := none }) rfl (fun K hK => ?_) AllReadyH.nil)
            go_simp
            go_at_call 40
            with_reducible refine (from_j HB.out List.mem_cons_self hJ (by omega) u2 HV2.out).mono ?_
            rintro e wf ⟨A10, n10, c10, rfl, hJ9⟩
            clear hJ
            have hJ := hJ9
            clear hJ9
            go_wp2_with fail
            clear hHeld
            refine hK.out _ _ ⟨hJ.oldi hc0, hJ.oldi hc1, hJ.oldi hc2⟩ (fun hHeld => ?_)
            clear hK K
            try simp only [Act.put, List.setIfInBounds_toArray, List.set_cons_zero, List.set_cons_succ]
            refine wpAnyH_ready (rs := [14]) (by kernel_rfl) (by simp) ?_
            refine (AllReadyH.cons (o := { dst := none, op := Op.store 28 (Operand.tmp 3) (Operand.tmp 23), type := 0, pos := "window.go:30", after := #[{ on := 12, ground := Ground.data }, { on := 5, ground := Ground.data }, { on := 11, ground := Ground.chain }, { on := 0, ground := Ground.phase }, { on := 1, ground := Ground.phase }, { on := 2, ground := Ground.phase }, { on := 3, ground := Ground.phase }, { on := 4, ground := Ground.phase }, { on := 5, ground := Ground.phase }, { on := 6, ground := Ground.textOnly Departure.lateStores }, { on := 7, ground := Ground.textOnly Departure.lateStores }, { on := 8, ground := Ground.textOnly Departure.lateStores }, { on := 9, ground := Ground.textOnly Departure.lateStoresUnsure }, { on := 10, ground := Ground.textOnly Departure.lateStores }, { on := 11, ground := Ground.textOnly Departure.lateStoresUnsure }, { on := 12, ground := Ground.phase }, { on := 13, ground := Ground.phase }], guard := none }) rfl (fun K hK => ?_) AllReadyH.nil)
            have hcx := hJ.cell1
            have hfx := hJ.frz1
            try simp only [drew_size'] at hcx hfx
            go_simp
            refine abs_K (Q := J2 w8 _ _ _) (hJ.store1 _) ?_
            clear hJ hcx hfx
            intro wa hJ
            go_wp2_with fail
            clear hHeld
            refine hK.out _ _ ⟨hJ.oldi hc0, hJ.oldi hc1, hJ.oldi hc2⟩ (fun hHeld => ?_)
            clear hK K
            try simp only [Act.put, List.setIfInBounds_toArray, List.set_cons_zero, List.set_cons_succ]
            refine wpAnyH_ready (rs := [15]) (by kernel_rfl) (by simp) ?_
            refine (AllReadyH.cons (o := { dst := none, op := Op.store 28 (Operand.tmp 4) (Operand.tmp 29), type := 0, pos := "window.go:30", after := #[{ on := 13, ground := Ground.data }, { on := 11, ground := Ground.data }, { on := 14, ground := Ground.chain }, { on := 0, ground := Ground.phase }, { on := 1, ground := Ground.phase }, { on := 2, ground := Ground.phase }, { on := 3, ground := Ground.phase }, { on := 4, ground := Ground.phase }, { on := 5, ground := Ground.phase }, { on := 6, ground := Ground.phase }, { on := 7, ground := Ground.phase }, { on := 8, ground := Ground.phase }, { on := 9, ground := Ground.phase }, { on := 10, ground := Ground.phase }, { on := 11, ground := Ground.phase }, { on := 12, ground := Ground.phase }, { on := 13, ground := Ground.phase }, { on := 14, ground := Ground.phase }], guard := none }) rfl (fun K hK => ?_) AllReadyH.nil)
            have hcx := hJ.cell2
            have hfx := hJ.frz2
            try simp only [drew_size'] at hcx hfx
            go_simp
            refine abs_K (Q := J2 w8 _ _ _) (hJ.store2 _) ?_
            clear hJ hcx hfx
            intro wa hJ
            go_wp2_with fail
            clear hHeld
            refine hK.out _ _ ⟨hJ.oldi hc0, hJ.oldi hc1, hJ.oldi hc2⟩ (fun hHeld => ?_)
            clear hK K
            try simp only [Act.put, List.setIfInBounds_toArray, List.set_cons_zero, List.set_cons_succ]
            refine wpAnyH_done (by kernel_rfl) ?_ _
            refine NoPanic.normal ?_
            clear hHeld
            go_wp2_with fail
            go_meet
            exact ⟨_, _, _, _, _, _, _, _, rfl, rfl, hJ.bun HB.out⟩
        · go_simp
          refine abs_K (Q := J2 w8 _ _ _) hJ.alloc2 ?_
          clear hJ
          intro wa hJ
          go_wp2_with fail
          clear hHeld
          refine hK.out _ _ ⟨hJ.oldi hc0, hJ.oldi hc1, hJ.oldi hc2⟩ (fun hHeld => ?_)
          clear hK K
          try simp only [Act.put, List.setIfInBounds_toArray, List.set_cons_zero, List.set_cons_succ]
          refine wpAnyH_ready (rs := [9]) (by kernel_rfl) (by simp) ?_
          refine (AllReadyH.cons (o := { dst := some 27, op := Op.call { callee := Callee.value (Operand.func 25), args := #[Operand.tmp 26], argTypes := #[30] }, type := 25, pos := "window.go:30", after := #[{ on := 8, ground := Ground.data }, { on := 5, ground := Ground.chain }], guard := none }) rfl (fun K hK => ?_) AllReadyH.nil)
          go_simp
          go_at_call 25
          with_reducible refine (limit_b _ A n c W b HLIM.out).mono ?_
          rintro e wl ⟨rfl, hbl⟩
          replace hJ := hJ.next hbl
          clear hbl
          go_wp2_with fail
          clear hHeld
          refine hK.out _ _ ⟨hJ.oldi hc0, hJ.oldi hc1, hJ.oldi hc2⟩ (fun hHeld => ?_)
          clear hK K
          try simp only [Act.put, List.setIfInBounds_toArray, List.set_cons_zero, List.set_cons_succ]
          refine wpAnyH_take (i := 10) (oi := { dst := some 28, op := Op.binOp BinOp.add 25 (Operand.tmp 27) (Operand.const (Value.int IntKind.u64 1)) 25, type := 25, pos := "window.go:30", after := #[{ on := 9, ground := Ground.data }], guard := none }) (v := ?_) rfl (by kernel_rfl) (by kernel_rfl) (by kernel_rfl) (fun _ _ _ h => h) (Or.inl ⟨by rfl, ?_⟩) (by assumption) ?_
          rotate_left
          · intro w hSw; (try dsimp only at hSw); first | (go_simp; done) | (go_simp; with_reducible rfl)
          try simp only [Act.put, List.setIfInBounds_toArray, List.set_cons_zero, List.set_cons_succ]
          refine wpAnyH_ready (rs := [11]) (by kernel_rfl) (by simp) ?_
          refine (AllReadyH.cons (o := { dst := some 29, op := Op.call { callee := Callee.value (Operand.func 40), args := #[Operand.tmp 25, Operand.tmp 28], argTypes := #[28, 25] }, type := 28, pos := "window.go:30", after := #[{ on := 7, ground := Ground.data }, { on := 10, ground := Ground.data }, { on := 9, ground := Ground.chain }], guard := none }) rfl (fun K hK => ?_) AllReadyH.nil)
          go_simp
          go_at_call 40
          with_reducible refine (from_j HB.out List.mem_cons_self hJ (by omega) u2 HV2.out).mono ?_
          rintro e wf ⟨A10, n10, c10, rfl, hJ9⟩
          clear hJ
          have hJ := hJ9
          clear hJ9
          go_wp2_with fail
          clear hHeld
          refine hK.out _ _ ⟨hJ.oldi hc0, hJ.oldi hc1, hJ.oldi hc2⟩ (fun hHeld => ?_)
          clear hK K
          try simp only [Act.put, List.setIfInBounds_toArray, List.set_cons_zero, List.set_cons_succ]
          refine wpAnyH_ready (rs := [14]) (by kernel_rfl) (by simp) ?_
          refine (AllReadyH.cons (o := { dst := none, op := Op.store 28 (Operand.tmp 3) (Operand.tmp 23), type := 0, pos := "window.go:30", after := #[{ on := 12, ground := Ground.data }, { on := 5, ground := Ground.data }, { on := 11, ground := Ground.chain }, { on := 0, ground := Ground.phase }, { on := 1, ground := Ground.phase }, { on := 2, ground := Ground.phase }, { on := 3, ground := Ground.phase }, { on := 4, ground := Ground.phase }, { on := 5, ground := Ground.phase }, { on := 6, ground := Ground.textOnly Departure.lateStores }, { on := 7, ground := Ground.textOnly Departure.lateStores }, { on := 8, ground := Ground.textOnly Departure.lateStores }, { on := 9, ground := Ground.textOnly Departure.lateStoresUnsure }, { on := 10, ground := Ground.textOnly Departure.lateStores }, { on := 11, ground := Ground.textOnly Departure.lateStoresUnsure }, { on := 12, ground := Ground.phase }, { on := 13, ground := Ground.phase }], guard := none }) rfl (fun K hK => ?_) AllReadyH.nil)
          have hcx := hJ.cell1
          have hfx := hJ.frz1
          try simp only [drew_size'] at hcx hfx
          go_simp
          refine abs_K (Q := J2 w8 _ _ _) (hJ.store1 _) ?_
          clear hJ hcx hfx
          intro wa hJ
          go_wp2_with fail
          clear hHeld
          refine hK.out _ _ ⟨hJ.oldi hc0, hJ.oldi hc1, hJ.oldi hc2⟩ (fun hHeld => ?_)
          clear hK K
          try simp only [Act.put, List.setIfInBounds_toArray, List.set_cons_zero, List.set_cons_succ]
          refine wpAnyH_ready (rs := [15]) (by kernel_rfl) (by simp) ?_
          refine (AllReadyH.cons (o := { dst := none, op := Op.store 28 (Operand.tmp 4) (Operand.tmp 29), type := 0, pos := "window.go:30", after := #[{ on := 13, ground := Ground.data }, { on := 11, ground := Ground.data }, { on := 14, ground := Ground.chain }, { on := 0, ground := Ground.phase }, { on := 1, ground := Ground.phase }, { on := 2, ground := Ground.phase }, { on := 3, ground := Ground.phase }, { on := 4, ground := Ground.phase }, { on := 5, ground := Ground.phase }, { on := 6, ground := Ground.phase }, { on := 7, ground := Ground.phase }, { on := 8, ground := Ground.phase }, { on := 9, ground := Ground.phase }, { on := 10, ground := Ground.phase }, { on := 11, ground := Ground.phase }, { on := 12, ground := Ground.phase }, { on := 13, ground := Ground.phase }, { on := 14, ground := Ground.phase }], guard := none }) rfl (fun K hK => ?_) AllReadyH.nil)
          have hcx := hJ.cell2
          have hfx := hJ.frz2
          try simp only [drew_size'] at hcx hfx
          go_simp
          refine abs_K (Q := J2 w8 _ _ _) (hJ.store2 _) ?_
          clear hJ hcx hfx
          intro wa hJ
          go_wp2_with fail
          clear hHeld
          refine hK.out _ _ ⟨hJ.oldi hc0, hJ.oldi hc1, hJ.oldi hc2⟩ (fun hHeld => ?_)
          clear hK K
          try simp only [Act.put, List.setIfInBounds_toArray, List.set_cons_zero, List.set_cons_succ]
          refine wpAnyH_done (by kernel_rfl) ?_ _
          refine NoPanic.normal ?_
          clear hHeld
          go_wp2_with fail
          go_meet
          exact ⟨_, _, _, _, _, _, _, _, rfl, rfl, hJ.bun HB.out⟩
      · go_simp
        refine abs_K (Q := J2 w8 _ _ _) hJ.alloc2 ?_
        clear hJ
        intro wa hJ
        go_wp2_with fail
        clear hHeld
        refine hK.out _ _ ⟨hJ.oldi hc0, hJ.oldi hc1, hJ.oldi hc2⟩ (fun hHeld => ?_)
        clear hK K
        try simp only [Act.put, List.setIfInBounds_toArray, List.set_cons_zero, List.set_cons_succ]
        refine wpAnyH_ready (rs := [5]) (by kernel_rfl) (by simp) ?_
        refine (AllReadyH.cons (o := { dst := some 23, op := Op.call { callee := Callee.value (Operand.func 39), args := #[Operand.tmp 19, Operand.tmp 22], argTypes := #[28, 25] }, type := 28, pos := "window.go:30", after := #[{ on := 1, ground := Ground.data }, { on := 4, ground := Ground.data }], guard := none }) rfl (fun K hK => ?_) AllReadyH.nil)
        go_simp
        go_at_call 39
        with_reducible refine (below_j HB.out List.mem_cons_self hJ (by omega) u1 HV1.out).mono ?_
        rintro e wb ⟨A9, n9, c9, rfl, hJ9⟩
        clear hJ
        have hJ := hJ9
        clear hJ9
        go_wp2_with fail
        clear hHeld
        refine hK.out _ _ ⟨hJ.oldi hc0, hJ.oldi hc1, hJ.oldi hc2⟩ (fun hHeld => ?_)
        clear hK K
        try simp only [Act.put, List.setIfInBounds_toArray, List.set_cons_zero, List.set_cons_succ]
        refine wpAnyH_ready (rs := [9]) (by kernel_rfl) (by simp) ?_
        refine (AllReadyH.cons (o := { dst := some 27, op := Op.call { callee := Callee.value (Operand.func 25), args := #[Operand.tmp 26], argTypes := #[30] }, type := 25, pos := "window.go:30", after := #[{ on := 8, ground := Ground.data }, { on := 5, ground := Ground.chain }], guard := none }) rfl (fun K hK => ?_) AllReadyH.nil)
        go_simp
        go_at_call 25
        with_reducible refine (limit_b _ A n c W b HLIM.out).mono ?_
        rintro e wl ⟨rfl, hbl⟩
        replace hJ := hJ.next hbl
        clear hbl
        go_wp2_with fail
        clear hHeld
        refine hK.out _ _ ⟨hJ.oldi hc0, hJ.oldi hc1, hJ.oldi hc2⟩ (fun hHeld => ?_)
        clear hK K
        try simp only [Act.put, List.setIfInBounds_toArray, List.set_cons_zero, List.set_cons_succ]
        refine wpAnyH_take (i := 10) (oi := { dst := some 28, op := Op.binOp BinOp.add 25 (Operand.tmp 27) (Operand.const (Value.int IntKind.u64 1)) 25, type := 25, pos := "window.go:30", after := #[{ on := 9, ground := Ground.data }], guard := none }) (v := ?_) rfl (by kernel_rfl) (by kernel_rfl) (by kernel_rfl) (fun _ _ _ h => h) (Or.inl ⟨by rfl, ?_⟩) (by assumption) ?_
        rotate_left
        · intro w hSw; (try dsimp only at hSw); first | (go_simp; done) | (go_simp; with_reducible rfl)
        try simp only [Act.put, List.setIfInBounds_toArray, List.set_cons_zero, List.set_cons_succ]
        refine wpAnyH_ready (rs := [11]) (by kernel_rfl) (by simp) ?_
        refine (AllReadyH.cons (o := { dst := some 29, op := Op.call { callee := Callee.value (Operand.func 40), args := #[Operand.tmp 25, Operand.tmp 28], argTypes := #[28, 25] }, type := 28, pos := "window.go:30", after := #[{ on := 7, ground := Ground.data }, { on := 10, ground := Ground.data }, { on := 9, ground := Ground.chain }], guard := none }) rfl (fun K hK => ?_) AllReadyH.nil)
        go_simp
        go_at_call 40
        with_reducible refine (from_j HB.out List.mem_cons_self hJ (by omega) u2 HV2.out).mono ?_
        rintro e wf ⟨A10, n10, c10, rfl, hJ9⟩
        clear hJ
        have hJ := hJ9
        clear hJ9
        go_wp2_with fail
        clear hHeld
        refine hK.out _ _ ⟨hJ.oldi hc0, hJ.oldi hc1, hJ.oldi hc2⟩ (fun hHeld => ?_)
        clear hK K
        try simp only [Act.put, List.setIfInBounds_toArray, List.set_cons_zero, List.set_cons_succ]
        refine wpAnyH_ready (rs := [14]) (by kernel_rfl) (by simp) ?_
        refine (AllReadyH.cons (o := { dst := none, op := Op.store 28 (Operand.tmp 3) (Operand.tmp 23), type := 0, pos := "window.go:30", after := #[{ on := 12, ground := Ground.data }, { on := 5, ground := Ground.data }, { on := 11, ground := Ground.chain }, { on := 0, ground := Ground.phase }, { on := 1, ground := Ground.phase }, { on := 2, ground := Ground.phase }, { on := 3, ground := Ground.phase }, { on := 4, ground := Ground.phase }, { on := 5, ground := Ground.phase }, { on := 6, ground := Ground.textOnly Departure.lateStores }, { on := 7, ground := Ground.textOnly Departure.lateStores }, { on := 8, ground := Ground.textOnly Departure.lateStores }, { on := 9, ground := Ground.textOnly Departure.lateStoresUnsure }, { on := 10, ground := Ground.textOnly Departure.lateStores }, { on := 11, ground := Ground.textOnly Departure.lateStoresUnsure }, { on := 12, ground := Ground.phase }, { on := 13, ground := Ground.phase }], guard := none }) rfl (fun K hK => ?_) AllReadyH.nil)
        have hcx := hJ.cell1
        have hfx := hJ.frz1
        try simp only [drew_size'] at hcx hfx
        go_simp
        refine abs_K (Q := J2 w8 _ _ _) (hJ.store1 _) ?_
        clear hJ hcx hfx
        intro wa hJ
        go_wp2_with fail
        clear hHeld
        refine hK.out _ _ ⟨hJ.oldi hc0, hJ.oldi hc1, hJ.oldi hc2⟩ (fun hHeld => ?_)
        clear hK K
        try simp only [Act.put, List.setIfInBounds_toArray, List.set_cons_zero, List.set_cons_succ]
        refine wpAnyH_ready (rs := [15]) (by kernel_rfl) (by simp) ?_
        refine (AllReadyH.cons (o := { dst := none, op := Op.store 28 (Operand.tmp 4) (Operand.tmp 29), type := 0, pos := "window.go:30", after := #[{ on := 13, ground := Ground.data }, { on := 11, ground := Ground.data }, { on := 14, ground := Ground.chain }, { on := 0, ground := Ground.phase }, { on := 1, ground := Ground.phase }, { on := 2, ground := Ground.phase }, { on := 3, ground := Ground.phase }, { on := 4, ground := Ground.phase }, { on := 5, ground := Ground.phase }, { on := 6, ground := Ground.phase }, { on := 7, ground := Ground.phase }, { on := 8, ground := Ground.phase }, { on := 9, ground := Ground.phase }, { on := 10, ground := Ground.phase }, { on := 11, ground := Ground.phase }, { on := 12, ground := Ground.phase }, { on := 13, ground := Ground.phase }, { on := 14, ground := Ground.phase }], guard := none }) rfl (fun K hK => ?_) AllReadyH.nil)
        have hcx := hJ.cell2
        have hfx := hJ.frz2
        try simp only [drew_size'] at hcx hfx
        go_simp
        refine abs_K (Q := J2 w8 _ _ _) (hJ.store2 _) ?_
        clear hJ hcx hfx
        intro wa hJ
        go_wp2_with fail
        clear hHeld
        refine hK.out _ _ ⟨hJ.oldi hc0, hJ.oldi hc1, hJ.oldi hc2⟩ (fun hHeld => ?_)
        clear hK K
        try simp only [Act.put, List.setIfInBounds_toArray, List.set_cons_zero, List.set_cons_succ]
        refine wpAnyH_done (by kernel_rfl) ?_ _
        refine NoPanic.normal ?_
        clear hHeld
        go_wp2_with fail
        go_meet
        exact ⟨_, _, _, _, _, _, _, _, rfl, rfl, hJ.bun HB.out⟩
    · go_simp
      refine abs_K (Q := J2 w8 _ _ _) hJ.alloc2 ?_
      clear hJ
      intro wa hJ
      go_wp2_with fail
      clear hHeld
      refine hK.out _ _ ⟨hJ.oldi hc0, hJ.oldi hc1, hJ.oldi hc2⟩ (fun hHeld => ?_)
      clear hK K
      try simp only [Act.put, List.setIfInBounds_toArray, List.set_cons_zero, List.set_cons_succ]
      refine wpAnyH_ready (rs := [5, 12]) (by kernel_rfl) (by simp) ?_
      refine (AllReadyH.cons (o := { dst := some 23, op := Op.call { callee := Callee.value (Operand.func 39), args := #[Operand.tmp 19, Operand.tmp 22], argTypes := #[28, 25] }, type := 28, pos := "window.go:30", after := #[{ on := 1, ground := Ground.data }, { on := 4, ground := Ground.data }], guard := none }) rfl (fun K hK => ?_) (AllReadyH.cons (o := { dst := some 3, op := Op.alloc 28, type := 0, pos := "window.go:30", after := #[], guard := none }) rfl (fun K hK => ?_) AllReadyH.nil))
      · go_simp
        go_at_call 39
        with_reducible refine (below_j HB.out List.mem_cons_self hJ (by omega) u1 HV1.out).mono ?_
        rintro e wb ⟨A9, n9, c9, rfl, hJ9⟩
        clear hJ
        have hJ := hJ9
        clear hJ9
        go_wp2_with fail
        clear hHeld
        refine hK.out _ _ ⟨hJ.oldi hc0, hJ.oldi hc1, hJ.oldi hc2⟩ (fun hHeld => ?_)
        clear hK K
        try simp only [Act.put, List.setIfInBounds_toArray, List.set_cons_zero, List.set_cons_succ]
        refine wpAnyH_ready (rs := [9, 12]) (by kernel_rfl) (by simp) ?_
        refine (AllReadyH.cons (o := { dst := some 27, op := Op.call { callee := Callee.value (Operand.func 25), args := #[Operand.tmp 26], argTypes := #[30] }, type := 25, pos := "window.go:30", after := #[{ on := 8, ground := Ground.data }, { on := 5, ground := Ground.chain }], guard := none }) rfl (fun K hK => ?_) (AllReadyH.cons (o := { dst := some 3, op := Op.alloc 28, type := 0, pos := "window.go:30", after := #[], guard := none }) rfl (fun K hK => ?_) AllReadyH.nil))
        · go_simp
          go_at_call 25
          with_reducible refine (limit_b _ A n c W b HLIM.out).mono ?_
          rintro e wl ⟨rfl, hbl⟩
          replace hJ := hJ.next hbl
          clear hbl
          go_wp2_with fail
          clear hHeld
          refine hK.out _ _ ⟨hJ.oldi hc0, hJ.oldi hc1, hJ.oldi hc2⟩ (fun hHeld => ?_)
          clear hK K
          try simp only [Act.put, List.setIfInBounds_toArray, List.set_cons_zero, List.set_cons_succ]
          refine wpAnyH_take (i := 10) (oi := { dst := some 28, op := Op.binOp BinOp.add 25 (Operand.tmp 27) (Operand.const (Value.int IntKind.u64 1)) 25, type := 25, pos := "window.go:30", after := #[{ on := 9, ground := Ground.data }], guard := none }) (v := ?_) rfl (by kernel_rfl) (by kernel_rfl) (by kernel_rfl) (fun _ _ _ h => h) (Or.inl ⟨by rfl, ?_⟩) (by assumption) ?_
          rotate_left
          · intro w hSw; (try dsimp only at hSw); first | (go_simp; done) | (go_simp; with_reducible rfl)
          try simp only [Act.put, List.setIfInBounds_toArray, List.set_cons_zero, List.set_cons_succ]
          refine wpAnyH_ready (rs := [11, 12]) (by kernel_rfl) (by simp) ?_
          refine (AllReadyH.cons (o := { dst := some 29, op := Op.call { callee := Callee.value (Operand.func 40), args := #[Operand.tmp 25, Operand.tmp 28], argTypes := #[28, 25] }, type := 28, pos := "window.go:30", after := #[{ on := 7, ground := Ground.data }, { on := 10, ground := Ground.data }, { on := 9, ground := Ground.chain }], guard := none }) rfl (fun K hK => ?_) (AllReadyH.cons (o := { dst := some 3, op := Op.alloc 28, type := 0, pos := "window.go:30", after := #[], guard := none }) rfl (fun K hK => ?_) AllReadyH.nil))
          · go_simp
            go_at_call 40
            with_reducible refine (from_j HB.out List.mem_cons_self hJ (by omega) u2 HV2.out).mono ?_
            rintro e wf ⟨A10, n10, c10, rfl, hJ9⟩
            clear hJ
            have hJ := hJ9
            clear hJ9
            go_wp2_with fail
            clear hHeld
            refine hK.out _ _ ⟨hJ.oldi hc0, hJ.oldi hc1, hJ.oldi hc2⟩ (fun hHeld => ?_)
            clear hK K
            try simp only [Act.put, List.setIfInBounds_toArray, List.set_cons_zero, List.set_cons_succ]
            refine wpAnyH_ready (rs := [12]) (by kernel_rfl) (by simp) ?_
            refine (AllReadyH.cons (o := { dst := some 3, op := Op.alloc 28, type := 0, pos := "window.go:30", after := #[], guard := none }) rfl (fun K hK => ?_) AllReadyH.nil)
            go_simp
            refine abs_K (Q := J2 w8 _ _ _) hJ.alloc1 ?_
            clear hJ
            intro wa hJ
            go_wp2_with fail
            clear hHeld
            refine hK.out _ _ ⟨hJ.oldi hc0, hJ.oldi hc1, hJ.oldi hc2⟩ (fun hHeld => ?_)
            clear hK K
            try simp only [Act.put, List.setIfInBounds_toArray, List.set_cons_zero, List.set_cons_succ]
            refine wpAnyH_ready (rs := [14]) (by kernel_rfl) (by simp) ?_
            refine (AllReadyH.cons (o := { dst := none, op := Op.store 28 (Operand.tmp 3) (Operand.tmp 23), type := 0, pos := "window.go:30", after := #[{ on := 12, ground := Ground.data }, { on := 5, ground := Ground.data }, { on := 11, ground := Ground.chain }, { on := 0, ground := Ground.phase }, { on := 1, ground := Ground.phase }, { on := 2, ground := Ground.phase }, { on := 3, ground := Ground.phase }, { on := 4, ground := Ground.phase }, { on := 5, ground := Ground.phase }, { on := 6, ground := Ground.textOnly Departure.lateStores }, { on := 7, ground := Ground.textOnly Departure.lateStores }, { on := 8, ground := Ground.textOnly Departure.lateStores }, { on := 9, ground := Ground.textOnly Departure.lateStoresUnsure }, { on := 10, ground := Ground.textOnly Departure.lateStores }, { on := 11, ground := Ground.textOnly Departure.lateStoresUnsure }, { on := 12, ground := Ground.phase }, { on := 13, ground := Ground.phase }], guard := none }) rfl (fun K hK => ?_) AllReadyH.nil)
            have hcx := hJ.cell1
            have hfx := hJ.frz1
            try simp only [drew_size'] at hcx hfx
            go_simp
            refine abs_K (Q := J2 w8 _ _ _) (hJ.store1 _) ?_
            clear hJ hcx hfx
            intro wa hJ
            go_wp2_with fail
            clear hHeld
            refine hK.out _ _ ⟨hJ.oldi hc0, hJ.oldi hc1, hJ.oldi hc2⟩ (fun hHeld => ?_)
            clear hK K
            try simp only [Act.put, List.setIfInBounds_toArray, List.set_cons_zero, List.set_cons_succ]
            refine wpAnyH_ready (rs := [15]) (by kernel_rfl) (by simp) ?_
            refine (AllReadyH.cons (o := { dst := none, op := Op.store 28 (Operand.tmp 4) (Operand.tmp 29), type := 0, pos := "window.go:30", after := #[{ on := 13, ground := Ground.data }, { on := 11, ground := Ground.data }, { on := 14, ground := Ground.chain }, { on := 0, ground := Ground.phase }, { on := 1, ground := Ground.phase }, { on := 2, ground := Ground.phase }, { on := 3, ground := Ground.phase }, { on := 4, ground := Ground.phase }, { on := 5, ground := Ground.phase }, { on := 6, ground := Ground.phase }, { on := 7, ground := Ground.phase }, { on := 8, ground := Ground.phase }, { on := 9, ground := Ground.phase }, { on := 10, ground := Ground.phase }, { on := 11, ground := Ground.phase }, { on := 12, ground := Ground.phase }, { on := 13, ground := Ground.phase }, { on := 14, ground := Ground.phase }], guard := none }) rfl (fun K hK => ?_) AllReadyH.nil)
            have hcx := hJ.cell2
            have hfx := hJ.frz2
            try simp only [drew_size'] at hcx hfx
            go_simp
            refine abs_K (Q := J2 w8 _ _ _) (hJ.store2 _) ?_
            clear hJ hcx hfx
            intro wa hJ
            go_wp2_with fail
            clear hHeld
            refine hK.out _ _ ⟨hJ.oldi hc0, hJ.oldi hc1, hJ.oldi hc2⟩ (fun hHeld => ?_)
            clear hK K
            try simp only [Act.put, List.setIfInBounds_toArray, List.set_cons_zero, List.set_cons_succ]
            refine wpAnyH_done (by kernel_rfl) ?_ _
            refine NoPanic.normal ?_
            clear hHeld
            go_wp2_with fail
            go_meet
            exact ⟨_, _, _, _, _, _, _, _, rfl, rfl, hJ.bun HB.out⟩
          · go_simp
            refine abs_K (Q := J2 w8 _ _ _) hJ.alloc1 ?_
            clear hJ
            intro wa hJ
            go_wp2_with fail
            clear hHeld
            refine hK.out _ _ ⟨hJ.oldi hc0, hJ.oldi hc1, hJ.oldi hc2⟩ (fun hHeld => ?_)
            clear hK K
            try simp only [Act.put, List.setIfInBounds_toArray, List.set_cons_zero, List.set_cons_succ]
            refine wpAnyH_ready (rs := [11]) (by kernel_rfl) (by simp) ?_
            refine (AllReadyH.cons (o := { dst := some 29, op := Op.call { callee := Callee.value (Operand.func 40), args := #[Operand.tmp 25, Operand.tmp 28], argTypes := #[28, 25] }, type := 28, pos := "window.go:30", after := #[{ on := 7, ground := Ground.data }, { on := 10, ground := Ground.data }, { on := 9, ground := Ground.chain }], guard := none }) rfl (fun K hK => ?_) AllReadyH.nil)
            go_simp
            go_at_call 40
            with_reducible refine (from_j HB.out List.mem_cons_self hJ (by omega) u2 HV2.out).mono ?_
            rintro e wf ⟨A10, n10, c10, rfl, hJ9⟩
            clear hJ
            have hJ := hJ9
            clear hJ9
            go_wp2_with fail
            clear hHeld
            refine hK.out _ _ ⟨hJ.oldi hc0, hJ.oldi hc1, hJ.oldi hc2⟩ (fun hHeld => ?_)
            clear hK K
            try simp only [Act.put, List.setIfInBounds_toArray, List.set_cons_zero, List.set_cons_succ]
            refine wpAnyH_ready (rs := [14]) (by kernel_rfl) (by simp) ?_
            refine (AllReadyH.cons (o := { dst := none, op := Op.store 28 (Operand.tmp 3) (Operand.tmp 23), type := 0, pos := "window.go:30", after := #[{ on := 12, ground := Ground.data }, { on := 5, ground := Ground.data }, { on := 11, ground := Ground.chain }, { on := 0, ground := Ground.phase }, { on := 1, ground := Ground.phase }, { on := 2, ground := Ground.phase }, { on := 3, ground := Ground.phase }, { on := 4, ground := Ground.phase }, { on := 5, ground := Ground.phase }, { on := 6, ground := Ground.textOnly Departure.lateStores }, { on := 7, ground := Ground.textOnly Departure.lateStores }, { on := 8, ground := Ground.textOnly Departure.lateStores }, { on := 9, ground := Ground.textOnly Departure.lateStoresUnsure }, { on := 10, ground := Ground.textOnly Departure.lateStores }, { on := 11, ground := Ground.textOnly Departure.lateStoresUnsure }, { on := 12, ground := Ground.phase }, { on := 13, ground := Ground.phase }], guard := none }) rfl (fun K hK => ?_) AllReadyH.nil)
            have hcx := hJ.cell1
            have hfx := hJ.frz1
            try simp only [drew_size'] at hcx hfx
            go_simp
            refine abs_K (Q := J2 w8 _ _ _) (hJ.store1 _) ?_
            clear hJ hcx hfx
            intro wa hJ
            go_wp2_with fail
            clear hHeld
            refine hK.out _ _ ⟨hJ.oldi hc0, hJ.oldi hc1, hJ.oldi hc2⟩ (fun hHeld => ?_)
            clear hK K
            try simp only [Act.put, List.setIfInBounds_toArray, List.set_cons_zero, List.set_cons_succ]
            refine wpAnyH_ready (rs := [15]) (by kernel_rfl) (by simp) ?_
            refine (AllReadyH.cons (o := { dst := none, op := Op.store 28 (Operand.tmp 4) (Operand.tmp 29), type := 0, pos := "window.go:30", after := #[{ on := 13, ground := Ground.data }, { on := 11, ground := Ground.data }, { on := 14, ground := Ground.chain }, { on := 0, ground := Ground.phase }, { on := 1, ground := Ground.phase }, { on := 2, ground := Ground.phase }, { on := 3, ground := Ground.phase }, { on := 4, ground := Ground.phase }, { on := 5, ground := Ground.phase }, { on := 6, ground := Ground.phase }, { on := 7, ground := Ground.phase }, { on := 8, ground := Ground.phase }, { on := 9, ground := Ground.phase }, { on := 10, ground := Ground.phase }, { on := 11, ground := Ground.phase }, { on := 12, ground := Ground.phase }, { on := 13, ground := Ground.phase }, { on := 14, ground := Ground.phase }], guard := none }) rfl (fun K hK => ?_) AllReadyH.nil)
            have hcx := hJ.cell2
            have hfx := hJ.frz2
            try simp only [drew_size'] at hcx hfx
            go_simp
            refine abs_K (Q := J2 w8 _ _ _) (hJ.store2 _) ?_
            clear hJ hcx hfx
            intro wa hJ
            go_wp2_with fail
            clear hHeld
            refine hK.out _ _ ⟨hJ.oldi hc0, hJ.oldi hc1, hJ.oldi hc2⟩ (fun hHeld => ?_)
            clear hK K
            try simp only [Act.put, List.setIfInBounds_toArray, List.set_cons_zero, List.set_cons_succ]
            refine wpAnyH_done (by kernel_rfl) ?_ _
            refine NoPanic.normal ?_
            clear hHeld
            go_wp2_with fail
            go_meet
            exact ⟨_, _, _, _, _, _, _, _, rfl, rfl, hJ.bun HB.out⟩
        · go_simp
          refine abs_K (Q := J2 w8 _ _ _) hJ.alloc1 ?_
          clear hJ
          intro wa hJ
          go_wp2_with fail
          clear hHeld
          refine hK.out _ _ ⟨hJ.oldi hc0, hJ.oldi hc1, hJ.oldi hc2⟩ (fun hHeld => ?_)
          clear hK K
          try simp only [Act.put, List.setIfInBounds_toArray, List.set_cons_zero, List.set_cons_succ]
          refine wpAnyH_ready (rs := [9]) (by kernel_rfl) (by simp) ?_
          refine (AllReadyH.cons (o := { dst := some 27, op := Op.call { callee := Callee.value (Operand.func 25), args := #[Operand.tmp 26], argTypes := #[30] }, type := 25, pos := "window.go:30", after := #[{ on := 8, ground := Ground.data }, { on := 5, ground := Ground.chain }], guard := none }) rfl (fun K hK => ?_) AllReadyH.nil)
          go_simp
          go_at_call 25
          with_reducible refine (limit_b _ A n c W b HLIM.out).mono ?_
          rintro e wl ⟨rfl, hbl⟩
          replace hJ := hJ.next hbl
          clear hbl
          go_wp2_with fail
          clear hHeld
          refine hK.out _ _ ⟨hJ.oldi hc0, hJ.oldi hc1, hJ.oldi hc2⟩ (fun hHeld => ?_)
          clear hK K
          try simp only [Act.put, List.setIfInBounds_toArray, List.set_cons_zero, List.set_cons_succ]
          refine wpAnyH_take (i := 10) (oi := { dst := some 28, op := Op.binOp BinOp.add 25 (Operand.tmp 27) (Operand.const (Value.int IntKind.u64 1)) 25, type := 25, pos := "window.go:30", after := #[{ on := 9, ground := Ground.data }], guard := none }) (v := ?_) rfl (by kernel_rfl) (by kernel_rfl) (by kernel_rfl) (fun _ _ _ h => h) (Or.inl ⟨by rfl, ?_⟩) (by assumption) ?_
          rotate_left
          · intro w hSw; (try dsimp only at hSw); first | (go_simp; done) | (go_simp; with_reducible rfl)
          try simp only [Act.put, List.setIfInBounds_toArray, List.set_cons_zero, List.set_cons_succ]
          refine wpAnyH_ready (rs := [11]) (by kernel_rfl) (by simp) ?_
          refine (AllReadyH.cons (o := { dst := some 29, op := Op.call { callee := Callee.value (Operand.func 40), args := #[Operand.tmp 25, Operand.tmp 28], argTypes := #[28, 25] }, type := 28, pos := "window.go:30", after := #[{ on := 7, ground := Ground.data }, { on := 10, ground := Ground.data }, { on := 9, ground := Ground.chain }], guard := none }) rfl (fun K hK => ?_) AllReadyH.nil)
          go_simp
          go_at_call 40
          with_reducible refine (from_j HB.out List.mem_cons_self hJ (by omega) u2 HV2.out).mono ?_
          rintro e wf ⟨A10, n10, c10, rfl, hJ9⟩
          clear hJ
          have hJ := hJ9
          clear hJ9
          go_wp2_with fail
          clear hHeld
          refine hK.out _ _ ⟨hJ.oldi hc0, hJ.oldi hc1, hJ.oldi hc2⟩ (fun hHeld => ?_)
          clear hK K
          try simp only [Act.put, List.setIfInBounds_toArray, List.set_cons_zero, List.set_cons_succ]
          refine wpAnyH_ready (rs := [14]) (by kernel_rfl) (by simp) ?_
          refine (AllReadyH.cons (o := { dst := none, op := Op.store 28 (Operand.tmp 3) (Operand.tmp 23), type := 0, pos := "window.go:30", after := #[{ on := 12, ground := Ground.data }, { on := 5, ground := Ground.data }, { on := 11, ground := Ground.chain }, { on := 0, ground := Ground.phase }, { on := 1, ground := Ground.phase }, { on := 2, ground := Ground.phase }, { on := 3, ground := Ground.phase }, { on := 4, ground := Ground.phase }, { on := 5, ground := Ground.phase }, { on := 6, ground := Ground.textOnly Departure.lateStores }, { on := 7, ground := Ground.textOnly Departure.lateStores }, { on := 8, ground := Ground.textOnly Departure.lateStores }, { on := 9, ground := Ground.textOnly Departure.lateStoresUnsure }, { on := 10, ground := Ground.textOnly Departure.lateStores }, { on := 11, ground := Ground.textOnly Departure.lateStoresUnsure }, { on := 12, ground := Ground.phase }, { on := 13, ground := Ground.phase }], guard := none }) rfl (fun K hK => ?_) AllReadyH.nil)
          have hcx := hJ.cell1
          have hfx := hJ.frz1
          try simp only [drew_size'] at hcx hfx
          go_simp
          refine abs_K (Q := J2 w8 _ _ _) (hJ.store1 _) ?_
          clear hJ hcx hfx
          intro wa hJ
          go_wp2_with fail
          clear hHeld
          refine hK.out _ _ ⟨hJ.oldi hc0, hJ.oldi hc1, hJ.oldi hc2⟩ (fun hHeld => ?_)
          clear hK K
          try simp only [Act.put, List.setIfInBounds_toArray, List.set_cons_zero, List.set_cons_succ]
          refine wpAnyH_ready (rs := [15]) (by kernel_rfl) (by simp) ?_
          refine (AllReadyH.cons (o := { dst := none, op := Op.store 28 (Operand.tmp 4) (Operand.tmp 29), type := 0, pos := "window.go:30", after := #[{ on := 13, ground := Ground.data }, { on := 11, ground := Ground.data }, { on := 14, ground := Ground.chain }, { on := 0, ground := Ground.phase }, { on := 1, ground := Ground.phase }, { on := 2, ground := Ground.phase }, { on := 3, ground := Ground.phase }, { on := 4, ground := Ground.phase }, { on := 5, ground := Ground.phase }, { on := 6, ground := Ground.phase }, { on := 7, ground := Ground.phase }, { on := 8, ground := Ground.phase }, { on := 9, ground := Ground.phase }, { on := 10, ground := Ground.phase }, { on := 11, ground := Ground.phase }, { on := 12, ground := Ground.phase }, { on := 13, ground := Ground.phase }, { on := 14, ground := Ground.phase }], guard := none }) rfl (fun K hK => ?_) AllReadyH.nil)
          have hcx := hJ.cell2
          have hfx := hJ.frz2
          try simp only [drew_size'] at hcx hfx
          go_simp
          refine abs_K (Q := J2 w8 _ _ _) (hJ.store2 _) ?_
          clear hJ hcx hfx
          intro wa hJ
          go_wp2_with fail
          clear hHeld
          refine hK.out _ _ ⟨hJ.oldi hc0, hJ.oldi hc1, hJ.oldi hc2⟩ (fun hHeld => ?_)
          clear hK K
          try simp only [Act.put, List.setIfInBounds_toArray, List.set_cons_zero, List.set_cons_succ]
          refine wpAnyH_done (by kernel_rfl) ?_ _
          refine NoPanic.normal ?_
          clear hHeld
          go_wp2_with fail
          go_meet
          exact ⟨_, _, _, _, _, _, _, _, rfl, rfl, hJ.bun HB.out⟩
      · go_simp
        refine abs_K (Q := J2 w8 _ _ _) hJ.alloc1 ?_
        clear hJ
        intro wa hJ
        go_wp2_with fail
        clear hHeld
        refine hK.out _ _ ⟨hJ.oldi hc0, hJ.oldi hc1, hJ.oldi hc2⟩ (fun hHeld => ?_)
        clear hK K
        try simp only [Act.put, List.setIfInBounds_toArray, List.set_cons_zero, List.set_cons_succ]
        refine wpAnyH_ready (rs := [5]) (by kernel_rfl) (by simp) ?_
        refine (AllReadyH.cons (o := { dst := some 23, op := Op.call { callee := Callee.value (Operand.func 39), args := #[Operand.tmp 19, Operand.tmp 22], argTypes := #[28, 25] }, type := 28, pos := "window.go:30", after := #[{ on := 1, ground := Ground.data }, { on := 4, ground := Ground.data }], guard := none }) rfl (fun K hK => ?_) AllReadyH.nil)
        go_simp
        go_at_call 39
        with_reducible refine (below_j HB.out List.mem_cons_self hJ (by omega) u1 HV1.out).mono ?_
        rintro e wb ⟨A9, n9, c9, rfl, hJ9⟩
        clear hJ
        have hJ := hJ9
        clear hJ9
        go_wp2_with fail
        clear hHeld
        refine hK.out _ _ ⟨hJ.oldi hc0, hJ.oldi hc1, hJ.oldi hc2⟩ (fun hHeld => ?_)
        clear hK K
        try simp only [Act.put, List.setIfInBounds_toArray, List.set_cons_zero, List.set_cons_succ]
        refine wpAnyH_ready (rs := [9]) (by kernel_rfl) (by simp) ?_
        refine (AllReadyH.cons (o := { dst := some 27, op := Op.call { callee := Callee.value (Operand.func 25), args := #[Operand.tmp 26], argTypes := #[30] }, type := 25, pos := "window.go:30", after := #[{ on := 8, ground := Ground.data }, { on := 5, ground := Ground.chain }], guard := none }) rfl (fun K hK => ?_) AllReadyH.nil)
        go_simp
        go_at_call 25
        with_reducible refine (limit_b _ A n c W b HLIM.out).mono ?_
        rintro e wl ⟨rfl, hbl⟩
        replace hJ := hJ.next hbl
        clear hbl
        go_wp2_with fail
        clear hHeld
        refine hK.out _ _ ⟨hJ.oldi hc0, hJ.oldi hc1, hJ.oldi hc2⟩ (fun hHeld => ?_)
        clear hK K
        try simp only [Act.put, List.setIfInBounds_toArray, List.set_cons_zero, List.set_cons_succ]
        refine wpAnyH_take (i := 10) (oi := { dst := some 28, op := Op.binOp BinOp.add 25 (Operand.tmp 27) (Operand.const (Value.int IntKind.u64 1)) 25, type := 25, pos := "window.go:30", after := #[{ on := 9, ground := Ground.data }], guard := none }) (v := ?_) rfl (by kernel_rfl) (by kernel_rfl) (by kernel_rfl) (fun _ _ _ h => h) (Or.inl ⟨by rfl, ?_⟩) (by assumption) ?_
        rotate_left
        · intro w hSw; (try dsimp only at hSw); first | (go_simp; done) | (go_simp; with_reducible rfl)
        try simp only [Act.put, List.setIfInBounds_toArray, List.set_cons_zero, List.set_cons_succ]
        refine wpAnyH_ready (rs := [11]) (by kernel_rfl) (by simp) ?_
        refine (AllReadyH.cons (o := { dst := some 29, op := Op.call { callee := Callee.value (Operand.func 40), args := #[Operand.tmp 25, Operand.tmp 28], argTypes := #[28, 25] }, type := 28, pos := "window.go:30", after := #[{ on := 7, ground := Ground.data }, { on := 10, ground := Ground.data }, { on := 9, ground := Ground.chain }], guard := none }) rfl (fun K hK => ?_) AllReadyH.nil)
        go_simp
        go_at_call 40
        with_reducible refine (from_j HB.out List.mem_cons_self hJ (by omega) u2 HV2.out).mono ?_
        rintro e wf ⟨A10, n10, c10, rfl, hJ9⟩
        clear hJ
        have hJ := hJ9
        clear hJ9
        go_wp2_with fail
        clear hHeld
        refine hK.out _ _ ⟨hJ.oldi hc0, hJ.oldi hc1, hJ.oldi hc2⟩ (fun hHeld => ?_)
        clear hK K
        try simp only [Act.put, List.setIfInBounds_toArray, List.set_cons_zero, List.set_cons_succ]
        refine wpAnyH_ready (rs := [14]) (by kernel_rfl) (by simp) ?_
        refine (AllReadyH.cons (o := { dst := none, op := Op.store 28 (Operand.tmp 3) (Operand.tmp 23), type := 0, pos := "window.go:30", after := #[{ on := 12, ground := Ground.data }, { on := 5, ground := Ground.data }, { on := 11, ground := Ground.chain }, { on := 0, ground := Ground.phase }, { on := 1, ground := Ground.phase }, { on := 2, ground := Ground.phase }, { on := 3, ground := Ground.phase }, { on := 4, ground := Ground.phase }, { on := 5, ground := Ground.phase }, { on := 6, ground := Ground.textOnly Departure.lateStores }, { on := 7, ground := Ground.textOnly Departure.lateStores }, { on := 8, ground := Ground.textOnly Departure.lateStores }, { on := 9, ground := Ground.textOnly Departure.lateStoresUnsure }, { on := 10, ground := Ground.textOnly Departure.lateStores }, { on := 11, ground := Ground.textOnly Departure.lateStoresUnsure }, { on := 12, ground := Ground.phase }, { on := 13, ground := Ground.phase }], guard := none }) rfl (fun K hK => ?_) AllReadyH.nil)
        have hcx := hJ.cell1
        have hfx := hJ.frz1
        try simp only [drew_size'] at hcx hfx
        go_simp
        refine abs_K (Q := J2 w8 _ _ _) (hJ.store1 _) ?_
        clear hJ hcx hfx
        intro wa hJ
        go_wp2_with fail
        clear hHeld
        refine hK.out _ _ ⟨hJ.oldi hc0, hJ.oldi hc1, hJ.oldi hc2⟩ (fun hHeld => ?_)
        clear hK K
        try simp only [Act.put, List.setIfInBounds_toArray, List.set_cons_zero, List.set_cons_succ]
        refine wpAnyH_ready (rs := [15]) (by kernel_rfl) (by simp) ?_
        refine (AllReadyH.cons (o := { dst := none, op := Op.store 28 (Operand.tmp 4) (Operand.tmp 29), type := 0, pos := "window.go:30", after := #[{ on := 13, ground := Ground.data }, { on := 11, ground := Ground.data }, { on := 14, ground := Ground.chain }, { on := 0, ground := Ground.phase }, { on := 1, ground := Ground.phase }, { on := 2, ground := Ground.phase }, { on := 3, ground := Ground.phase }, { on := 4, ground := Ground.phase }, { on := 5, ground := Ground.phase }, { on := 6, ground := Ground.phase }, { on := 7, ground := Ground.phase }, { on := 8, ground := Ground.phase }, { on := 9, ground := Ground.phase }, { on := 10, ground := Ground.phase }, { on := 11, ground := Ground.phase }, { on := 12, ground := Ground.phase }, { on := 13, ground := Ground.phase }, { on := 14, ground := Ground.phase }], guard := none }) rfl (fun K hK => ?_) AllReadyH.nil)
        have hcx := hJ.cell2
        have hfx := hJ.frz2
        try simp only [drew_size'] at hcx hfx
        go_simp
        refine abs_K (Q := J2 w8 _ _ _) (hJ.store2 _) ?_
        clear hJ hcx hfx
        intro wa hJ
        go_wp2_with fail
        clear hHeld
        refine hK.out _ _ ⟨hJ.oldi hc0, hJ.oldi hc1, hJ.oldi hc2⟩ (fun hHeld => ?_)
        clear hK K
        try simp only [Act.put, List.setIfInBounds_toArray, List.set_cons_zero, List.set_cons_succ]
        refine wpAnyH_done (by kernel_rfl) ?_ _
        refine NoPanic.normal ?_
        clear hHeld
        go_wp2_with fail
        go_meet
        exact ⟨_, _, _, _, _, _, _, _, rfl, rfl, hJ.bun HB.out⟩
  case rest =>
    obtain ⟨X1, X2, A11, n11, c11, A12, n12, c12, rfl, rfl, hb⟩ := hcut
    have HB2 := Lib.hid hb
    have k1 := hb.cell _ (List.mem_cons_of_mem _ List.mem_cons_self)
    have hc := count_b hb (List.mem_cons_of_mem _ List.mem_cons_self)
    clear hb HB
    simp only at k1
    have HC := Lib.hid hc
    clear hc
    by_cases h0 : cntL (belowL W.L u1) = 0
    · rw [h0] at HC
      go_wp2_with fail
      refine HC.out.mono ?_
      rintro e w9 ⟨rfl, hb9⟩
      have k2 := hb9.cell _ List.mem_cons_self
      have hc := count_b hb9 List.mem_cons_self
      have HBL := Lib.hid hb9.bel
      simp only at k2
      clear k1 hb9
      by_cases h1 : cntL (fromL W.L u2) = 0
      · rw [h1] at hc
        obtain rfl : R = true := by rw [HR2.out]; simp [h0, h1]
        have HC2 := Lib.hid hc
        clear hc
        go_wp2_with fail
        refine HC2.out.mono ?_
        rintro e w10 ⟨rfl, hb10⟩
        have HBL2 := Lib.hid hb10.bel
        clear hb10
        go_wp2
        go_ret
        exact ⟨rfl, HBL2.out⟩
      · obtain rfl : R = false := by rw [HR2.out]; simp [h1]
        have h1I : (((cntL (fromL W.L u2) : Nat) : Int) == 0) = false := by simp [h1]
        have HC2 := Lib.hid hc
        clear hc
        generalize cntL (fromL W.L u2) = q at *
        go_wp2_with fail
        refine HC2.out.mono ?_
        rintro e w10 ⟨rfl, hb10⟩
        have HBL2 := Lib.hid hb10.bel
        clear hb10
        go_wp2
        go_ret
        exact ⟨rfl, HBL2.out⟩
    · obtain rfl : R = false := by rw [HR2.out]; simp [h0]
      have h1I : (((cntL (belowL W.L u1) : Nat) : Int) == 0) = false := by simp [h0]
      generalize cntL (belowL W.L u1) = q at *
      go_wp2_with fail
      refine HC.out.mono ?_
      rintro e w9 ⟨rfl, hb9⟩
      have HBL := Lib.hid hb9.bel
      clear k1 hb9
      go_wp2
      go_ret
      exact ⟨rfl, HBL.out⟩
theorem right_any (w : World) (A : Option Addr) (n c : Nat) (W : Wn) (h : Wat w A n c W) (hn : n ≤ 800) :
    Calls Try.prog 27 #[wvv W A n c] w (Says w (.bool (rightW W))) := by
  by_cases hy : 1 ≤ W.width ∧ W.width ≤ 1024 ∧ W.low < 4611686018427387904
  · exact right_yes w A n c W h hn hy.1 hy.2.1 hy.2.2
  · exact right_no w A n c W hy
end Go.Proofs.Ythhmgbeigeagdaa
