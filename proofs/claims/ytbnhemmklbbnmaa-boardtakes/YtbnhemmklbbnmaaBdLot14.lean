/-
  TEXTS OF EARLIER ROUNDS, laid together: part 14.
  No statement is proved here.
-/
import Derived.Test.YtbnhemmklbbnmaaBdLot2
import Derived.Test.YtbnhemmklbbnmaaBdLot13
import Derived.Test.YtbnhemmklbbnmaaBdLot7
import Derived.BigRegion
import Derived.WalkSmall

/-! ## AlarmOne -/
namespace Go.Proofs.Ytbnhemmklbbnmaa
open Go.RowKit Go.Sort

/-- A sleeper: its block, who it is, when. -/
structure Slp where
  b : Nat
  id : Nat
  at_ : Int
instance : Inhabited Slp := ⟨⟨0, 0, 0⟩⟩
def Slp.en (s : Slp) : En := (s.id, s.at_)
def lessA (x y : Slp) : Bool := ltE x.en y.en
theorem lessA_wk : Wk lessA := ⟨fun _ _ _ => ltE_wk.tr _ _ _, fun _ _ => ltE_wk.as _ _⟩
theorem lessA_is (x y : Slp) : decide (orI (cmpI x.at_ y.at_) (cmpI (x.id : Int) (y.id : Int)) < 0) = lessA x y := by
  unfold orI cmpI lessA ltE Slp.en
  rw [Bool.eq_iff_iff]
  simp
  split <;> split <;> (try split) <;> (try split) <;> (try split) <;> omega
def pv (s : Slp) : Value := .pointer (some ⟨s.b, 0, none⟩)
def pvs (L : List Slp) : List Value := L.map pv
theorem pvs_len (L : List Slp) : (pvs L).length = L.length := by simp [pvs]
theorem pvs_app (L M : List Slp) : pvs (L ++ M) = pvs L ++ pvs M := by simp [pvs]
theorem pvs_one (L : List Slp) : ∀ u ∈ pvs L, u.oneCell' = true := by
  intro u hu
  obtain ⟨x, _, rfl⟩ := List.mem_map.1 hu
  rfl

set_option maxRecDepth 100000 in
set_option maxHeartbeats 4000000 in
theorem aless_cells (w : World) (b o n c i j : Nat) (x y : Slp) (hi : i < n) (hj : j < n)
    (pi : w.cell? ⟨b, o + i, none⟩ = some (.pointer (some ⟨x.b, 0, none⟩))) (pj : w.cell? ⟨b, o + j, none⟩ = some (.pointer (some ⟨y.b, 0, none⟩)))
    (x0 : w.cell? ⟨x.b, 0, none⟩ = some (.int .u64 (x.id : Int))) (x1 : w.cell? ⟨x.b, 1, none⟩ = some (.int .i64 x.at_))
    (y0 : w.cell? ⟨y.b, 0, none⟩ = some (.int .u64 (y.id : Int))) (y1 : w.cell? ⟨y.b, 1, none⟩ = some (.int .i64 y.at_)) :
    Calls Try.prog 116 #[.slice (some ⟨b, o, none⟩) n c, .int .i64 i, .int .i64 j] w (Says w (.bool (lessA x y))) := by
  have hiI : (i : Int) < (n : Int) := by omega
  have hjI : (j : Int) < (n : Int) := by omega
  have hi0 : (0 : Int) ≤ (i : Int) := by omega
  have hj0 : (0 : Int) ≤ (j : Int) := by omega
  go_enter Try.func116, Try.ntmps116
  go_wp2_with fail
  have H0 : ((w.cell? ⟨b, o + i, none⟩ = some (.pointer (some ⟨x.b, 0, none⟩)) ∧ w.cell? ⟨b, o + j, none⟩ = some (.pointer (some ⟨y.b, 0, none⟩)) ∧ w.cell? ⟨x.b, 0, none⟩ = some (.int .u64 (x.id : Int)) ∧ w.cell? ⟨x.b, 1, none⟩ = some (.int .i64 x.at_) ∧ w.cell? ⟨y.b, 0, none⟩ = some (.int .u64 (y.id : Int)) ∧ w.cell? ⟨y.b, 1, none⟩ = some (.int .i64 y.at_)) ∧ RowKit.Below w.heap.size w w) := ⟨⟨pi, pj, x0, x1, y0, y1⟩, RowKit.Below.refl _ _⟩
  refine wp_region_noPanic ?_
  refine wp_region_held_drew (S := (fun w' => (w'.cell? ⟨b, o + i, none⟩ = some (.pointer (some ⟨x.b, 0, none⟩)) ∧ w'.cell? ⟨b, o + j, none⟩ = some (.pointer (some ⟨y.b, 0, none⟩)) ∧ w'.cell? ⟨x.b, 0, none⟩ = some (.int .u64 (x.id : Int)) ∧ w'.cell? ⟨x.b, 1, none⟩ = some (.int .i64 x.at_) ∧ w'.cell? ⟨y.b, 0, none⟩ = some (.int .u64 (y.id : Int)) ∧ w'.cell? ⟨y.b, 1, none⟩ = some (.int .i64 y.at_)) ∧ RowKit.Below w.heap.size w w')) (by kernel_rfl) ⟨H0.1, H0.2.drew⟩ (fun hHeld => ?_)
  refine wpAnyH_take (i := 0) (oi := { dst := some 7, op := Op.move (Operand.tmp 0), type := 123, pos := "alarm.go:108", after := #[], guard := none }) (v := ?_) rfl (by kernel_rfl) (by kernel_rfl) (by kernel_rfl) (fun _ _ _ h => h) (Or.inl ⟨by rfl, ?_⟩) (by assumption) ?_
  rotate_left
  · intro w hSw; (try dsimp only at hSw); first | (go_simp; done) | (go_simp; with_reducible rfl)
  try simp only [Act.put, List.setIfInBounds_toArray, List.set_cons_zero, List.set_cons_succ]
  refine wpAnyH_take (i := 1) (oi := { dst := some 8, op := Op.move (Operand.tmp 1), type := 3, pos := "alarm.go:108", after := #[], guard := none }) (v := ?_) rfl (by kernel_rfl) (by kernel_rfl) (by kernel_rfl) (fun _ _ _ h => h) (Or.inl ⟨by rfl, ?_⟩) (by assumption) ?_
  rotate_left
  · intro w hSw; (try dsimp only at hSw); first | (go_simp; done) | (go_simp; with_reducible rfl)
  try simp only [Act.put, List.setIfInBounds_toArray, List.set_cons_zero, List.set_cons_succ]
  refine wpAnyH_take (i := 2) (oi := { dst := some 9, op := Op.indexAddr 123 (Operand.tmp 7) (Operand.tmp 8), type := 0, pos := "alarm.go:108", after := #[{ on := 0, ground := Ground.data }, { on := 1, ground := Ground.data }], guard := none }) (v := ?_) rfl (by kernel_rfl) (by kernel_rfl) (by kernel_rfl) (fun _ _ _ h => h) (Or.inl ⟨by rfl, ?_⟩) (by assumption) ?_
  rotate_left
  · intro w hSw; (try dsimp only at hSw); first | (go_simp; done) | (go_simp; with_reducible rfl)
  try simp only [Act.put, List.setIfInBounds_toArray, List.set_cons_zero, List.set_cons_succ]
  refine wpAnyH_take (i := 3) (oi := { dst := some 10, op := Op.load 126 (Operand.tmp 9), type := 126, pos := "alarm.go:108", after := #[{ on := 2, ground := Ground.data }], guard := none }) (v := ?_) rfl (by kernel_rfl) (by kernel_rfl) (by kernel_rfl) (fun _ _ _ h => h) (Or.inl ⟨by rfl, ?_⟩) (by assumption) ?_
  rotate_left
  · intro w hSw; (try dsimp only at hSw); first | (go_simp; done) | (go_simp; with_reducible rfl)
  try simp only [Act.put, List.setIfInBounds_toArray, List.set_cons_zero, List.set_cons_succ]
  refine wpAnyH_take (i := 4) (oi := { dst := some 11, op := Op.nilCheck (Operand.tmp 10), type := 0, pos := "alarm.go:108", after := #[{ on := 3, ground := Ground.data }], guard := none }) (v := ?_) rfl (by kernel_rfl) (by kernel_rfl) (by kernel_rfl) (fun _ _ _ h => h) (Or.inl ⟨by rfl, ?_⟩) (by assumption) ?_
  rotate_left
  · intro w hSw; (try dsimp only at hSw); first | (go_simp; done) | (go_simp; with_reducible rfl)
  try simp only [Act.put, List.setIfInBounds_toArray, List.set_cons_zero, List.set_cons_succ]
  refine wpAnyH_take (i := 5) (oi := { dst := some 12, op := Op.fieldAddr 128 (Operand.tmp 11) 1, type := 0, pos := "alarm.go:108", after := #[{ on := 4, ground := Ground.data }], guard := none }) (v := ?_) rfl (by kernel_rfl) (by kernel_rfl) (by kernel_rfl) (fun _ _ _ h => h) (Or.inl ⟨by rfl, ?_⟩) (by assumption) ?_
  rotate_left
  · intro w hSw; (try dsimp only at hSw); first | (go_simp; done) | (go_simp; with_reducible rfl)
  try simp only [Act.put, List.setIfInBounds_toArray, List.set_cons_zero, List.set_cons_succ]
  refine wpAnyH_take (i := 6) (oi := { dst := some 13, op := Op.load 2 (Operand.tmp 12), type := 2, pos := "alarm.go:108", after := #[{ on := 5, ground := Ground.data }], guard := none }) (v := ?_) rfl (by kernel_rfl) (by kernel_rfl) (by kernel_rfl) (fun _ _ _ h => h) (Or.inl ⟨by rfl, ?_⟩) (by assumption) ?_
  rotate_left
  · intro w hSw; (try dsimp only at hSw); first | (go_simp; done) | (go_simp; with_reducible rfl)
  try simp only [Act.put, List.setIfInBounds_toArray, List.set_cons_zero, List.set_cons_succ]
  refine wpAnyH_take (i := 7) (oi := { dst := some 14, op := Op.move (Operand.tmp 0), type := 123, pos := "alarm.go:108", after := #[], guard := none }) (v := ?_) rfl (by kernel_rfl) (by kernel_rfl) (by kernel_rfl) (fun _ _ _ h => h) (Or.inl ⟨by rfl, ?_⟩) (by assumption) ?_
  rotate_left
  · intro w hSw; (try dsimp only at hSw); first | (go_simp; done) | (go_simp; with_reducible rfl)
  try simp only [Act.put, List.setIfInBounds_toArray, List.set_cons_zero, List.set_cons_succ]
  refine wpAnyH_take (i := 8) (oi := { dst := some 15, op := Op.move (Operand.tmp 2), type := 3, pos := "alarm.go:108", after := #[], guard := none }) (v := ?_) rfl (by kernel_rfl) (by kernel_rfl) (by kernel_rfl) (fun _ _ _ h => h) (Or.inl ⟨by rfl, ?_⟩) (by assumption) ?_
  rotate_left
  · intro w hSw; (try dsimp only at hSw); first | (go_simp; done) | (go_simp; with_reducible rfl)
  try simp only [Act.put, List.setIfInBounds_toArray, List.set_cons_zero, List.set_cons_succ]
  refine wpAnyH_take (i := 9) (oi := { dst := some 16, op := Op.indexAddr 123 (Operand.tmp 14) (Operand.tmp 15), type := 0, pos := "alarm.go:108", after := #[{ on := 7, ground := Ground.data }, { on := 8, ground := Ground.data }], guard := none }) (v := ?_) rfl (by kernel_rfl) (by kernel_rfl) (by kernel_rfl) (fun _ _ _ h => h) (Or.inl ⟨by rfl, ?_⟩) (by assumption) ?_
  rotate_left
  · intro w hSw; (try dsimp only at hSw); first | (go_simp; done) | (go_simp; with_reducible rfl)
  try simp only [Act.put, List.setIfInBounds_toArray, List.set_cons_zero, List.set_cons_succ]
  refine wpAnyH_take (i := 10) (oi := { dst := some 17, op := Op.load 126 (Operand.tmp 16), type := 126, pos := "alarm.go:108", after := #[{ on := 9, ground := Ground.data }], guard := none }) (v := ?_) rfl (by kernel_rfl) (by kernel_rfl) (by kernel_rfl) (fun _ _ _ h => h) (Or.inl ⟨by rfl, ?_⟩) (by assumption) ?_
  rotate_left
  · intro w hSw; (try dsimp only at hSw); first | (go_simp; done) | (go_simp; with_reducible rfl)
  try simp only [Act.put, List.setIfInBounds_toArray, List.set_cons_zero, List.set_cons_succ]
  refine wpAnyH_take (i := 11) (oi := { dst := some 18, op := Op.nilCheck (Operand.tmp 17), type := 0, pos := "alarm.go:108", after := #[{ on := 10, ground := Ground.data }], guard := none }) (v := ?_) rfl (by kernel_rfl) (by kernel_rfl) (by kernel_rfl) (fun _ _ _ h => h) (Or.inl ⟨by rfl, ?_⟩) (by assumption) ?_
  rotate_left
  · intro w hSw; (try dsimp only at hSw); first | (go_simp; done) | (go_simp; with_reducible rfl)
  try simp only [Act.put, List.setIfInBounds_toArray, List.set_cons_zero, List.set_cons_succ]
  refine wpAnyH_take (i := 12) (oi := { dst := some 19, op := Op.fieldAddr 128 (Operand.tmp 18) 1, type := 0, pos := "alarm.go:108", after := #[{ on := 11, ground := Ground.data }], guard := none }) (v := ?_) rfl (by kernel_rfl) (by kernel_rfl) (by kernel_rfl) (fun _ _ _ h => h) (Or.inl ⟨by rfl, ?_⟩) (by assumption) ?_
  rotate_left
  · intro w hSw; (try dsimp only at hSw); first | (go_simp; done) | (go_simp; with_reducible rfl)
  try simp only [Act.put, List.setIfInBounds_toArray, List.set_cons_zero, List.set_cons_succ]
  refine wpAnyH_take (i := 13) (oi := { dst := some 20, op := Op.load 2 (Operand.tmp 19), type := 2, pos := "alarm.go:108", after := #[{ on := 12, ground := Ground.data }], guard := none }) (v := ?_) rfl (by kernel_rfl) (by kernel_rfl) (by kernel_rfl) (fun _ _ _ h => h) (Or.inl ⟨by rfl, ?_⟩) (by assumption) ?_
  rotate_left
  · intro w hSw; (try dsimp only at hSw); first | (go_simp; done) | (go_simp; with_reducible rfl)
  try simp only [Act.put, List.setIfInBounds_toArray, List.set_cons_zero, List.set_cons_succ]
  refine wpAnyH_take (i := 15) (oi := { dst := some 22, op := Op.move (Operand.tmp 0), type := 123, pos := "alarm.go:108", after := #[], guard := none }) (v := ?_) rfl (by kernel_rfl) (by kernel_rfl) (by kernel_rfl) (fun _ _ _ h => h) (Or.inl ⟨by rfl, ?_⟩) (by assumption) ?_
  rotate_left
  · intro w hSw; (try dsimp only at hSw); first | (go_simp; done) | (go_simp; with_reducible rfl)
  try simp only [Act.put, List.setIfInBounds_toArray, List.set_cons_zero, List.set_cons_succ]
  refine wpAnyH_take (i := 16) (oi := { dst := some 23, op := Op.move (Operand.tmp 1), type := 3, pos := "alarm.go:108", after := #[], guard := none }) (v := ?_) rfl (by kernel_rfl) (by kernel_rfl) (by kernel_rfl) (fun _ _ _ h => h) (Or.inl ⟨by rfl, ?_⟩) (by assumption) ?_
  rotate_left
  · intro w hSw; (try dsimp only at hSw); first | (go_simp; done) | (go_simp; with_reducible rfl)
  try simp only [Act.put, List.setIfInBounds_toArray, List.set_cons_zero, List.set_cons_succ]
  refine wpAnyH_take (i := 17) (oi := { dst := some 24, op := Op.indexAddr 123 (Operand.tmp 22) (Operand.tmp 23), type := 0, pos := "alarm.go:108", after := #[{ on := 15, ground := Ground.data }, { on := 16, ground := Ground.data }], guard := none }) (v := ?_) rfl (by kernel_rfl) (by kernel_rfl) (by kernel_rfl) (fun _ _ _ h => h) (Or.inl ⟨by rfl, ?_⟩) (by assumption) ?_
  rotate_left
  · intro w hSw; (try dsimp only at hSw); first | (go_simp; done) | (go_simp; with_reducible rfl)
  try simp only [Act.put, List.setIfInBounds_toArray, List.set_cons_zero, List.set_cons_succ]
  refine wpAnyH_take (i := 18) (oi := { dst := some 25, op := Op.load 126 (Operand.tmp 24), type := 126, pos := "alarm.go:108", after := #[{ on := 17, ground := Ground.data }], guard := none }) (v := ?_) rfl (by kernel_rfl) (by kernel_rfl) (by kernel_rfl) (fun _ _ _ h => h) (Or.inl ⟨by rfl, ?_⟩) (by assumption) ?_
  rotate_left
  · intro w hSw; (try dsimp only at hSw); first | (go_simp; done) | (go_simp; with_reducible rfl)
  try simp only [Act.put, List.setIfInBounds_toArray, List.set_cons_zero, List.set_cons_succ]
  refine wpAnyH_take (i := 19) (oi := { dst := some 26, op := Op.nilCheck (Operand.tmp 25), type := 0, pos := "alarm.go:108", after := #[{ on := 18, ground := Ground.data }], guard := none }) (v := ?_) rfl (by kernel_rfl) (by kernel_rfl) (by kernel_rfl) (fun _ _ _ h => h) (Or.inl ⟨by rfl, ?_⟩) (by assumption) ?_
  rotate_left
  · intro w hSw; (try dsimp only at hSw); first | (go_simp; done) | (go_simp; with_reducible rfl)
  try simp only [Act.put, List.setIfInBounds_toArray, List.set_cons_zero, List.set_cons_succ]
  refine wpAnyH_take (i := 20) (oi := { dst := some 27, op := Op.fieldAddr 128 (Operand.tmp 26) 0, type := 0, pos := "alarm.go:108", after := #[{ on := 19, ground := Ground.data }], guard := none }) (v := ?_) rfl (by kernel_rfl) (by kernel_rfl) (by kernel_rfl) (fun _ _ _ h => h) (Or.inl ⟨by rfl, ?_⟩) (by assumption) ?_
  rotate_left
  · intro w hSw; (try dsimp only at hSw); first | (go_simp; done) | (go_simp; with_reducible rfl)
  try simp only [Act.put, List.setIfInBounds_toArray, List.set_cons_zero, List.set_cons_succ]
  refine wpAnyH_take (i := 21) (oi := { dst := some 28, op := Op.load 34 (Operand.tmp 27), type := 34, pos := "alarm.go:108", after := #[{ on := 20, ground := Ground.data }], guard := none }) (v := ?_) rfl (by kernel_rfl) (by kernel_rfl) (by kernel_rfl) (fun _ _ _ h => h) (Or.inl ⟨by rfl, ?_⟩) (by assumption) ?_
  rotate_left
  · intro w hSw; (try dsimp only at hSw); first | (go_simp; done) | (go_simp; with_reducible rfl)
  try simp only [Act.put, List.setIfInBounds_toArray, List.set_cons_zero, List.set_cons_succ]
  refine wpAnyH_take (i := 22) (oi := { dst := some 29, op := Op.move (Operand.tmp 0), type := 123, pos := "alarm.go:108", after := #[], guard := none }) (v := ?_) rfl (by kernel_rfl) (by kernel_rfl) (by kernel_rfl) (fun _ _ _ h => h) (Or.inl ⟨by rfl, ?_⟩) (by assumption) ?_
  rotate_left
  · intro w hSw; (try dsimp only at hSw); first | (go_simp; done) | (go_simp; with_reducible rfl)
  try simp only [Act.put, List.setIfInBounds_toArray, List.set_cons_zero, List.set_cons_succ]
  refine wpAnyH_take (i := 23) (oi := { dst := some 30, op := Op.move (Operand.tmp 2), type := 3, pos := "alarm.go:108", after := #[], guard := none }) (v := ?_) rfl (by kernel_rfl) (by kernel_rfl) (by kernel_rfl) (fun _ _ _ h => h) (Or.inl ⟨by rfl, ?_⟩) (by assumption) ?_
  rotate_left
  · intro w hSw; (try dsimp only at hSw); first | (go_simp; done) | (go_simp; with_reducible rfl)
  try simp only [Act.put, List.setIfInBounds_toArray, List.set_cons_zero, List.set_cons_succ]
  refine wpAnyH_take (i := 24) (oi := { dst := some 31, op := Op.indexAddr 123 (Operand.tmp 29) (Operand.tmp 30), type := 0, pos := "alarm.go:108", after := #[{ on := 22, ground := Ground.data }, { on := 23, ground := Ground.data }], guard := none }) (v := ?_) rfl (by kernel_rfl) (by kernel_rfl) (by kernel_rfl) (fun _ _ _ h => h) (Or.inl ⟨by rfl, ?_⟩) (by assumption) ?_
  rotate_left
  · intro w hSw; (try dsimp only at hSw); first | (go_simp; done) | (go_simp; with_reducible rfl)
  try simp only [Act.put, List.setIfInBounds_toArray, List.set_cons_zero, List.set_cons_succ]
  refine wpAnyH_take (i := 25) (oi := { dst := some 32, op := Op.load 126 (Operand.tmp 31), type := 126, pos := "alarm.go:108", after := #[{ on := 24, ground := Ground.data }], guard := none }) (v := ?_) rfl (by kernel_rfl) (by kernel_rfl) (by kernel_rfl) (fun _ _ _ h => h) (Or.inl ⟨by rfl, ?_⟩) (by assumption) ?_
  rotate_left
  · intro w hSw; (try dsimp only at hSw); first | (go_simp; done) | (go_simp; with_reducible rfl)
  try simp only [Act.put, List.setIfInBounds_toArray, List.set_cons_zero, List.set_cons_succ]
  refine wpAnyH_take (i := 26) (oi := { dst := some 33, op := Op.nilCheck (Operand.tmp 32), type := 0, pos := "alarm.go:108", after := #[{ on := 25, ground := Ground.data }], guard := none }) (v := ?_) rfl (by kernel_rfl) (by kernel_rfl) (by kernel_rfl) (fun _ _ _ h => h) (Or.inl ⟨by rfl, ?_⟩) (by assumption) ?_
  rotate_left
  · intro w hSw; (try dsimp only at hSw); first | (go_simp; done) | (go_simp; with_reducible rfl)
  try simp only [Act.put, List.setIfInBounds_toArray, List.set_cons_zero, List.set_cons_succ]
  refine wpAnyH_take (i := 27) (oi := { dst := some 34, op := Op.fieldAddr 128 (Operand.tmp 33) 0, type := 0, pos := "alarm.go:108", after := #[{ on := 26, ground := Ground.data }], guard := none }) (v := ?_) rfl (by kernel_rfl) (by kernel_rfl) (by kernel_rfl) (fun _ _ _ h => h) (Or.inl ⟨by rfl, ?_⟩) (by assumption) ?_
  rotate_left
  · intro w hSw; (try dsimp only at hSw); first | (go_simp; done) | (go_simp; with_reducible rfl)
  try simp only [Act.put, List.setIfInBounds_toArray, List.set_cons_zero, List.set_cons_succ]
  refine wpAnyH_take (i := 28) (oi := { dst := some 35, op := Op.load 34 (Operand.tmp 34), type := 34, pos := "alarm.go:108", after := #[{ on := 27, ground := Ground.data }], guard := none }) (v := ?_) rfl (by kernel_rfl) (by kernel_rfl) (by kernel_rfl) (fun _ _ _ h => h) (Or.inl ⟨by rfl, ?_⟩) (by assumption) ?_
  rotate_left
  · intro w hSw; (try dsimp only at hSw); first | (go_simp; done) | (go_simp; with_reducible rfl)
  try simp only [Act.put, List.setIfInBounds_toArray, List.set_cons_zero, List.set_cons_succ]
  refine wpAnyH_ready (rs := [14]) (by kernel_rfl) (by simp) ?_
  refine (AllReadyH.cons (o := { dst := some 21, op := Op.call { callee := Callee.value (Operand.func 119), args := #[Operand.tmp 13, Operand.tmp 20], argTypes := #[2, 2] }, type := 3, pos := "alarm.go:108", after := #[{ on := 6, ground := Ground.data }, { on := 13, ground := Ground.data }], guard := none }) rfl (fun K hK => ?_) AllReadyH.nil)
  go_simp
  go_at_call 119
  with_reducible refine (cmp64_any _ _ _).mono ?_
  rintro e w5 ⟨rfl, rfl⟩
  have hKeep := hHeld
  go_wp2_with fail
  clear hHeld
  refine hK.out _ _ hKeep (fun hHeld => ?_)
  clear hK K
  try simp only [Act.put, List.setIfInBounds_toArray, List.set_cons_zero, List.set_cons_succ]
  refine wpAnyH_ready (rs := [29]) (by kernel_rfl) (by simp) ?_
  refine (AllReadyH.cons (o := { dst := some 36, op := Op.call { callee := Callee.value (Operand.func 120), args := #[Operand.tmp 28, Operand.tmp 35], argTypes := #[34, 34] }, type := 3, pos := "alarm.go:108", after := #[{ on := 21, ground := Ground.data }, { on := 28, ground := Ground.data }, { on := 14, ground := Ground.chain }], guard := none }) rfl (fun K hK => ?_) AllReadyH.nil)
  go_simp
  go_at_call 120
  with_reducible refine (cmpU_any _ _ _).mono ?_
  rintro e w5 ⟨rfl, rfl⟩
  have hKeep := hHeld
  go_wp2_with fail
  clear hHeld
  refine hK.out _ _ hKeep (fun hHeld => ?_)
  clear hK K
  try simp only [Act.put, List.setIfInBounds_toArray, List.set_cons_zero, List.set_cons_succ]
  refine wpAnyH_ready (rs := [30]) (by kernel_rfl) (by simp) ?_
  refine (AllReadyH.cons (o := { dst := some 37, op := Op.buildSlice 181 2 #[(0, Operand.tmp 21), (1, Operand.tmp 36)], type := 181, pos := "alarm.go:108", after := #[{ on := 14, ground := Ground.data }, { on := 29, ground := Ground.data }], guard := none }) rfl (fun K hK => ?_) AllReadyH.nil)
  go_simp
  refine absW (Q := fun w' => ((w'.cell? ⟨b, o + i, none⟩ = some (.pointer (some ⟨x.b, 0, none⟩)) ∧ w'.cell? ⟨b, o + j, none⟩ = some (.pointer (some ⟨y.b, 0, none⟩)) ∧ w'.cell? ⟨x.b, 0, none⟩ = some (.int .u64 (x.id : Int)) ∧ w'.cell? ⟨x.b, 1, none⟩ = some (.int .i64 x.at_) ∧ w'.cell? ⟨y.b, 0, none⟩ = some (.int .u64 (y.id : Int)) ∧ w'.cell? ⟨y.b, 1, none⟩ = some (.int .i64 y.at_)) ∧ RowKit.Below w.heap.size w w') ∧ w'.cell? ⟨w.heap.size, 0, none⟩ = some (.int .i64 (cmpI x.at_ y.at_)) ∧ w'.cell? ⟨w.heap.size, 1, none⟩ = some (.int .i64 (cmpI (x.id : Int) (y.id : Int))))
    (by
      have hb := (below_box w (.cells #[.int .i64 (cmpI x.at_ y.at_), .int .i64 (cmpI (x.id : Int) (y.id : Int))] 3)).drew
      exact ⟨⟨⟨ever_cell pi _ hb, ever_cell pj _ hb, ever_cell x0 _ hb, ever_cell x1 _ hb, ever_cell y0 _ hb, ever_cell y1 _ hb⟩, hb⟩, cell_last w _ _ _ 0 rfl, cell_last w _ _ _ 1 rfl⟩) ?_
  rintro w5 ⟨hKeep, hn0, hn1⟩
  go_wp2_with fail
  clear hHeld
  refine hK.out _ _ hKeep (fun hHeld => ?_)
  clear hK K
  try simp only [Act.put, List.setIfInBounds_toArray, List.set_cons_zero, List.set_cons_succ]
  refine wpAnyH_ready (rs := [31]) (by kernel_rfl) (by simp) ?_
  refine (AllReadyH.cons (o := { dst := some 38, op := Op.call { callee := Callee.value (Operand.func 118), args := #[Operand.tmp 37], argTypes := #[181] }, type := 3, pos := "alarm.go:108", after := #[{ on := 30, ground := Ground.data }, { on := 29, ground := Ground.chain }], guard := none }) rfl (fun K hK => ?_) AllReadyH.nil)
  go_simp
  go_at_call 118
  with_reducible refine (or_any _ _ _ _ hn0 hn1).mono ?_
  rintro e w6 ⟨rfl, rfl⟩
  have hKeep := hHeld
  go_wp2_with fail
  clear hHeld
  refine hK.out _ _ hKeep (fun hHeld => ?_)
  clear hK K
  try simp only [Act.put, List.setIfInBounds_toArray, List.set_cons_zero, List.set_cons_succ]
  refine wpAnyH_take (i := 32) (oi := { dst := some 39, op := Op.binOp BinOp.lss 3 (Operand.tmp 38) (Operand.const (Value.int IntKind.i64 0)) 3, type := 4, pos := "alarm.go:108", after := #[{ on := 31, ground := Ground.data }], guard := none }) (v := ?_) rfl (by kernel_rfl) (by kernel_rfl) (by kernel_rfl) (fun _ _ _ h => h) (Or.inl ⟨by rfl, ?_⟩) (by assumption) ?_
  rotate_left
  · intro w hSw; (try dsimp only at hSw); first | (go_simp; done) | (go_simp; with_reducible rfl)
  try simp only [Act.put, List.setIfInBounds_toArray, List.set_cons_zero, List.set_cons_succ]
  refine wpAnyH_take (i := 33) (oi := { dst := some 6, op := Op.assign (Operand.tmp 39), type := 4, pos := "alarm.go:108", after := #[{ on := 32, ground := Ground.data }, { on := 31, ground := Ground.chain }, { on := 0, ground := Ground.phase }, { on := 1, ground := Ground.phase }, { on := 2, ground := Ground.phase }, { on := 3, ground := Ground.phase }, { on := 4, ground := Ground.phase }, { on := 5, ground := Ground.phase }, { on := 6, ground := Ground.phase }, { on := 7, ground := Ground.phase }, { on := 8, ground := Ground.phase }, { on := 9, ground := Ground.phase }, { on := 10, ground := Ground.phase }, { on := 11, ground := Ground.phase }, { on := 12, ground := Ground.phase }, { on := 13, ground := Ground.phase }, { on := 14, ground := Ground.phase }, { on := 15, ground := Ground.phase }, { on := 16, ground := Ground.phase }, { on := 17, ground := Ground.phase }, { on := 18, ground := Ground.phase }, { on := 19, ground := Ground.phase }, { on := 20, ground := Ground.phase }, { on := 21, ground := Ground.phase }, { on := 22, ground := Ground.phase }, { on := 23, ground := Ground.phase }, { on := 24, ground := Ground.phase }, { on := 25, ground := Ground.phase }, { on := 26, ground := Ground.phase }, { on := 27, ground := Ground.phase }, { on := 28, ground := Ground.phase }, { on := 29, ground := Ground.phase }, { on := 30, ground := Ground.phase }, { on := 31, ground := Ground.phase }, { on := 32, ground := Ground.phase }], guard := none }) (v := ?_) rfl (by kernel_rfl) (by kernel_rfl) (by kernel_rfl) (fun _ _ _ h => h) (Or.inl ⟨by rfl, ?_⟩) (by assumption) ?_
  rotate_left
  · intro w hSw; (try dsimp only at hSw); first | (go_simp; done) | (go_simp; with_reducible rfl)
  try simp only [Act.put, List.setIfInBounds_toArray, List.set_cons_zero, List.set_cons_succ]
  refine wpAnyH_done (by kernel_rfl) ?_ _
  refine NoPanic.normal ?_
  skip
  go_wp2_with fail
  go_ret
  refine ⟨?_, hHeld.2⟩
  rw [← lessA_is x y]
  rfl
set_option maxRecDepth 100000 in
set_option maxHeartbeats 4000000 in
theorem aswap_cells (w : World) (b o n c i j : Nat) (x y : Slp) (hi : i < n) (hj : j < n) (hij : i ≠ j) (hbx : b ≠ x.b) (hby : b ≠ y.b) (hxy : x.b ≠ y.b)
    (pi : w.cell? ⟨b, o + i, none⟩ = some (.pointer (some ⟨x.b, 0, none⟩))) (fi : w.frozen? ⟨b, o + i, none⟩ = false)
    (pj : w.cell? ⟨b, o + j, none⟩ = some (.pointer (some ⟨y.b, 0, none⟩))) (fj : w.frozen? ⟨b, o + j, none⟩ = false)
    (x2 : w.cell? ⟨x.b, 2, none⟩ = some (.int .i64 (i : Int))) (fx : w.frozen? ⟨x.b, 2, none⟩ = false)
    (y2 : w.cell? ⟨y.b, 2, none⟩ = some (.int .i64 (j : Int))) (fy : w.frozen? ⟨y.b, 2, none⟩ = false) :
    Calls Try.prog 117 #[.slice (some ⟨b, o, none⟩) n c, .int .i64 i, .int .i64 j] w (fun e w' => e = .returned (.tuple #[]) ∧ w' = (((((w.setCell ⟨b, o + i, none⟩ (.pointer (some ⟨y.b, 0, none⟩))).setCell ⟨b, o + j, none⟩ (.pointer (some ⟨x.b, 0, none⟩))).drew).setCell ⟨y.b, 2, none⟩ (.int .i64 (i : Int))).setCell ⟨x.b, 2, none⟩ (.int .i64 (j : Int))).drew) := by
  have hiI : (i : Int) < (n : Int) := by omega
  have hjI : (j : Int) < (n : Int) := by omega
  have hi0 : (0 : Int) ≤ (i : Int) := by omega
  have hj0 : (0 : Int) ≤ (j : Int) := by omega
  have ne00 : o + i ≠ o + j := by omega
  have ne01 : o + j ≠ o + i := by omega
  have hxb : x.b ≠ b := fun e => hbx e.symm
  have hyb : y.b ≠ b := fun e => hby e.symm
  have hyx : y.b ≠ x.b := fun e => hxy e.symm
  clear hij hi hj
  go_enter Try.func117, Try.ntmps117
  go_wp2_with fail
  go_region
  go_wp2_with fail
  go_region
  go_wp2
  go_end0
  exact ⟨rfl, rfl⟩
theorem alen_any (w : World) (A : Option Addr) (n c : Nat) : Calls Try.prog 115 #[.slice A n c] w fun e w' => e = .returned (.int .i64 n) ∧ w = w' := by
  go_enter Try.func115, Try.ntmps115
  go_wp2
  go_ret
  exact ⟨rfl, rfl⟩
end Go.Proofs.Ytbnhemmklbbnmaa

/-! ## AlarmUp -/
namespace Go.Proofs.Ytbnhemmklbbnmaa
open Go.RowKit Go.Sort

/-- A sleeper's cells; p: its place. -/
structure Ha (w : World) (s : Slp) (p : Nat) : Prop where
  c0 : w.cell? ⟨s.b, 0, none⟩ = some (.int .u64 (s.id : Int))
  c1 : w.cell? ⟨s.b, 1, none⟩ = some (.int .i64 s.at_)
  c2 : w.cell? ⟨s.b, 2, none⟩ = some (.int .i64 (p : Int))
  fz : ∀ o, w.frozen? ⟨s.b, o, none⟩ = false
theorem Ha.kept {w w' : World} {s : Slp} {p : Nat} (h : Ha w s p) (hb : w'.heap[s.b]? = w.heap[s.b]?) : Ha w' s p :=
  ⟨(World.cell?_of_block (a := ⟨s.b, 0, none⟩) hb).trans h.c0, (World.cell?_of_block (a := ⟨s.b, 1, none⟩) hb).trans h.c1, (World.cell?_of_block (a := ⟨s.b, 2, none⟩) hb).trans h.c2, fun o => (World.frozen?_of_block (a := ⟨s.b, o, none⟩) hb).trans (h.fz o)⟩
theorem Ha.lt {w : World} {s : Slp} {p : Nat} (h : Ha w s p) : s.b < w.heap.size := World.block_lt_of_cell? w _ h.c0
theorem Ha.place {w : World} {s : Slp} {p : Nat} (h : Ha w s p) (q : Nat) : Ha (w.setCell ⟨s.b, 2, none⟩ (.int .i64 (q : Int))) s q :=
  ⟨(World.cell?_setCell_other _ _ _ _ (by simp)).trans h.c0, (World.cell?_setCell_other _ _ _ _ (by simp)).trans h.c1, World.cell?_setCell_same _ _ _ h.c2, fun o => by rw [World.frozen?_setCell]; exact h.fz o⟩
theorem Ha.drew {w : World} {s : Slp} {p : Nat} (h : Ha w s p) : Ha w.drew s p := ⟨h.c0, h.c1, h.c2, h.fz⟩
theorem setCell_drew (w : World) (a : Addr) (v : Value) : (w.drew).setCell a v = (w.setCell a v).drew := by
  unfold World.setCell World.drew
  split <;> rfl
theorem Only.drew {S : Nat → Prop} {a b : World} (h : Only S a b) : Only S a b.drew := ⟨h.os, h.tape, h.output, h.size, h.block⟩
/-- The line: its variable is the second cell of block a; its row is one of the call's own, and holds d's sleepers, each at its place. -/
structure Hq (w : World) (base a : Nat) (A : Option Addr) (n c : Nat) (d : Array Slp) : Prop where
  cell : w.cell? ⟨a, 1, none⟩ = some (.slice A n c)
  frz : w.frozen? ⟨a, 1, none⟩ = false
  own : w.ownsRow base 126 1 (.slice A n c) n (pvs d.toList)
  off : (Value.slice A n c).ownBlock ≠ some a
  sl : ∀ i, i < n → Ha w d[i]! i
  apart : ∀ i j, i < n → j < n → d[i]!.b = d[j]!.b → i = j
  out : ∀ i, i < n → d[i]!.b ≠ a ∧ (Value.slice A n c).ownBlock ≠ some d[i]!.b
/-- The row's block and the sleepers'. -/
def Ft (A : Option Addr) (n c : Nat) (d : Array Slp) (k : Nat) : Prop := (Value.slice A n c).ownBlock = some k ∨ ∃ s ∈ d.toList, s.b = k
theorem Ft.perm {A : Option Addr} {n c n' c' : Nat} {d d' : Array Slp} (hp : d'.toList.Perm d.toList) {k : Nat} (h : Ft A n' c' d' k) : Ft A n c d k := by
  rcases h with h | ⟨s, hs, e⟩
  · exact .inl (by rw [own_block A n c n' c']; exact h)
  · exact .inr ⟨s, hp.mem_iff.1 hs, e⟩
theorem Only.andBelow {S : Nat → Prop} {a b c : World} (h : Only S a b) (hb : RowKit.Below b.heap.size b c) : Only S a c := h.trans (Only.of_below (S := S) hb) (fun _ _ k => k)
section
variable {w w' : World} {base a n c : Nat} {A : Option Addr} {d : Array Slp}
theorem Hq.size (h : Hq w base a A n c d) : d.size = n := by have := h.own.1; rw [pvs_len] at this; simpa using (show d.toList.length = n by omega)
theorem Hq.lt (h : Hq w base a A n c d) : a < w.heap.size := World.block_lt_of_cell? w _ h.cell
theorem get_mem {d : Array Slp} {i : Nat} (h : i < d.size) : d[i]! ∈ d.toList := by rw [getElem!_pos d i h]; simp
theorem mem_get {d : Array Slp} {s : Slp} (h : s ∈ d.toList) : ∃ i, i < d.size ∧ d[i]! = s := by
  obtain ⟨i, hi, e⟩ := List.getElem_of_mem h
  refine ⟨i, by simpa using hi, ?_⟩
  rw [getElem!_pos d i (by simpa using hi)]
  simpa using e
theorem Hq.ft (h : Hq w base a A n c d) {i : Nat} (hi : i < n) : Ft A n c d d[i]!.b := .inr ⟨_, get_mem (by rw [h.size]; exact hi), rfl⟩
/-- Other blocks have turned. -/
theorem Hq.only {Q : Nat → Prop} (h : Hq w base a A n c d) (ho : Only Q w w') (hq : ∀ k, k < w.heap.size → Q k → k ≠ a ∧ ¬ Ft A n c d k) : Hq w' base a A n c d := by
  have kp : ∀ k, k < w.heap.size → (k = a ∨ Ft A n c d k) → w'.heap[k]? = w.heap[k]? := fun k hk hs => ho.block k hk (fun hQ => by
    have := hq k hk hQ
    rcases hs with hs | hs
    · exact this.1 hs
    · exact this.2 hs)
  refine ⟨(World.cell?_of_block (a := ⟨a, 1, none⟩) (kp a h.lt (.inl rfl))).trans h.cell, (World.frozen?_of_block (a := ⟨a, 1, none⟩) (kp a h.lt (.inl rfl))).trans h.frz, ?_, h.off, fun i hi => ?_, h.apart, h.out⟩
  · exact own_same h.own (fun b hb => kp b (h.own.lt b hb).2 (.inr (.inl hb)))
  · exact (h.sl i hi).kept (kp _ (h.sl i hi).lt (.inr (h.ft hi)))
theorem Hq.below (h : Hq w base a A n c d) (hb : RowKit.Below w.heap.size w w') : Hq w' base a A n c d := h.only (Only.of_below (S := fun _ => False) hb) (fun _ _ k => k.elim)
theorem Hq.row (h : Hq w base a A n c d) (hn : 0 < n) : ∃ rb, A = some ⟨rb, 0, none⟩ := by
  rcases h.own.2 with ⟨_, h0⟩ | ⟨rb, cap, cur, hv, _⟩
  · omega
  · injection hv with e1 e2 e3
    exact ⟨rb, e1⟩
theorem Hq.at_ {rb i : Nat} (h : Hq w base a (some ⟨rb, 0, none⟩) n c d) (hi : i < n) : w.cell? ⟨rb, i, none⟩ = some (.pointer (some ⟨d[i]!.b, 0, none⟩)) := by
  rw [h.own.cellAt i (by omega)]
  have hz := h.size
  have : d.toList[i]? = some d[i]! := by
    rw [List.getElem?_eq_getElem (by simpa [hz] using hi), getElem!_pos d i (by omega)]
    simp
  simp [pvs, this, pv]
end
theorem pvs_swp {d : Array Slp} {i j : Nat} : pvs (swp d i j).toList = ((pvs d.toList).set i (pv d[j]!)).set j (pv d[i]!) := by simp [swp, pvs, List.map_set]
set_option maxRecDepth 100000 in
theorem aless_own (w : World) (base a rb n c i j : Nat) (d : Array Slp) (h : Hq w base a (some ⟨rb, 0, none⟩) n c d) (hi : i < n) (hj : j < n) :
    Calls Try.prog 116 #[.slice (some ⟨rb, 0, none⟩) n c, .int .i64 i, .int .i64 j] w (Says w (.bool (lessA d[i]! d[j]!))) := by
  have hx := h.sl i hi
  have hy := h.sl j hj
  exact aless_cells w rb 0 n c i j _ _ hi hj (by rw [Nat.zero_add]; exact h.at_ hi) (by rw [Nat.zero_add]; exact h.at_ hj) hx.c0 hx.c1 hy.c0 hy.c1
def Swapped (w : World) (base a rb n c i j : Nat) (d : Array Slp) (e : Ending) (w' : World) : Prop :=
  e = .returned (.tuple #[]) ∧ Hq w' base a (some ⟨rb, 0, none⟩) n c (swp d i j) ∧ Only (Ft (some ⟨rb, 0, none⟩) n c d) w w'
theorem aswap_own (w : World) (base a rb n c i j : Nat) (d : Array Slp) (h : Hq w base a (some ⟨rb, 0, none⟩) n c d) (hi : i < n) (hj : j < n) (hij : i ≠ j) :
    Calls Try.prog 117 #[.slice (some ⟨rb, 0, none⟩) n c, .int .i64 i, .int .i64 j] w (Swapped w base a rb n c i j d) := by
  have hx := h.sl i hi
  have hy := h.sl j hj
  have hox := h.out i hi
  have hoy := h.out j hj
  have hbx : rb ≠ d[i]!.b := fun e => hox.2 (by rw [← e]; rfl)
  have hby : rb ≠ d[j]!.b := fun e => hoy.2 (by rw [← e]; rfl)
  have hxy : d[i]!.b ≠ d[j]!.b := fun e => hij (h.apart i j hi hj e)
  have hz := h.size
  have hra : rb ≠ a := fun e => h.off (by rw [← e]; rfl)
  refine (aswap_cells w rb 0 n c i j d[i]! d[j]! hi hj hij hbx hby hxy (by rw [Nat.zero_add]; exact h.at_ hi) (h.own.frozenAt _) (by rw [Nat.zero_add]; exact h.at_ hj) (h.own.frozenAt _) hx.c2 (hx.fz 2) hy.c2 (hy.fz 2)).mono ?_
  rintro e w' ⟨rfl, rfl⟩
  rw [Nat.zero_add, Nat.zero_add, setCell_drew, setCell_drew]
  have s1 := h.own.stored i (pv d[j]!)
  have s2 := s1.1.stored j (pv d[i]!)
  rw [← pvs_swp] at s2
  unfold pv at s1 s2
  have o12 : Only (Ft (some ⟨rb, 0, none⟩) n c d) w ((w.setCell ⟨rb, i, none⟩ (.pointer (some ⟨d[j]!.b, 0, none⟩))).setCell ⟨rb, j, none⟩ (.pointer (some ⟨d[i]!.b, 0, none⟩))) :=
    Only.of_grown (grown_trans s1.2 s2.2) (fun k e => by injection e with e; subst e; exact .inl rfl)
  have keep12 : ∀ k, k ≠ rb → ((w.setCell ⟨rb, i, none⟩ (.pointer (some ⟨d[j]!.b, 0, none⟩))).setCell ⟨rb, j, none⟩ (.pointer (some ⟨d[i]!.b, 0, none⟩))).heap[k]? = w.heap[k]? := fun k hk =>
    (RowKit.Below.heap_setCell _ ⟨rb, j, none⟩ _ k hk).trans (RowKit.Below.heap_setCell w ⟨rb, i, none⟩ _ k hk)
  have hx2 := hx.kept (keep12 _ (fun e => hbx e.symm))
  have hy2 := hy.kept (keep12 _ (fun e => hby e.symm))
  have hrest : ∀ k, k < n → Ha ((w.setCell ⟨rb, i, none⟩ (.pointer (some ⟨d[j]!.b, 0, none⟩))).setCell ⟨rb, j, none⟩ (.pointer (some ⟨d[i]!.b, 0, none⟩))) d[k]! k := fun k hk =>
    (h.sl k hk).kept (keep12 _ (fun e => (h.out k hk).2 (by rw [e]; rfl)))
  have hcell2 := (World.cell?_of_block (a := ⟨a, 1, none⟩) (keep12 a (fun e => hra e.symm))).trans h.cell
  have hfrz2 := (World.frozen?_of_block (a := ⟨a, 1, none⟩) (keep12 a (fun e => hra e.symm))).trans h.frz
  have hown2 := s2.1
  clear s1 s2
  generalize (w.setCell ⟨rb, i, none⟩ (.pointer (some ⟨d[j]!.b, 0, none⟩))).setCell ⟨rb, j, none⟩ (.pointer (some ⟨d[i]!.b, 0, none⟩)) = w2 at *
  have hy3 := hy2.place i
  have hx3 := hx2.kept (RowKit.Below.heap_setCell w2 ⟨d[j]!.b, 2, none⟩ (.int .i64 (i : Int)) d[i]!.b hxy)
  have hx4 := hx3.place j
  have keep34 : ∀ k, k ≠ d[j]!.b → k ≠ d[i]!.b → (((w2.setCell ⟨d[j]!.b, 2, none⟩ (.int .i64 (i : Int))).setCell ⟨d[i]!.b, 2, none⟩ (.int .i64 (j : Int)))).heap[k]? = w2.heap[k]? := fun k h1 h2 =>
    (RowKit.Below.heap_setCell _ ⟨d[i]!.b, 2, none⟩ _ k h2).trans (RowKit.Below.heap_setCell w2 ⟨d[j]!.b, 2, none⟩ _ k h1)
  have hy4 := hy3.kept (RowKit.Below.heap_setCell (w2.setCell ⟨d[j]!.b, 2, none⟩ (.int .i64 (i : Int))) ⟨d[i]!.b, 2, none⟩ (.int .i64 (j : Int)) d[j]!.b (fun e => hxy e.symm))
  have g := swp_at (d := d) (i := i) (j := j) (by omega) (by omega)
  have h34 : Only (Ft (some ⟨rb, 0, none⟩) n c d) w2 ((w2.setCell ⟨d[j]!.b, 2, none⟩ (.int .i64 (i : Int))).setCell ⟨d[i]!.b, 2, none⟩ (.int .i64 (j : Int))) :=
    ((Only.setCell w2 d[j]!.b 2 _).mono (fun k _ e => by rw [e]; exact h.ft hj)).trans ((Only.setCell _ d[i]!.b 2 _).mono (S2 := Ft (some ⟨rb, 0, none⟩) n c d) (fun k _ e => by rw [e]; exact h.ft hi)) (fun _ _ k => k)
  have hfin : Only (Ft (some ⟨rb, 0, none⟩) n c d) w ((w2.setCell ⟨d[j]!.b, 2, none⟩ (.int .i64 (i : Int))).setCell ⟨d[i]!.b, 2, none⟩ (.int .i64 (j : Int))).drew.drew := (o12.trans h34 (fun _ _ k => k)).drew.drew
  refine ⟨rfl, ⟨?_, ?_, ?_, h.off, fun k hk => ?_, fun k l hk hl e => ?_, fun k hk => ?_⟩, hfin⟩
  · exact (World.cell?_of_block (a := ⟨a, 1, none⟩) (keep34 a (fun e => hoy.1 e.symm) (fun e => hox.1 e.symm))).trans hcell2
  · exact (World.frozen?_of_block (a := ⟨a, 1, none⟩) (keep34 a (fun e => hoy.1 e.symm) (fun e => hox.1 e.symm))).trans hfrz2
  · refine own_same hown2 (fun b hb => ?_)
    have hb2 : b = rb := by injection hb with hb; exact hb.symm
    subst hb2
    exact keep34 b hby hbx
  · rw [g k]
    by_cases e1 : k = j
    · subst e1; rw [if_pos rfl]; exact hx4.drew.drew
    · rw [if_neg e1]
      by_cases e2 : k = i
      · subst e2; rw [if_pos rfl]; exact hy4.drew.drew
      · rw [if_neg e2]
        exact (hrest k hk).kept (keep34 _ (fun e => e1 (h.apart k j hk hj e)) (fun e => e2 (h.apart k i hk hi e)))
  · rw [g k, g l] at e
    split at e <;> split at e <;> (try split at e) <;> (try split at e)
    all_goals first
      | omega
      | (have := h.apart _ _ (by assumption) (by assumption) e; omega)
  · rw [g k]
    split
    · exact hox
    · split
      · exact hoy
      · exact h.out k hk
def hva (a : Nat) : Value := .iface 143 (.pointer (some ⟨a, 1, none⟩))
section
variable {a : Nat} {w : World} {v : Value}
theorem ameth_len (h : w.cell? ⟨a, 1, none⟩ = some v) : (method 284 143 (.pointer (some ⟨a, 1, none⟩)) "Len").run Try.prog w = .ok (115, v) w :=
  method_ptr (by kernel_rfl) Try.underlying143 (by simp [loadVar, h])
theorem ameth_less (h : w.cell? ⟨a, 1, none⟩ = some v) : (method 284 143 (.pointer (some ⟨a, 1, none⟩)) "Less").run Try.prog w = .ok (116, v) w :=
  method_ptr (by kernel_rfl) Try.underlying143 (by simp [loadVar, h])
theorem ameth_swap (h : w.cell? ⟨a, 1, none⟩ = some v) : (method 284 143 (.pointer (some ⟨a, 1, none⟩)) "Swap").run Try.prog w = .ok (117, v) w :=
  method_ptr (by kernel_rfl) Try.underlying143 (by simp [loadVar, h])
end
theorem ameth_push (a : Addr) (w : World) : (method 284 143 (.pointer (some a)) "Push").run Try.prog w = .ok (123, .pointer (some a)) w := by kernel_rfl
theorem ameth_pop (a : Addr) (w : World) : (method 284 143 (.pointer (some a)) "Pop").run Try.prog w = .ok (122, .pointer (some a)) w := by kernel_rfl
def AUpRel (w : World) (base a rb n c m : Nat) (d : Array Slp) (gk : Nat) (vj : Value) (wr : World) : Prop :=
  ∃ (j : Nat) (dk : Array Slp), vj = .int .i64 (j : Int) ∧ j < m ∧ j ≤ gk ∧ Hq wr base a (some ⟨rb, 0, none⟩) n c dk ∧ UpInv lessA dk m j ∧ dk.toList.Perm d.toList ∧ (∀ k, m ≤ k → dk[k]! = d[k]!) ∧ Only (Ft (some ⟨rb, 0, none⟩) n c d) w wr
/-- What a call on the heap leaves. -/
def Risen (w : World) (base a rb n c m : Nat) (d : Array Slp) (e : Ending) (w' : World) : Prop :=
  e = .returned (.tuple #[]) ∧ ∃ d', Hq w' base a (some ⟨rb, 0, none⟩) n c d' ∧ Heap lessA d' m ∧ d'.toList.Perm d.toList ∧ (∀ k, m ≤ k → d'[k]! = d[k]!) ∧ Only (Ft (some ⟨rb, 0, none⟩) n c d) w w'
set_option maxRecDepth 100000 in
set_option maxHeartbeats 4000000 in
theorem aup_any (w : World) (base a rb n c m j : Nat) (d : Array Slp) (h : Hq w base a (some ⟨rb, 0, none⟩) n c d) (hj : j < m) (hm : m ≤ n) (hi : UpInv lessA d m j) (hn : n ≤ 1000000) :
    Calls Try.prog 96 #[hva a, .int .i64 j] w (Risen w base a rb n c m d) := by
  have H := Lib.hid h
  have HI := Lib.hid hi
  clear h hi
  unfold hva
  go_enter Try.func96, Try.ntmps96
  go_wp2_with fail
  go_loopg [1] j (fun gk vj wr => AUpRel w base a rb n c m d gk vj wr)
  case atStart => exact ⟨j, d, rfl, hj, Nat.le_refl _, H.out, HI.out, List.Perm.refl _, fun _ _ => rfl, Only.refl _ _⟩
  case round =>
    clear H HI hj
    obtain ⟨j, dk, rfl, hjm, hgk, h, hi, hp, hk, hg⟩ := hrel
    have H := Lib.hid h
    have HI := Lib.hid hi
    have HP := Lib.hid hp
    have HK := Lib.hid hk
    have HG := Lib.hid hg
    have hc := h.cell
    clear h hi hp hg hk
    by_cases h0 : j = 0
    · subst h0
      have HE := Lib.hid (up_stop0 HI.out)
      clear hc
      go_wp2_with fail
      go_end0
      exact ⟨rfl, dk, H.out, HE.out, HP.out, HK.out, HG.out⟩
    · obtain ⟨p, hp⟩ : ∃ p, p = (j - 1) / 2 := ⟨_, rfl⟩
      have hpI : ((j : Int) - 1) / 2 = (p : Int) := by omega
      have hpj : ((p : Int) == (j : Int)) = false := by simp; omega
      have hpn : p < n := by omega
      have hjn : j < n := by omega
      have hj1 : (1 : Int) ≤ (j : Int) := by omega
      have hpj2 : p < j := by omega
      have HPJ := Lib.hid hp
      have hml := ameth_less hc
      clear hp
      cases hl : lessA dk[j]! dk[p]!
      · have HE : Hid (Heap lessA dk m) := up_stop HI.out (by rw [← HPJ.out]; exact hl)
        have HL := Lib.hid hl
        clear hl
        go_wp2_with fail
        refine (aless_own wr base a rb n c j p dk H.out hjn hpn).mono ?_
        rintro e w2 ⟨rfl, hb⟩
        rw [HL.out]
        have H2 := Lib.hid (H.out.below hb)
        have HG2 := Lib.hid (HG.out.andBelow hb)
        clear hb hml hc
        go_wp2_with fail
        go_end0
        exact ⟨rfl, dk, H2.out, HE.out, HP.out, HK.out, HG2.out⟩
      · have HST := Lib.hid (up_step lessA_wk HI.out (by omega) hjm (by rw [H.out.size]; exact hm) HPJ.out hl)
        have HL := Lib.hid hl
        clear hl
        go_wp2_with fail
        refine (aless_own wr base a rb n c j p dk H.out hjn hpn).mono ?_
        rintro e w2 ⟨rfl, hb⟩
        rw [HL.out]
        have H2 := Lib.hid (H.out.below hb)
        have HG2 := Lib.hid (HG.out.andBelow hb)
        have hms := ameth_swap H2.out.cell
        clear hb hml hc
        go_wp2_with fail
        refine (aswap_own w2 base a rb n c p j dk H2.out hpn hjn (by omega)).mono ?_
        rintro e w3 ⟨rfl, ho, hg⟩
        have H3 := Lib.hid ho
        have HG3 := Lib.hid (HG2.out.trans hg (fun _ _ k => Ft.perm HP.out k))
        clear ho hg hms
        go_wp2_with fail
        go_roundg (gk - 1)
        case measure => omega
        case rel =>
          refine ⟨p, swp dk p j, rfl, by omega, by omega, H3.out, HST.out, ?_, ?_, HG3.out⟩
          · exact (swp_perm (by rw [H2.out.size]; exact hpn) (by rw [H2.out.size]; exact hjn)).trans HP.out
          · intro k hk
            rw [swp_at (by rw [H2.out.size]; omega) (by rw [H2.out.size]; omega), if_neg (by omega), if_neg (by omega)]
            exact HK.out k hk
end Go.Proofs.Ytbnhemmklbbnmaa

/-! ## AlarmDown -/
namespace Go.Proofs.Ytbnhemmklbbnmaa
open Go.RowKit Go.Sort

def ADownRel (w : World) (base a rb N c m i0 : Nat) (d : Array Slp) (gk : Nat) (vi : Value) (wr : World) : Prop :=
  ∃ (i : Nat) (dk : Array Slp), vi = .int .i64 (i : Int) ∧ i0 ≤ i ∧ i ≤ m ∧ m ≤ gk + i ∧ Hq wr base a (some ⟨rb, 0, none⟩) N c dk ∧ (DownInv lessA d m i0 → DownInv lessA dk m i) ∧ (Kids lessA d m i0 → i = i0 ∧ dk = d) ∧ dk.toList.Perm d.toList ∧ (∀ k, m ≤ k → dk[k]! = d[k]!) ∧ Only (Ft (some ⟨rb, 0, none⟩) N c d) w wr
def ASunk (w : World) (base a rb N c m i0 : Nat) (d : Array Slp) (e : Ending) (w' : World) : Prop :=
  ∃ b, e = .returned (.bool b) ∧ (Kids lessA d m i0 → b = false) ∧ ∃ d', Hq w' base a (some ⟨rb, 0, none⟩) N c d' ∧ (DownInv lessA d m i0 → Heap lessA d' m) ∧ (Kids lessA d m i0 → d' = d) ∧ d'.toList.Perm d.toList ∧ (∀ k, m ≤ k → d'[k]! = d[k]!) ∧ Only (Ft (some ⟨rb, 0, none⟩) N c d) w w'
theorem asib_one {d : Array Slp} {i q1 q2 : Nat} (h1 : q1 = 2 * i + 1) (h2 : q2 = q1 + 1) (m : Nat) (hl : lessA d[q2]! d[q1]! = true) : ∀ k, 0 < k → k < m → (k - 1) / 2 = i → k ≠ q2 → lessA d[k]! d[q2]! = false := by
  intro k _ _ h3 h4
  obtain rfl : k = q1 := by omega
  exact lessA_wk.as _ _ hl
theorem asib_two {d : Array Slp} {i q1 q2 : Nat} (h1 : q1 = 2 * i + 1) (h2 : q2 = q1 + 1) (m : Nat) (hl : lessA d[q2]! d[q1]! = false) : ∀ k, 0 < k → k < m → (k - 1) / 2 = i → k ≠ q1 → lessA d[k]! d[q1]! = false := by
  intro k _ _ h3 h4
  obtain rfl : k = q2 := by omega
  exact hl
theorem asib_none {d : Array Slp} {i q1 q2 m : Nat} (h1 : q1 = 2 * i + 1) (h2 : q2 = q1 + 1) (hm : m ≤ q2) : ∀ k, 0 < k → k < m → (k - 1) / 2 = i → k ≠ q1 → lessA d[k]! d[q1]! = false := by
  intro k _ _ h3 h4
  omega
set_option maxRecDepth 100000 in
set_option maxHeartbeats 4000000 in
theorem adown_any (w : World) (base a rb N c m i0 : Nat) (d : Array Slp) (h : Hq w base a (some ⟨rb, 0, none⟩) N c d) (hi0 : i0 ≤ m) (hm : m ≤ N) (hN : N ≤ 1000000) :
    Calls Try.prog 95 #[hva a, .int .i64 i0, .int .i64 m] w (ASunk w base a rb N c m i0 d) := by
  have H := Lib.hid h
  clear h
  unfold hva
  go_enter Try.func95, Try.ntmps95
  go_wp2_with fail
  go_loopg [7] m (fun gk vi wr => ADownRel w base a rb N c m i0 d gk vi wr)
  case atStart => exact ⟨i0, d, rfl, Nat.le_refl _, hi0, by omega, H.out, fun h => h, fun _ => ⟨rfl, rfl⟩, List.Perm.refl _, fun _ _ => rfl, Only.refl _ _⟩
  case round =>
    clear H
    obtain ⟨i, dk, rfl, hi0i, him, hgk, h, hi, hkid, hp, hk, hg⟩ := hrel
    have HKID := Lib.hid hkid
    clear hkid
    have H := Lib.hid h
    have HI := Lib.hid hi
    have HP := Lib.hid hp
    have HK := Lib.hid hk
    have HG := Lib.hid hg
    have hc := h.cell
    have hml := ameth_less hc
    clear h hi hp hg hk
    obtain ⟨q1, hq1⟩ : ∃ q, q = 2 * i + 1 := ⟨_, rfl⟩
    obtain ⟨q2, hq2⟩ : ∃ q, q = q1 + 1 := ⟨_, rfl⟩
    have e1 : 2 * (i : Int) + 1 = (q1 : Int) := by omega
    have e2 : (q1 : Int) + 1 = (q2 : Int) := by omega
    have hiI : (i : Int) ≤ 1000000 := by omega
    have hq0 : (0 : Int) ≤ (q1 : Int) := by omega
    have hq1a : q1 ≤ 2 * i + 1 := by omega
    have hq1b : 2 * i + 1 ≤ q1 := by omega
    have hq2a : q2 ≤ q1 + 1 := by omega
    have hq2b : q1 + 1 ≤ q2 := by omega
    have hqI : (q1 : Int) ≤ 2000001 := by omega
    have hq2I : (q2 : Int) ≤ 2000002 := by omega
    clear hq1 hq2
    by_cases hA : q1 < m
    · by_cases hB : q2 < m
      · cases hl1 : lessA dk[q2]! dk[q1]!
        · have HS1 := Lib.hid (asib_two (i := i) (q1 := q1) (q2 := q2) (by omega) (by omega) m hl1)
          have HL1 := Lib.hid hl1
          clear hl1
          cases hl : lessA dk[q1]! dk[i]!
          · have HE : Hid (DownInv lessA d m i0 → Heap lessA dk m) := fun hd => down_stop1 lessA_wk (HI.out hd) HS1.out hl
            have HL := Lib.hid hl
            clear hl
            go_wp2_with fail
            refine (aless_own wr base a rb N c q2 q1 dk H.out (by omega) (by omega)).mono ?_
            rintro e w7 ⟨rfl, hb⟩
            rw [HL1.out]
            have H7 := Lib.hid (H.out.below hb)
            have HG7 := Lib.hid (HG.out.andBelow hb)
            clear hb hml hc
            have hc := H7.out.cell
            have hml := ameth_less hc
            go_wp2_with fail
            refine (aless_own w7 base a rb N c q1 i dk H7.out (by omega) (by omega)).mono ?_
            rintro e w8 ⟨rfl, hb⟩
            rw [HL.out]
            have H8 := Lib.hid (H7.out.below hb)
            have HG8 := Lib.hid (HG7.out.andBelow hb)
            clear hb hml hc
            go_wp2_with fail
            go_ret
            exact ⟨_, rfl, fun hk => (by have h1 := (HKID.out hk).1; simp; omega), dk, H8.out, HE.out, fun hk => (HKID.out hk).2, HP.out, HK.out, HG8.out⟩
          · have HST := Lib.hid (fun hd : DownInv lessA d m i0 => down_step lessA_wk (HI.out hd) (c := q1) (by omega) (by omega) (by omega) (by rw [H.out.size]; omega) HS1.out hl)
            have HL := Lib.hid hl
            clear hl
            go_wp2_with fail
            refine (aless_own wr base a rb N c q2 q1 dk H.out (by omega) (by omega)).mono ?_
            rintro e w7 ⟨rfl, hb⟩
            rw [HL1.out]
            have H7 := Lib.hid (H.out.below hb)
            have HG7 := Lib.hid (HG.out.andBelow hb)
            clear hb hml hc
            have hc := H7.out.cell
            have hml := ameth_less hc
            go_wp2_with fail
            refine (aless_own w7 base a rb N c q1 i dk H7.out (by omega) (by omega)).mono ?_
            rintro e w8 ⟨rfl, hb⟩
            rw [HL.out]
            have H8 := Lib.hid (H7.out.below hb)
            have HG8 := Lib.hid (HG7.out.andBelow hb)
            have hms := ameth_swap H8.out.cell
            clear hb hml hc
            go_wp2_with fail
            refine (aswap_own w8 base a rb N c i q1 dk H8.out (by omega) (by omega) (by omega)).mono ?_
            rintro e w9 ⟨rfl, ho, hg⟩
            have H9 := Lib.hid ho
            have HG9 := Lib.hid (HG8.out.trans hg (fun _ _ k => Ft.perm HP.out k))
            clear ho hg hms
            go_wp2_with fail
            go_roundg (gk - 1)
            case measure => omega
            case rel =>
              refine ⟨q1, swp dk i q1, rfl, by omega, by omega, by omega, H9.out, HST.out, fun hk => (by have h1 := HKID.out hk; have h2 := hk q1 (by omega) (by omega) (by have := h1.1; omega); rw [← h1.2, ← h1.1, HL.out] at h2; cases h2), ?_, ?_, HG9.out⟩
              · exact (swp_perm (by rw [H8.out.size]; omega) (by rw [H8.out.size]; omega)).trans HP.out
              · intro k hk
                rw [swp_at (by rw [H8.out.size]; omega) (by rw [H8.out.size]; omega), if_neg (by omega), if_neg (by omega)]
                exact HK.out k hk
        · have HS1 := Lib.hid (asib_one (i := i) (q1 := q1) (q2 := q2) (by omega) (by omega) m hl1)
          have HL1 := Lib.hid hl1
          clear hl1
          cases hl : lessA dk[q2]! dk[i]!
          · have HE : Hid (DownInv lessA d m i0 → Heap lessA dk m) := fun hd => down_stop1 lessA_wk (HI.out hd) HS1.out hl
            have HL := Lib.hid hl
            clear hl
            go_wp2_with fail
            refine (aless_own wr base a rb N c q2 q1 dk H.out (by omega) (by omega)).mono ?_
            rintro e w7 ⟨rfl, hb⟩
            rw [HL1.out]
            have H7 := Lib.hid (H.out.below hb)
            have HG7 := Lib.hid (HG.out.andBelow hb)
            clear hb hml hc
            have hc := H7.out.cell
            have hml := ameth_less hc
            go_wp2_with fail
            refine (aless_own w7 base a rb N c q2 i dk H7.out (by omega) (by omega)).mono ?_
            rintro e w8 ⟨rfl, hb⟩
            rw [HL.out]
            have H8 := Lib.hid (H7.out.below hb)
            have HG8 := Lib.hid (HG7.out.andBelow hb)
            clear hb hml hc
            go_wp2_with fail
            go_ret
            exact ⟨_, rfl, fun hk => (by have h1 := (HKID.out hk).1; simp; omega), dk, H8.out, HE.out, fun hk => (HKID.out hk).2, HP.out, HK.out, HG8.out⟩
          · have HST := Lib.hid (fun hd : DownInv lessA d m i0 => down_step lessA_wk (HI.out hd) (c := q2) (by omega) (by omega) (by omega) (by rw [H.out.size]; omega) HS1.out hl)
            have HL := Lib.hid hl
            clear hl
            go_wp2_with fail
            refine (aless_own wr base a rb N c q2 q1 dk H.out (by omega) (by omega)).mono ?_
            rintro e w7 ⟨rfl, hb⟩
            rw [HL1.out]
            have H7 := Lib.hid (H.out.below hb)
            have HG7 := Lib.hid (HG.out.andBelow hb)
            clear hb hml hc
            have hc := H7.out.cell
            have hml := ameth_less hc
            go_wp2_with fail
            refine (aless_own w7 base a rb N c q2 i dk H7.out (by omega) (by omega)).mono ?_
            rintro e w8 ⟨rfl, hb⟩
            rw [HL.out]
            have H8 := Lib.hid (H7.out.below hb)
            have HG8 := Lib.hid (HG7.out.andBelow hb)
            have hms := ameth_swap H8.out.cell
            clear hb hml hc
            go_wp2_with fail
            refine (aswap_own w8 base a rb N c i q2 dk H8.out (by omega) (by omega) (by omega)).mono ?_
            rintro e w9 ⟨rfl, ho, hg⟩
            have H9 := Lib.hid ho
            have HG9 := Lib.hid (HG8.out.trans hg (fun _ _ k => Ft.perm HP.out k))
            clear ho hg hms
            go_wp2_with fail
            go_roundg (gk - 1)
            case measure => omega
            case rel =>
              refine ⟨q2, swp dk i q2, rfl, by omega, by omega, by omega, H9.out, HST.out, fun hk => (by have h1 := HKID.out hk; have h2 := hk q2 (by omega) (by omega) (by have := h1.1; omega); rw [← h1.2, ← h1.1, HL.out] at h2; cases h2), ?_, ?_, HG9.out⟩
              · exact (swp_perm (by rw [H8.out.size]; omega) (by rw [H8.out.size]; omega)).trans HP.out
              · intro k hk
                rw [swp_at (by rw [H8.out.size]; omega) (by rw [H8.out.size]; omega), if_neg (by omega), if_neg (by omega)]
                exact HK.out k hk
      · have HS1 := Lib.hid (asib_none (d := dk) (i := i) (q1 := q1) (q2 := q2) (by omega) (by omega) (by omega : m ≤ q2))
        cases hl : lessA dk[q1]! dk[i]!
        · have HE : Hid (DownInv lessA d m i0 → Heap lessA dk m) := fun hd => down_stop1 lessA_wk (HI.out hd) HS1.out hl
          have HL := Lib.hid hl
          clear hl
          go_wp2_with fail
          refine (aless_own wr base a rb N c q1 i dk H.out (by omega) (by omega)).mono ?_
          rintro e w8 ⟨rfl, hb⟩
          rw [HL.out]
          have H8 := Lib.hid (H.out.below hb)
          have HG8 := Lib.hid (HG.out.andBelow hb)
          clear hb hml hc
          go_wp2_with fail
          go_ret
          exact ⟨_, rfl, fun hk => (by have h1 := (HKID.out hk).1; simp; omega), dk, H8.out, HE.out, fun hk => (HKID.out hk).2, HP.out, HK.out, HG8.out⟩
        · have HST := Lib.hid (fun hd : DownInv lessA d m i0 => down_step lessA_wk (HI.out hd) (c := q1) (by omega) (by omega) (by omega) (by rw [H.out.size]; omega) HS1.out hl)
          have HL := Lib.hid hl
          clear hl
          go_wp2_with fail
          refine (aless_own wr base a rb N c q1 i dk H.out (by omega) (by omega)).mono ?_
          rintro e w8 ⟨rfl, hb⟩
          rw [HL.out]
          have H8 := Lib.hid (H.out.below hb)
          have HG8 := Lib.hid (HG.out.andBelow hb)
          have hms := ameth_swap H8.out.cell
          clear hb hml hc
          go_wp2_with fail
          refine (aswap_own w8 base a rb N c i q1 dk H8.out (by omega) (by omega) (by omega)).mono ?_
          rintro e w9 ⟨rfl, ho, hg⟩
          have H9 := Lib.hid ho
          have HG9 := Lib.hid (HG8.out.trans hg (fun _ _ k => Ft.perm HP.out k))
          clear ho hg hms
          go_wp2_with fail
          go_roundg (gk - 1)
          case measure => omega
          case rel =>
            refine ⟨q1, swp dk i q1, rfl, by omega, by omega, by omega, H9.out, HST.out, fun hk => (by have h1 := HKID.out hk; have h2 := hk q1 (by omega) (by omega) (by have := h1.1; omega); rw [← h1.2, ← h1.1, HL.out] at h2; cases h2), ?_, ?_, HG9.out⟩
            · exact (swp_perm (by rw [H8.out.size]; omega) (by rw [H8.out.size]; omega)).trans HP.out
            · intro k hk
              rw [swp_at (by rw [H8.out.size]; omega) (by rw [H8.out.size]; omega), if_neg (by omega), if_neg (by omega)]
              exact HK.out k hk
    · have HE : Hid (DownInv lessA d m i0 → Heap lessA dk m) := fun hd => down_stop0 (HI.out hd) (by omega)
      clear hml hc
      go_wp2_with fail
      go_ret
      exact ⟨_, rfl, fun hk => (by have h1 := (HKID.out hk).1; simp; omega), dk, H.out, HE.out, fun hk => (HKID.out hk).2, HP.out, HK.out, HG.out⟩
end Go.Proofs.Ytbnhemmklbbnmaa

/-! ## AlarmPush -/
namespace Go.Proofs.Ytbnhemmklbbnmaa
open Go.RowKit Go.Sort

theorem sleeper_info : (Try.prog.info? 126).map (fun i => (i.zero, i.size, i.bytes)) = some (some (.pointer none), 1, 8) := by kernel_rfl
theorem assert_sl (x : Value) (w : World) (hx : ∃ p, x = .pointer p) : (Instr.typeAssert (.iface 126 x) 20 126 false).run Try.prog w = .ok x w := by
  obtain ⟨p, rfl⟩ := hx
  kernel_rfl
theorem push_get {d : Array Slp} (x : Slp) {k n : Nat} (hs : d.size = n) (hk : k < n) : (d.push x)[k]! = d[k]! := by
  rw [getElem!_pos (d.push x) k (by simp; omega), getElem!_pos d k (by omega), Array.getElem_push_lt (by omega)]
theorem push_last {d : Array Slp} (x : Slp) {n : Nat} (hs : d.size = n) : (d.push x)[n]! = x := by
  subst hs
  rw [getElem!_pos (d.push x) d.size (by simp)]
  simp
theorem pop_get {d : Array Slp} {k m : Nat} (hs : d.size = m + 1) (hk : k < m) : d.pop[k]! = d[k]! := by
  rw [getElem!_pos d.pop k (by simp; omega), getElem!_pos d k (by omega)]
  simp
/-- The line's variable is set anew. -/
theorem Hq.set {w : World} {base a n' c' : Nat} {A' : Option Addr} {d' : Array Slp} {v : Value} (hc : w.cell? ⟨a, 1, none⟩ = some v) (hf : w.frozen? ⟨a, 1, none⟩ = false)
    (ho : w.ownsRow base 126 1 (.slice A' n' c') n' (pvs d'.toList)) (hoff : (Value.slice A' n' c').ownBlock ≠ some a) (hs : ∀ i, i < n' → Ha w d'[i]! i) (hap : ∀ i j, i < n' → j < n' → d'[i]!.b = d'[j]!.b → i = j) (hout : ∀ i, i < n' → d'[i]!.b ≠ a ∧ (Value.slice A' n' c').ownBlock ≠ some d'[i]!.b) :
    Hq (w.setCell ⟨a, 1, none⟩ (.slice A' n' c')) base a A' n' c' d' := by
  have kp : ∀ k, k ≠ a → (w.setCell ⟨a, 1, none⟩ (.slice A' n' c')).heap[k]? = w.heap[k]? := fun k hk => RowKit.Below.heap_setCell w ⟨a, 1, none⟩ _ k hk
  exact ⟨World.cell?_setCell_same _ _ _ hc, by rw [World.frozen?_setCell]; exact hf, own_same ho (fun b hb => kp b (fun e => hoff (by rw [hb, e]))), hoff, fun i hi => (hs i hi).kept (kp _ (hout i hi).1), hap, hout⟩
/-- The first cell of the alarm stays. -/
def Keep0 (a : Nat) (w w' : World) : Prop := w'.cell? ⟨a, 0, none⟩ = w.cell? ⟨a, 0, none⟩
theorem Keep0.trans {a : Nat} {w w2 w3 : World} (h : Keep0 a w w2) (k : Keep0 a w2 w3) : Keep0 a w w3 := Eq.trans k h
theorem Hq.noFt {w : World} {base a n c : Nat} {A : Option Addr} {d : Array Slp} (h : Hq w base a A n c d) : ¬ Ft A n c d a := fun k => by
  rcases k with k | ⟨s, hs, e⟩
  · exact h.off k
  · obtain ⟨i, hi, rfl⟩ := mem_get hs
    exact (h.out i (by rw [← h.size]; exact hi)).1 e
theorem Hq.keep0 {w w' : World} {base a n c : Nat} {A : Option Addr} {d : Array Slp} (h : Hq w base a A n c d) (ho : Only (Ft A n c d) w w') : Keep0 a w w' := World.cell?_of_block (a := ⟨a, 0, none⟩) (ho.block a h.lt h.noFt)
theorem apush_end {w1 w9 : World} {o : Obj} {base a n c c9 : Nat} {A A9 : Option Addr} {d : Array Slp} {x : Slp} (H : Hq w1 base a A n c d) (hx : Ha w1 x n) (hxa : x.b ≠ a) (hxf : ¬ Ft A n c d x.b) (ho : w9.ownsRow base 126 1 (.slice A9 (n + 1) c9) (n + 1) (pvs d.toList ++ pvs [x]))
    (h5 : (w1.alloc o).grownBy w9 (if n = c then none else (Value.slice A n c).ownBlock)) (h6 : A9 = A ∨ ∃ b, A9 = some ⟨b, 0, none⟩ ∧ (w1.alloc o).heap.size ≤ b) :
    w9.cell? ⟨a, 1, none⟩ = some (.slice A n c) ∧ w9.frozen? ⟨a, 1, none⟩ = false ∧ Hq (w9.setCell ⟨a, 1, none⟩ (.slice A9 (n + 1) c9)) base a A9 (n + 1) c9 (d.push x) ∧ Only (fun k => k = a ∨ Ft A n c d k) w1 (w9.setCell ⟨a, 1, none⟩ (.slice A9 (n + 1) c9)) ∧ Keep0 a w1 (w9.setCell ⟨a, 1, none⟩ (.slice A9 (n + 1) c9)) := by
  have hb := below_box w1 o
  have hz := hb.size
  have kp : ∀ k, k < w1.heap.size → (Value.slice A n c).ownBlock ≠ some k → w9.heap[k]? = w1.heap[k]? := fun k hk hne =>
    (h5.block k (Nat.lt_of_lt_of_le hk hz) (by split; simp; exact fun e => hne e.symm)).trans (hb.block k hk)
  have hs := H.size
  have hc9 := (World.cell?_of_block (a := ⟨a, 1, none⟩) (kp a H.lt H.off)).trans H.cell
  have hf9 := (World.frozen?_of_block (a := ⟨a, 1, none⟩) (kp a H.lt H.off)).trans H.frz
  have hnew : ∀ k, k < w1.heap.size → (Value.slice A n c).ownBlock ≠ some k → (Value.slice A9 (n + 1) c9).ownBlock ≠ some k := fun k hk hne => by
    rcases h6 with rfl | ⟨b, rfl, hb9⟩
    · rw [own_block _ _ _ n c]; exact hne
    · intro e
      simp [Value.ownBlock] at e
      omega
  have hsl : ∀ i, i < n + 1 → Ha w9 (d.push x)[i]! i ∧ (d.push x)[i]!.b < w1.heap.size ∧ (d.push x)[i]!.b ≠ a ∧ (Value.slice A n c).ownBlock ≠ some (d.push x)[i]!.b := fun i hi => by
    by_cases e : i = n
    · subst e
      rw [push_last x hs]
      have h1 : (Value.slice A i c).ownBlock ≠ some x.b := fun e => hxf (.inl e)
      exact ⟨hx.kept (kp _ hx.lt h1), hx.lt, hxa, h1⟩
    · rw [push_get x hs (by omega)]
      have h1 := H.out i (by omega)
      have h2 := H.sl i (by omega)
      exact ⟨h2.kept (kp _ h2.lt h1.2), h2.lt, h1⟩
  refine ⟨hc9, hf9, Hq.set hc9 hf9 ?_ (hnew a H.lt H.off) (fun i hi => (hsl i hi).1) (fun i j hi hj e => ?_) (fun i hi => ⟨(hsl i hi).2.2.1, hnew _ (hsl i hi).2.1 (hsl i hi).2.2.2⟩), ?_, (World.cell?_setCell_other _ _ _ _ (by simp)).trans (World.cell?_of_block (a := ⟨a, 0, none⟩) (kp a H.lt H.off))⟩
  · rw [Array.toList_push, pvs_app]; exact ho
  · by_cases e1 : i = n
    · by_cases e2 : j = n
      · omega
      · rw [e1, push_last x hs, push_get x hs (by omega)] at e
        exact absurd (e ▸ H.ft (show j < n by omega)) hxf
    · by_cases e2 : j = n
      · rw [e2, push_last x hs, push_get x hs (by omega)] at e
        exact absurd (e ▸ H.ft (show i < n by omega)) hxf
      · rw [push_get x hs (by omega), push_get x hs (by omega)] at e
        exact H.apart i j (by omega) (by omega) e
  · refine ((Only.of_below hb).trans (Only.of_grown h5 (S := fun k => k = a ∨ Ft A n c d k) (fun k e => ?_)) (fun _ _ k => k)).trans (Only.setCell w9 a 1 _) (fun i _ e => .inl e)
    split at e
    · cases e
    · exact .inr (.inl e.symm)
def APushed (w : World) (base a : Nat) (A : Option Addr) (n c : Nat) (d : Array Slp) (x : Slp) (e : Ending) (w' : World) : Prop :=
  e = .returned (.tuple #[]) ∧ ∃ A' c', Hq w' base a A' (n + 1) c' (d.push x) ∧ Near w A A' ∧ Only (fun k => k = a ∨ k = x.b ∨ Ft A n c d k) w w' ∧ Keep0 a w w'
set_option maxRecDepth 100000 in
set_option maxHeartbeats 4000000 in
theorem apush_any (w : World) (base a : Nat) (A : Option Addr) (n c p : Nat) (d : Array Slp) (x : Slp) (h : Hq w base a A n c d) (hx : Ha w x p) (hxa : x.b ≠ a) (hxf : ¬ Ft A n c d x.b) (hb0 : base ≤ w.heap.size) (hn : n ≤ 1000000) :
    Calls Try.prog 123 #[.pointer (some ⟨a, 1, none⟩), .iface 126 (.pointer (some ⟨x.b, 0, none⟩))] w (APushed w base a A n c d x) := by
  obtain ⟨i0, hi0, hz0, hz1, hz2⟩ := info_parts sleeper_info
  have H := Lib.hid h
  have HX := Lib.hid hx
  have HF : Hid (¬ Ft A n c d x.b) := hxf
  have hc := h.cell
  have hf := h.frz
  have hx2 := hx.c2
  have hxz := hx.fz 2
  have hax : a ≠ x.b := fun e => hxa e.symm
  have hta := assert_sl (.pointer (some ⟨x.b, 0, none⟩)) w ⟨_, rfl⟩
  have H1 : Hid (Hq (w.setCell ⟨x.b, 2, none⟩ (.int .i64 (n : Int))) base a A n c d) := h.only (Only.setCell w x.b 2 (.int .i64 (n : Int))) (fun k _ e => by subst e; exact ⟨hxa, hxf⟩)
  have HX1 : Hid (Ha (w.setCell ⟨x.b, 2, none⟩ (.int .i64 (n : Int))) x n) := hx.place n
  have HO1 := Lib.hid (Only.setCell w x.b 2 (.int .i64 (n : Int)))
  have hz1b : base ≤ (w.setCell ⟨x.b, 2, none⟩ (.int .i64 (n : Int))).heap.size := by simp; exact hb0
  have HLIT : Hid (Sn ((w.setCell ⟨x.b, 2, none⟩ (.int .i64 (n : Int))).alloc (.cells #[.pointer (some ⟨x.b, 0, none⟩)] 126)) (w.heap.size + 1) (some ⟨w.heap.size, 0, none⟩) 1 1 1 (pvs [x])) := by
    have hl := lit_sn (w.setCell ⟨x.b, 2, none⟩ (.int .i64 (n : Int))) 126 (pvs [x]) 1 1 rfl (by unfold maxLen; omega)
    have hs : (w.setCell ⟨x.b, 2, none⟩ (.int .i64 (n : Int))).heap.size = w.heap.size := by simp
    rw [hs] at hl
    exact hl
  clear h hx hxf
  go_enter Try.func123, Try.ntmps123
  go_wp2_with (at_builtin; refine wpList_append_dstN _ rfl (.tmp 17) (.tmp 19) 123 123 rfl base 126 i0 _ 1 8 Try.underlying123 hi0 hz0 hz1 hz2 rfl A n c (pvs d.toList) rfl (.inr (H1.out.own.alloc _)) _ 1 (pvs [x]) rfl (HLIT.out.src Try.underlying123 (pvs_one [x])) (by omega) (by omega) (by simp; omega) ?_; intro A9 c9 w9 h1 h2 h3 h4 h5 h6; obtain ⟨hc9, hf9, hp9, hon, hk0⟩ := apush_end H1.out HX1.out hxa HF.out (h2 (by omega)) h5 h6; have HP9 := Lib.hid hp9; have HON := Lib.hid hon; have HK0 := Lib.hid hk0; have HN9 := Lib.hid h6; clear h1 h2 h3 h4 h5 h6 hp9 hon hk0 hc hf hx2 hxz)
  go_end0
  refine ⟨rfl, A9, c9, HP9.out, ?_, (HO1.out.mono (fun k _ e => .inr (.inl e))).trans HON.out (fun k _ e => ?_), Keep0.trans (show Keep0 a w (w.setCell ⟨x.b, 2, none⟩ (.int .i64 (n : Int))) from World.cell?_setCell_other w ⟨x.b, 2, none⟩ ⟨a, 0, none⟩ _ (by intro e; injection e with e; exact hxa e)) HK0.out⟩
  · rcases HN9.out with k | ⟨b, k1, k2⟩
    · exact .inl k
    · refine .inr ⟨b, k1, ?_⟩
      simp at k2
      omega
  · rcases e with e | e
    · exact .inl e
    · exact .inr (.inr e)
/-- One is taken off the end. -/
theorem pop_listA {d : Array Slp} {m : Nat} (h : d.size = m + 1) : d.toList = d.pop.toList ++ [d[m]!] := by
  have h1 : d.toList ≠ [] := by intro e; rw [← Array.length_toList, e] at h; simp at h
  have h2 := List.dropLast_concat_getLast h1
  have h3 : d.toList.getLast h1 = d[m]! := by
    rw [List.getLast_eq_getElem, getElem!_pos d m (by omega)]
    simp [h]
  rw [Array.toList_pop, ← h3]
  exact h2.symm
def APopped (w : World) (base a rb m c : Nat) (d : Array Slp) (e : Ending) (w' : World) : Prop :=
  e = .returned (.iface 126 (.pointer (some ⟨d[m]!.b, 0, none⟩))) ∧ Hq w' base a (some ⟨rb, 0, none⟩) m c d.pop ∧ Only (fun k => k = a ∨ k = rb) w w' ∧ Keep0 a w w'
theorem apop_end {w : World} {base a rb m c : Nat} {d : Array Slp} (H : Hq w base a (some ⟨rb, 0, none⟩) (m + 1) c d) :
    Hq ((w.setCell ⟨rb, m, none⟩ (.pointer none)).setCell ⟨a, 1, none⟩ (.slice (some ⟨rb, 0, none⟩) m c)) base a (some ⟨rb, 0, none⟩) m c d.pop := by
  have hs := H.size
  have hra : rb ≠ a := fun e => H.off (by rw [← e]; rfl)
  have kp : ∀ k, k ≠ rb → (w.setCell ⟨rb, m, none⟩ (.pointer none)).heap[k]? = w.heap[k]? := fun k hk => RowKit.Below.heap_setCell w ⟨rb, m, none⟩ _ k hk
  have s1 := (H.own.stored m (.pointer none)).1
  rw [pop_listA hs, pvs_app] at s1
  have hl : (pvs d.pop.toList).length = m := by rw [pvs_len]; simp [hs]
  rw [List.set_append_right _ _ (by omega), hl, Nat.sub_self] at s1
  refine Hq.set ((World.cell?_of_block (a := ⟨a, 1, none⟩) (kp a (fun e => hra e.symm))).trans H.cell) ((World.frozen?_of_block (a := ⟨a, 1, none⟩) (kp a (fun e => hra e.symm))).trans H.frz) ?_ (by rw [own_block _ _ _ (m + 1) c]; exact H.off) (fun i hi => ?_) (fun i j hi hj e => ?_) (fun i hi => ?_)
  · exact ownsRow_pop (by omega) s1
  · rw [pop_get hs hi]
    exact (H.sl i (by omega)).kept (kp _ (fun e => (H.out i (by omega)).2 (by rw [e]; rfl)))
  · rw [pop_get hs hi, pop_get hs hj] at e
    exact H.apart i j (by omega) (by omega) e
  · rw [pop_get hs hi, own_block _ _ _ (m + 1) c]
    exact H.out i (by omega)
set_option maxRecDepth 100000 in
set_option maxHeartbeats 4000000 in
theorem apop_any (w : World) (base a rb m c : Nat) (d : Array Slp) (h : Hq w base a (some ⟨rb, 0, none⟩) (m + 1) c d) (hn : m ≤ 1000000) :
    Calls Try.prog 122 #[.pointer (some ⟨a, 1, none⟩)] w (APopped w base a rb m c d) := by
  have H := Lib.hid h
  have hc := h.cell
  have hf := h.frz
  have hat := h.at_ (show m < m + 1 by omega)
  have hfr := h.own.frozenAt m
  have hra : rb ≠ a := fun e => h.off (by rw [← e]; rfl)
  have har : a ≠ rb := fun e => hra e.symm
  have hle : m + 1 ≤ c := by
    rcases h.own.2 with ⟨h0, _⟩ | ⟨_, _, _, hv, _, _, hle, _⟩
    · cases h0
    · injection hv with _ _ e3; omega
  have hleI : (m : Int) ≤ (c : Int) := by omega
  have e1 : ((m + 1 : Nat) : Int) - 1 = (m : Int) := by omega
  have HE := Lib.hid (apop_end h)
  have HO : Hid (Only (fun k => k = a ∨ k = rb) w ((w.setCell ⟨rb, m, none⟩ (.pointer none)).setCell ⟨a, 1, none⟩ (.slice (some ⟨rb, 0, none⟩) m c))) :=
    ((Only.setCell w rb m _).mono (fun k _ e => .inr e)).trans (Only.setCell _ a 1 _) (fun k _ e => .inl e)
  have HK : Hid (Keep0 a w ((w.setCell ⟨rb, m, none⟩ (.pointer none)).setCell ⟨a, 1, none⟩ (.slice (some ⟨rb, 0, none⟩) m c))) := (World.cell?_setCell_other _ _ _ _ (by simp)).trans (World.cell?_setCell_other _ _ _ _ (by intro e; injection e with e; exact hra e))
  clear h hle
  generalize hx : d[m]!.b = xb at *
  unfold APopped
  rw [hx]
  go_enter Try.func122, Try.ntmps122
  go_wp2_with fail
  go_ret
  exact ⟨rfl, HE.out, HO.out, HK.out⟩
end Go.Proofs.Ytbnhemmklbbnmaa

/-! ## AlarmHeap -/
namespace Go.Proofs.Ytbnhemmklbbnmaa
open Go.RowKit Go.Sort

/-- What a call on the heap may turn. -/
def Fa (a : Nat) (A : Option Addr) (n c : Nat) (d : Array Slp) (k : Nat) : Prop := k = a ∨ Ft A n c d k
theorem ft_push {A : Option Addr} {n c n' c' : Nat} {d : Array Slp} {x : Slp} {k : Nat} (h : Ft A n' c' (d.push x) k) : Ft A n c d k ∨ k = x.b := by
  rcases h with h | ⟨s, hs, e⟩
  · exact .inl (.inl (by rw [own_block A n c n' c']; exact h))
  · rw [Array.toList_push, List.mem_append] at hs
    rcases hs with hs | hs
    · exact .inl (.inr ⟨s, hs, e⟩)
    · simp at hs; subst hs; exact .inr e.symm
theorem ft_near {w : World} {A A' : Option Addr} {n c n' c' : Nat} {d : Array Slp} {k : Nat} (hn : Near w A A') (hk : k < w.heap.size) (h : Ft A' n' c' d k) : Ft A n c d k := by
  rcases h with h | h
  · rcases hn with rfl | ⟨b, rfl, hb⟩
    · exact .inl (by rw [own_block _ n c n' c']; exact h)
    · simp [Value.ownBlock] at h
      omega
  · exact .inr h
def AHPushed (w : World) (base a : Nat) (A : Option Addr) (n c : Nat) (d : Array Slp) (x : Slp) (e : Ending) (w' : World) : Prop :=
  e = .returned (.tuple #[]) ∧ ∃ A' c' d', Hq w' base a A' (n + 1) c' d' ∧ Heap lessA d' (n + 1) ∧ d'.toList.Perm (x :: d.toList) ∧ Near w A A' ∧ Only (fun k => k = x.b ∨ Fa a A n c d k) w w' ∧ Keep0 a w w'
set_option maxRecDepth 100000 in
set_option maxHeartbeats 4000000 in
theorem ahpush_any (w : World) (base a : Nat) (A : Option Addr) (n c p : Nat) (d : Array Slp) (x : Slp) (h : Hq w base a A n c d) (hh : Heap lessA d n) (hx : Ha w x p) (hxa : x.b ≠ a) (hxf : ¬ Ft A n c d x.b) (hb0 : base ≤ w.heap.size) (hn : n ≤ 100000) :
    Calls Try.prog 84 #[hva a, .iface 126 (.pointer (some ⟨x.b, 0, none⟩))] w (AHPushed w base a A n c d x) := by
  have H := Lib.hid h
  have HH := Lib.hid hh
  have HX := Lib.hid hx
  have HXF : Hid (x.b ≠ a ∧ ¬ Ft A n c d x.b) := ⟨hxa, hxf⟩
  have HS := Lib.hid h.size
  have hm := fun w => ameth_push ⟨a, 1, none⟩ w
  clear h hh hx hxa hxf
  unfold hva
  go_enter Try.func84, Try.ntmps84
  go_wp2_with fail
  refine (apush_any w base a A n c p d x H.out HX.out HXF.out.1 HXF.out.2 hb0 (by omega)).mono ?_
  rintro e w2 ⟨rfl, A2, c2, h2, hnear, honly, hk0⟩
  obtain ⟨rb, rfl⟩ := h2.row (by omega)
  have H2 := Lib.hid h2
  have HN := Lib.hid hnear
  have HO := Lib.hid honly
  have HK0 := Lib.hid hk0
  have hml := ameth_len h2.cell
  have e1 : ((n + 1 : Nat) : Int) - 1 = (n : Int) := by omega
  clear h2 hnear honly hm hk0
  go_wp2_with fail
  refine (alen_any w2 _ (n + 1) c2).mono ?_
  rintro e w3 ⟨rfl, rfl⟩
  go_wp2_with fail
  refine (aup_any w2 base a rb (n + 1) c2 (n + 1) n (d.push x) H2.out (by omega) (Nat.le_refl _) (push_start x HH.out HS.out) (by omega)).mono ?_
  rintro e w4 ⟨rfl, d', h4, hh4, hp4, hk4, hg4⟩
  have H4 := Lib.hid h4
  have HH4 := Lib.hid hh4
  have HP4 := Lib.hid hp4
  have HG4 := Lib.hid hg4
  clear h4 hh4 hp4 hg4 hk4 hml
  go_wp2
  go_end0
  refine ⟨rfl, _, c2, d', H4.out, HH4.out, HP4.out.trans ?_, HN.out, (HO.out.mono (fun k _ e => ?_)).trans HG4.out (fun i hi hs => ?_), HK0.out.trans (H2.out.keep0 HG4.out)⟩
  · rw [Array.toList_push]
    exact List.perm_append_singleton x d.toList
  · rcases e with e | e | e
    · exact .inr (.inl e)
    · exact .inl e
    · exact .inr (.inr e)
  · rcases ft_push (n := n) (c := c) hs with k | k
    · exact .inr (.inr (ft_near HN.out hi k))
    · exact .inl k
theorem fix_after {d d2 : Array Slp} {m i : Nat} {b : Bool} (h : FixInv lessA d m i) (hi : i < m) (h1 : Kids lessA d m i → b = false) (h2 : DownInv lessA d m i → Heap lessA d2 m) (h3 : Kids lessA d m i → d2 = d) :
    (b = true → Heap lessA d2 m) ∧ (b = false → UpInv lessA d2 m i) := by
  rcases fix_cases lessA_wk h with k | ⟨k1, k2⟩
  · exact ⟨fun _ => h2 k, fun _ => up_of_heap lessA_wk (h2 k) hi⟩
  · exact ⟨fun e => (by rw [h1 k2] at e; cases e), fun _ => (by rw [h3 k2]; exact k1)⟩
/-- The heap is one again. -/
def AFixed (w : World) (base a rb n c : Nat) (d : Array Slp) (e : Ending) (w' : World) : Prop :=
  e = .returned (.tuple #[]) ∧ ∃ d', Hq w' base a (some ⟨rb, 0, none⟩) n c d' ∧ Heap lessA d' n ∧ d'.toList.Perm d.toList ∧ Only (Ft (some ⟨rb, 0, none⟩) n c d) w w'
set_option maxRecDepth 100000 in
set_option maxHeartbeats 4000000 in
theorem afix_any (w : World) (base a rb n c i : Nat) (d : Array Slp) (h : Hq w base a (some ⟨rb, 0, none⟩) n c d) (hf : FixInv lessA d n i) (hi : i < n) (hn : n ≤ 100000) :
    Calls Try.prog 83 #[hva a, .int .i64 i] w (AFixed w base a rb n c d) := by
  have H := Lib.hid h
  have HF := Lib.hid hf
  have hml := ameth_len h.cell
  clear h hf
  unfold hva
  go_enter Try.func83, Try.ntmps83
  go_wp2_with fail
  refine (alen_any w _ n c).mono ?_
  rintro e w3 ⟨rfl, rfl⟩
  go_wp2_with fail
  refine (adown_any w base a rb n c n i d H.out (by omega) (Nat.le_refl _) (by omega)).mono ?_
  rintro e w4 ⟨b, rfl, hb1, d2, h4, hh4, hd4, hp4, hk4, hg4⟩
  have H4 := Lib.hid h4
  have HA := Lib.hid (fix_after HF.out hi hb1 hh4 hd4)
  have HP4 := Lib.hid hp4
  have HG4 := Lib.hid hg4
  clear h4 hh4 hp4 hg4 hk4 hd4 hb1 hml
  cases b
  · go_wp2_with fail
    refine (aup_any w4 base a rb n c n i d2 H4.out hi (Nat.le_refl _) (HA.out.2 (by simp)) (by omega)).mono ?_
    rintro e w5 ⟨rfl, d3, h5, hh5, hp5, hk5, hg5⟩
    have H5 := Lib.hid h5
    have HH5 := Lib.hid hh5
    have HP5 := Lib.hid (hp5.trans HP4.out)
    have HG5 := Lib.hid (HG4.out.trans hg5 (fun _ _ k => Ft.perm HP4.out k))
    clear h5 hh5 hp5 hg5 hk5
    go_wp2_with fail
    go_end0
    exact ⟨rfl, d3, H5.out, HH5.out, HP5.out, HG5.out⟩
  · have HH4 := Lib.hid (HA.out.1 (by simp))
    go_wp2_with fail
    go_end0
    exact ⟨rfl, d2, H4.out, HH4.out, HP4.out, HG4.out⟩
def ARemoved (w : World) (base a rb m c i : Nat) (d : Array Slp) (e : Ending) (w' : World) : Prop :=
  e = .returned (.iface 126 (.pointer (some ⟨d[i]!.b, 0, none⟩))) ∧ ∃ d', Hq w' base a (some ⟨rb, 0, none⟩) m c d' ∧ Heap lessA d' m ∧ d.toList.Perm (d[i]! :: d'.toList) ∧ Only (Fa a (some ⟨rb, 0, none⟩) (m + 1) c d) w w' ∧ Keep0 a w w'
theorem heap_pop {d : Array Slp} {m : Nat} (hs : d.size = m + 1) (h : Heap lessA d m) : Heap lessA d.pop m := fun k h0 hk => by
  rw [pop_get hs hk, pop_get hs (by omega)]
  exact h k h0 hk
theorem removed_end {w w4 w5 : World} {base a rb m c i : Nat} {d d3 : Array Slp} (h4 : Hq w4 base a (some ⟨rb, 0, none⟩) (m + 1) c d3) (hh4 : Heap lessA d3 m) (hp : d3.toList.Perm d.toList) (hl : d3[m]! = d[i]!) (hg : Only (Ft (some ⟨rb, 0, none⟩) (m + 1) c d) w w4)
    (h5 : Hq w5 base a (some ⟨rb, 0, none⟩) m c d3.pop) (hg5 : Only (fun k => k = a ∨ k = rb) w4 w5) (hk : Keep0 a w w4) (hk5 : Keep0 a w4 w5) : ∃ d', Hq w5 base a (some ⟨rb, 0, none⟩) m c d' ∧ Heap lessA d' m ∧ d.toList.Perm (d[i]! :: d'.toList) ∧ Only (Fa a (some ⟨rb, 0, none⟩) (m + 1) c d) w w5 ∧ Keep0 a w w5 := by
  have hs3 := h4.size
  refine ⟨d3.pop, h5, heap_pop hs3 hh4, ?_, (hg.mono (fun k _ e => .inr e)).trans hg5 (fun k _ e => ?_), hk.trans hk5⟩
  · refine hp.symm.trans ?_
    rw [pop_listA hs3, hl]
    simp only [Array.toList_pop]
    exact List.perm_append_singleton _ _
  · rcases e with e | e
    · exact .inl e
    · exact .inr (.inl (by rw [e]; rfl))
set_option maxRecDepth 100000 in
set_option maxHeartbeats 4000000 in
theorem aremove_any (w : World) (base a rb m c i : Nat) (d : Array Slp) (h : Hq w base a (some ⟨rb, 0, none⟩) (m + 1) c d) (hh : Heap lessA d (m + 1)) (hi : i ≤ m) (hn : m ≤ 100000) :
    Calls Try.prog 87 #[hva a, .int .i64 i] w (ARemoved w base a rb m c i d) := by
  have H := Lib.hid h
  have HH := Lib.hid hh
  have HS := Lib.hid h.size
  have hml := ameth_len h.cell
  have hmp := fun w => ameth_pop ⟨a, 1, none⟩ w
  have e1 : ((m + 1 : Nat) : Int) - 1 = (m : Int) := by omega
  clear hh
  unfold hva
  by_cases him : i = m
  · subst him
    have hne : ((i : Int) != (i : Int)) = false := by simp
    clear h
    go_enter Try.func87, Try.ntmps87
    go_wp2_with fail
    refine (alen_any w _ (i + 1) c).mono ?_
    rintro e w3 ⟨rfl, rfl⟩
    go_wp2_with fail
    refine (apop_any w base a rb i c d H.out (by omega)).mono ?_
    rintro e w5 ⟨rfl, h5, ho5, hk5⟩
    have H5 := Lib.hid h5
    have HO5 := Lib.hid ho5
    have HK5 := Lib.hid hk5
    clear h5 ho5 hk5
    go_wp2_with fail
    go_ret
    exact ⟨rfl, removed_end H.out (fun k h0 hk => HH.out k h0 (by omega)) (List.Perm.refl _) rfl (Only.refl _ _) H5.out HO5.out rfl HK5.out⟩
  · have hne : ((m : Int) != (i : Int)) = true := by simp; omega
    have hms := ameth_swap h.cell
    have hiI : (i : Int) < (m : Int) := by omega
    have HIM : Hid (i < m) := by show i < m; omega
    clear h
    go_enter Try.func87, Try.ntmps87
    go_wp2_with fail
    refine (alen_any w _ (m + 1) c).mono ?_
    rintro e w3 ⟨rfl, rfl⟩
    go_wp2_with fail
    refine (aswap_own w base a rb (m + 1) c i m d H.out (by omega) (by omega) him).mono ?_
    rintro e w2 ⟨rfl, h2, hg2⟩
    have H2 := Lib.hid h2
    have HG2 := Lib.hid hg2
    have HP2 : Hid ((swp d i m).toList.Perm d.toList) := swp_perm (by rw [HS.out]; omega) (by rw [HS.out]; omega)
    have HF2 : Hid (FixInv lessA (swp d i m) m i) := fix_of lessA_wk HH.out (by omega) (fun k hk hki => by rw [swp_at (by rw [HS.out]; omega) (by rw [HS.out]; omega), if_neg (by omega), if_neg hki])
    have HL2 : Hid ((swp d i m)[m]! = d[i]!) := by show _ = _; rw [swp_at (by rw [HS.out]; omega) (by rw [HS.out]; omega), if_pos rfl]
    clear h2 hg2 hms hml
    go_wp2_with fail
    refine (adown_any w2 base a rb (m + 1) c m i (swp d i m) H2.out (by omega) (by omega) (by omega)).mono ?_
    rintro e w4 ⟨b, rfl, hb1, d2, h4, hh4, hd4, hp4, hk4, hg4⟩
    have H4 := Lib.hid h4
    have HA := Lib.hid (fix_after HF2.out HIM.out hb1 hh4 hd4)
    have HP4 := Lib.hid (hp4.trans HP2.out)
    have HL4 := Lib.hid ((hk4 m (Nat.le_refl _)).trans HL2.out)
    have HG4 := Lib.hid (HG2.out.trans hg4 (fun _ _ k => Ft.perm HP2.out k))
    clear h4 hh4 hp4 hg4 hk4 hd4 hb1
    cases b
    · go_wp2_with fail
      refine (aup_any w4 base a rb (m + 1) c m i d2 H4.out HIM.out (by omega) (HA.out.2 (by simp)) (by omega)).mono ?_
      rintro e w5 ⟨rfl, d3, h5, hh5, hp5, hk5, hg5⟩
      have H5 := Lib.hid h5
      have HH5 := Lib.hid hh5
      have HP5 := Lib.hid (hp5.trans HP4.out)
      have HL5 := Lib.hid ((hk5 m (Nat.le_refl _)).trans HL4.out)
      have HG5 := Lib.hid (HG4.out.trans hg5 (fun _ _ k => Ft.perm HP4.out k))
      clear h5 hh5 hp5 hg5 hk5
      go_wp2_with fail
      refine (apop_any w5 base a rb m c d3 H5.out (by omega)).mono ?_
      rintro e w6 ⟨rfl, h6, ho6, hk6⟩
      have H6 := Lib.hid h6
      have HO6 := Lib.hid ho6
      have HK6 := Lib.hid hk6
      clear h6 ho6 hk6
      rw [HL5.out]
      go_wp2_with fail
      go_ret
      exact ⟨rfl, removed_end H5.out HH5.out HP5.out HL5.out HG5.out H6.out HO6.out (H.out.keep0 HG5.out) HK6.out⟩
    · have HH4 := Lib.hid (HA.out.1 (by simp))
      go_wp2_with fail
      refine (apop_any w4 base a rb m c d2 H4.out (by omega)).mono ?_
      rintro e w6 ⟨rfl, h6, ho6, hk6⟩
      have H6 := Lib.hid h6
      have HO6 := Lib.hid ho6
      have HK6 := Lib.hid hk6
      clear h6 ho6 hk6
      rw [HL4.out]
      go_wp2_with fail
      go_ret
      exact ⟨rfl, removed_end H4.out HH4.out HP4.out HL4.out HG4.out H6.out HO6.out (H.out.keep0 HG4.out) HK6.out⟩
end Go.Proofs.Ytbnhemmklbbnmaa

/-! ## AlarmAll -/
namespace Go.Proofs.Ytbnhemmklbbnmaa
open Go.RowKit Go.Sort Go.Maps

theorem frz_blk {w : World} {r i : Nat} {cs : Array Value} {t : TypeId} (h : w.heap[r]? = some (.cells cs t (0, 0))) : w.frozen? ⟨r, i, none⟩ = false := by simp [World.frozen?, h]
theorem u64_keyed : Keyed Try.prog 34 := int_keyed Try.underlying34
theorem zero_sleeper (w : World) : (zeroValue 126).run Try.prog w = .ok (.pointer none) w := by kernel_rfl
/-- An alarm: block a; its map's block; its line; S: whatever blocks it may have. -/
structure AlP (w : World) (S : Nat → Prop) (base a mb : Nat) (A : Option Addr) (n c : Nat) (d : Array Slp) (f : Nat → Option Value) : Prop where
  mc : w.cell? ⟨a, 0, none⟩ = some (.map (some mb))
  hq : Hq w base a A n c d
  mv : Mv Try.prog 34 w mb n f
  f1 : ∀ s ∈ d.toList, f s.id = some (.pointer (some ⟨s.b, 0, none⟩))
  f0 : ∀ k, (∀ s ∈ d.toList, s.id ≠ k) → f k = none
  nd : (d.toList.map (·.id)).Nodup
  idl : ∀ s ∈ d.toList, s.id < 18446744073709551616
  sa : S a
  sm : S mb
  sf : ∀ k, Ft A n c d k → S k
  ma : mb ≠ a
  mf : ¬ Ft A n c d mb
  sl : ∀ k, S k → base ≤ k ∧ k < w.heap.size
/-- .. of which these have a time. -/
structure Al (w : World) (S : Nat → Prop) (base a : Nat) (l : List En) : Prop where
  ex : ∃ mb A n c d f, AlP w S base a mb A n c d f ∧ Heap lessA d n ∧ (d.toList.map Slp.en).Perm l
section
variable {w w' : World} {S Q : Nat → Prop} {base a mb n c : Nat} {A : Option Addr} {d : Array Slp} {f : Nat → Option Value} {l : List En}
theorem AlP.only (h : AlP w S base a mb A n c d f) (ho : Only Q w w') (hq : ∀ k, k < w.heap.size → Q k → ¬ S k) : AlP w' S base a mb A n c d f :=
  ⟨(World.cell?_of_block (a := ⟨a, 0, none⟩) (ho.block a h.hq.lt (fun k => hq a h.hq.lt k h.sa))).trans h.mc, h.hq.only ho (fun k hk hQ => ⟨fun e => hq k hk hQ (by rw [e]; exact h.sa), fun e => hq k hk hQ (h.sf k e)⟩),
    h.mv.kept (ho.block mb h.mv.lt (fun k => hq mb h.mv.lt k h.sm)), h.f1, h.f0, h.nd, h.idl, h.sa, h.sm, h.sf, h.ma, h.mf, fun k hk => ⟨(h.sl k hk).1, Nat.lt_of_lt_of_le (h.sl k hk).2 ho.size⟩⟩
theorem AlP.below (h : AlP w S base a mb A n c d f) (hb : RowKit.Below w.heap.size w w') : AlP w' S base a mb A n c d f := h.only (Only.of_below (S := fun _ => False) hb) (fun _ _ k => k.elim)
theorem Al.only (h : Al w S base a l) (ho : Only Q w w') (hq : ∀ k, k < w.heap.size → Q k → ¬ S k) : Al w' S base a l := by
  obtain ⟨mb, A, n, c, d, f, h1, h2, h3⟩ := h.ex
  exact ⟨mb, A, n, c, d, f, h1.only ho hq, h2, h3⟩
theorem Al.below (h : Al w S base a l) (hb : RowKit.Below w.heap.size w w') : Al w' S base a l := h.only (Only.of_below (S := fun _ => False) hb) (fun _ _ k => k.elim)
theorem Al.sl (h : Al w S base a l) : ∀ k, S k → base ≤ k ∧ k < w.heap.size := by
  obtain ⟨mb, A, n, c, d, f, h1, _⟩ := h.ex
  exact h1.sl
theorem AlP.len (h : AlP w S base a mb A n c d f) (hp : (d.toList.map Slp.en).Perm l) : l.length = n := by
  have := hp.length_eq
  have := h.hq.size
  simp at *
  omega
theorem AlP.ids_nd (h : AlP w S base a mb A n c d f) (hp : (d.toList.map Slp.en).Perm l) : (ids l).Nodup := by
  unfold ids
  rw [← (hp.map (·.1)).nodup_iff, List.map_map]
  exact h.nd
/-- Somebody's time, and his sleeper. -/
theorem AlP.find (h : AlP w S base a mb A n c d f) (hp : (d.toList.map Slp.en).Perm l) (id : Nat) :
    (timeOf id l = none ∧ f id = none) ∨ ∃ i, i < n ∧ d[i]!.id = id ∧ timeOf id l = some d[i]!.at_ ∧ f id = some (.pointer (some ⟨d[i]!.b, 0, none⟩)) := by
  by_cases hs : ∃ s ∈ d.toList, s.id = id
  · obtain ⟨s, hs, e⟩ := hs
    obtain ⟨i, hi, rfl⟩ := mem_get hs
    refine .inr ⟨i, by rw [← h.hq.size]; exact hi, e, ?_, by rw [← e]; exact h.f1 _ hs⟩
    rw [timeOf_mem (h.ids_nd hp), ← hp.mem_iff]
    exact List.mem_map.2 ⟨_, hs, by unfold Slp.en; rw [e]⟩
  · refine .inl ⟨timeOf_none.2 (fun y hy e => ?_), h.f0 id (fun s hm e => hs ⟨s, hm, e⟩)⟩
    obtain ⟨s, hm, e2⟩ := List.mem_map.1 (hp.mem_iff.2 hy)
    exact hs ⟨s, hm, by rw [← e, ← e2]; rfl⟩
end
/-- The alarm on its own, made new. -/
def ANew (w : World) (e : Ending) (w' : World) : Prop :=
  ∃ a S, e = .returned (.pointer (some ⟨a, 0, none⟩)) ∧ Al w' S w.heap.size a [] ∧ RowKit.Below w.heap.size w w'
theorem anew_end (w : World) : Al ((w.alloc (.map #[] 0)).alloc (.cells #[.map (some w.heap.size), .slice none 0 0] 125)) (fun k => k = w.heap.size ∨ k = w.heap.size + 1) w.heap.size (w.heap.size + 1) [] ∧ RowKit.Below w.heap.size w ((w.alloc (.map #[] 0)).alloc (.cells #[.map (some w.heap.size), .slice none 0 0] 125)) := by
  have b1 := below_box w (.map #[] 0)
  have s1 : (w.alloc (.map #[] 0)).heap.size = w.heap.size + 1 := by simp
  have b2 := below_box (w.alloc (.map #[] 0)) (.cells #[.map (some w.heap.size), .slice none 0 0] 125)
  refine ⟨⟨w.heap.size, none, 0, 0, #[], fun _ => none, ⟨cell_last _ _ _ _ 0 s1, ⟨cell_last _ _ _ _ 1 s1, ?_, World.ownsRow_nil _ _ _ _, by simp [Value.ownBlock], fun i hi => absurd hi (by omega), fun i j hi => absurd hi (by omega), fun i hi => absurd hi (by omega)⟩, ?_, ?_, fun _ _ => rfl, ?_, ?_, .inr rfl, .inl rfl, ?_, by omega, ?_, ?_⟩, fun k h0 hk => absurd hk (by omega), List.Perm.refl _⟩, b1.trans (b2.mono (by omega))⟩
  · exact frz_blk (i := 1) (by rw [← s1]; exact heap_alloc_new _ _)
  · exact (Mv.made _ _ w).kept (RowKit.Below.heap_alloc _ _ _ (by omega))
  · intro s hs; simp at hs
  · simp
  · intro s hs; simp at hs
  · intro k hk
    rcases hk with hk | ⟨s, hs, _⟩
    · simp [Value.ownBlock] at hk
    · simp at hs
  · intro hk
    rcases hk with hk | ⟨s, hs, _⟩
    · simp [Value.ownBlock] at hk
    · simp at hs
  · intro k hk
    simp only [World.size_alloc]
    omega
set_option maxRecDepth 100000 in
set_option maxHeartbeats 1000000 in
theorem anew_any (w : World) : Calls Try.prog 45 #[] w (ANew w) := by
  have hmm := @run_makeMap Try.prog
  go_enter Try.func45, Try.ntmps45
  go_wp2_with fail
  go_ret
  exact ⟨_, _, rfl, (anew_end w).1, (anew_end w).2⟩
end Go.Proofs.Ytbnhemmklbbnmaa

/-! ## AlarmOps -/
namespace Go.Proofs.Ytbnhemmklbbnmaa
open Go.RowKit Go.Sort Go.Maps

section
variable {w w' : World} {S Q : Nat → Prop} {base a mb n c : Nat} {A : Option Addr} {d d' : Array Slp} {f : Nat → Option Value} {l : List En}
theorem AlP.nle (h : AlP w S base a mb A n c d f) : n ≤ 9223372036854775807 := by
  rcases h.hq.own.2 with ⟨_, h0⟩ | ⟨_, _, _, hv, _, _, h4, h5, _⟩
  · omega
  · unfold maxLen at h5; omega
/-- Who is on top of the heap is first in the list. -/
theorem AlP.top {e : En} (h : AlP w S base a mb A n c d f) (hh : Heap lessA d n) (hp : (d.toList.map Slp.en).Perm (e :: l)) (hs : SortE (e :: l)) : 0 < n ∧ d[0]!.en = e := by
  have hl := h.len hp
  simp at hl
  have hz := h.hq.size
  refine ⟨by omega, ?_⟩
  have h0 : d[0]!.en ∈ e :: l := hp.mem_iff.1 (List.mem_map.2 ⟨_, get_mem (by omega), rfl⟩)
  rcases List.mem_cons.1 h0 with h0 | h0
  · exact h0
  · exfalso
    obtain ⟨s, hsm, he⟩ := List.mem_map.1 (hp.mem_iff.2 (List.mem_cons_self (a := e)))
    obtain ⟨k, hk, rfl⟩ := mem_get hsm
    have h1 := (List.pairwise_cons.1 hs).1 _ h0
    rw [← he] at h1
    rcases Nat.eq_zero_or_pos k with rfl | hk0
    · rw [ltE_irr] at h1; cases h1
    · have h2 := heap_top lessA_wk hh k hk0 (by omega)
      unfold lessA at h2
      rw [h2] at h1
      cases h1
/-- The line was put in another order. -/
theorem AlP.heaped (h : AlP w S base a mb A n c d f) (hq : Hq w' base a A n c d') (hp : d'.toList.Perm d.toList) (ho : Only (Ft A n c d) w w') : AlP w' S base a mb A n c d' f :=
  ⟨Eq.trans (h.hq.keep0 ho) h.mc, hq, h.mv.kept (ho.block mb h.mv.lt h.mf), fun s hs => h.f1 s (hp.mem_iff.1 hs), fun k hk => h.f0 k (fun s hs => hk s (hp.mem_iff.2 hs)), ((hp.map (·.id)).nodup_iff).2 h.nd, fun s hs => h.idl s (hp.mem_iff.1 hs), h.sa, h.sm,
    fun k hk => h.sf k (Ft.perm hp hk), h.ma, fun hk => h.mf (Ft.perm hp hk), fun k hk => ⟨(h.sl k hk).1, Nat.lt_of_lt_of_le (h.sl k hk).2 ho.size⟩⟩
/-- Of the map too nothing is left of one that goes. -/
theorem AlP.gone {m i : Nat} {w2 : World} (h : AlP w S base a mb A (m + 1) c d f) (hm : Mv Try.prog 34 w2 mb m (delF f d[i]!.id)) (ho2 : Only (fun k => k = mb) w w2) (hq : Hq w' base a A m c d') (hp : d.toList.Perm (d[i]! :: d'.toList)) (ho : Only (Fa a A (m + 1) c d) w2 w') (hk : Keep0 a w2 w') :
    AlP w' S base a mb A m c d' (delF f d[i]!.id) ∧ Only S w w' := by
  have hz := h.hq.size
  have hmem : ∀ s ∈ d'.toList, s ∈ d.toList := fun s hs => hp.mem_iff.2 (List.mem_cons_of_mem _ hs)
  have hnd := ((hp.map (·.id)).nodup_iff).1 h.nd
  rw [List.map_cons, List.nodup_cons] at hnd
  have hft : ∀ k, Ft A m c d' k → Ft A (m + 1) c d k := fun k hk => by
    rcases hk with hk | ⟨s, hs, e⟩
    · exact .inl (by rw [own_block A (m + 1) c m c]; exact hk)
    · exact .inr ⟨s, hmem s hs, e⟩
  have hmbF : ¬ Fa a A (m + 1) c d mb := fun k => by
    rcases k with k | k
    · exact h.ma k
    · exact h.mf k
  have hS : Only S w w' := (ho2.mono (fun k _ e => by rw [e]; exact h.sm)).trans ho (fun k _ e => by
    rcases e with e | e
    · rw [e]; exact h.sa
    · exact h.sf k e)
  refine ⟨⟨Eq.trans hk ((World.cell?_of_block (a := ⟨a, 0, none⟩) (ho2.block a h.hq.lt (fun e => h.ma e.symm))).trans h.mc), hq, hm.kept (ho.block mb hm.lt hmbF), fun s hs => ?_, fun k hk => ?_, hnd.2, fun s hs => h.idl s (hmem s hs), h.sa, h.sm, fun k hk => h.sf k (hft k hk), h.ma, fun hk => h.mf (hft _ hk), fun k hk => ⟨(h.sl k hk).1, Nat.lt_of_lt_of_le (h.sl k hk).2 hS.size⟩⟩, hS⟩
  · unfold delF
    rw [if_neg (fun e => hnd.1 (by rw [← e]; exact List.mem_map_of_mem hs))]
    exact h.f1 s (hmem s hs)
  · unfold delF
    by_cases e : k = d[i]!.id
    · rw [if_pos e]
    · rw [if_neg e]
      refine h.f0 k (fun s hs e2 => ?_)
      rcases List.mem_cons.1 (hp.mem_iff.1 hs) with rfl | hs
      · exact e e2.symm
      · exact hk s hs e2
theorem gone_perm {x : Slp} (hp : d.toList.Perm (x :: d'.toList)) (hl : (d.toList.map Slp.en).Perm l) (hn : (d.toList.map (·.id)).Nodup) : (d'.toList.map Slp.en).Perm (without x.id l) := by
  have hnd := ((hp.map (·.id)).nodup_iff).1 hn
  rw [List.map_cons, List.nodup_cons] at hnd
  have h1 : l.Perm (x.en :: d'.toList.map Slp.en) := hl.symm.trans (hp.map Slp.en)
  have h2 := h1.filter (fun e => decide (e.1 ≠ x.id))
  have h3 : without x.id (x.en :: d'.toList.map Slp.en) = d'.toList.map Slp.en := by
    unfold without
    rw [List.filter_cons_of_neg (by simp [Slp.en])]
    refine without_none (fun y hy e => ?_)
    obtain ⟨s, hs, rfl⟩ := List.mem_map.1 hy
    exact hnd.1 (by rw [← e]; exact List.mem_map.2 ⟨s, hs, rfl⟩)
  unfold without at h3 ⊢
  rw [h3] at h2
  exact h2.symm
end
set_option maxRecDepth 100000 in
set_option maxHeartbeats 1000000 in
theorem alen2_any (w : World) (S : Nat → Prop) (base a : Nat) (l : List En) (h : Al w S base a l) : Calls Try.prog 70 #[.pointer (some ⟨a, 0, none⟩)] w fun e w' => e = .returned (.int .i64 (l.length : Int)) ∧ w = w' := by
  obtain ⟨mb, A, n, c, d, f, h1, h2, h3⟩ := h.ex
  have hl := h1.len h3
  have hc := h1.hq.cell
  rw [hl]
  clear h h1 h2 h3 hl
  go_enter Try.func70, Try.ntmps70
  go_wp2_with fail
  go_ret
  exact ⟨rfl, rfl⟩
set_option maxRecDepth 100000 in
theorem alen_nil (w : World) : Calls Try.prog 70 #[.pointer none] w fun e w' => e = .returned (.int .i64 0) ∧ w = w' := by
  go_enter Try.func70, Try.ntmps70
  go_wp2_with fail
  go_ret
  exact ⟨rfl, rfl⟩
def nextV : List En → Value
  | [] => .tuple #[.int .i64 0, .bool false]
  | e :: _ => .tuple #[.int .i64 e.2, .bool true]
set_option maxRecDepth 100000 in
set_option maxHeartbeats 1000000 in
theorem anext_any (w : World) (S : Nat → Prop) (base a : Nat) (l : List En) (h : Al w S base a l) (hs : SortE l) : Calls Try.prog 54 #[.pointer (some ⟨a, 0, none⟩)] w fun e w' => e = .returned (nextV l) ∧ w = w' := by
  have H := Lib.hid h
  rcases l with _ | ⟨x, l⟩
  · clear h
    go_enter Try.func54, Try.ntmps54
    go_wp2_with fail
    refine (alen2_any w S base a _ H.out).mono ?_
    rintro e w1 ⟨rfl, rfl⟩
    go_wp2_with fail
    go_ret2
    exact ⟨rfl, rfl⟩
  · obtain ⟨mb, A, n, c, d, f, h1, h2, h3⟩ := h.ex
    obtain ⟨hn, ht⟩ := h1.top h2 h3 hs
    obtain ⟨rb, rfl⟩ := h1.hq.row hn
    have hc := h1.hq.cell
    have hat := h1.hq.at_ hn
    have h11 := (h1.hq.sl 0 hn).c1
    have hnI : (0 : Int) < (n : Int) := by omega
    have hlI : (((x :: l).length : Int) == 0) = false := by simp; omega
    obtain ⟨N, HN⟩ : ∃ N : Int, Hid (N = ((x :: l).length : Int)) := ⟨_, rfl⟩
    rw [← HN.out] at hlI
    have HT : Hid (d[0]!.at_ = x.2) := by show _ = _; rw [← ht]; rfl
    generalize d[0]!.b = xb at *
    generalize d[0]!.at_ = xa at *
    clear h h1 h2 h3 ht hs
    go_enter Try.func54, Try.ntmps54
    go_wp2_with fail
    refine (alen2_any w S base a _ H.out).mono ?_
    rintro e w1 ⟨rfl, rfl⟩
    rw [← HN.out]
    go_wp2_with fail
    go_ret2
    exact ⟨by rw [HT.out]; rfl, rfl⟩
set_option maxRecDepth 100000 in
theorem anext_nil (w : World) : Calls Try.prog 54 #[.pointer none] w fun e w' => e = .returned (.tuple #[.int .i64 0, .bool false]) ∧ w = w' := by
  go_enter Try.func54, Try.ntmps54
  go_wp2_with fail
  refine (alen_nil w).mono ?_
  rintro e w1 ⟨rfl, rfl⟩
  go_wp2_with fail
  go_ret2
  exact ⟨rfl, rfl⟩
def whenV (o : Option Int) : Value := .tuple #[.int .i64 (o.getD 0), .bool o.isSome]
end Go.Proofs.Ytbnhemmklbbnmaa

/-! ## AlarmSet -/
namespace Go.Proofs.Ytbnhemmklbbnmaa
open Go.RowKit Go.Sort Go.Maps

def AForgot (w : World) (S : Nat → Prop) (base a id : Nat) (l : List En) (e : Ending) (w' : World) : Prop := e = .returned (.tuple #[]) ∧ Al w' S base a (without id l) ∧ Only S w w'
set_option maxRecDepth 100000 in
set_option maxHeartbeats 4000000 in
theorem aforget_any (w : World) (S : Nat → Prop) (base a mb n c i : Nat) (A : Option Addr) (d : Array Slp) (f : Nat → Option Value) (l : List En) (h : AlP w S base a mb A n c d f) (hh : Heap lessA d n) (hp : (d.toList.map Slp.en).Perm l) (hi : i < n) (hn : n ≤ 100000) :
    Calls Try.prog 66 #[.pointer (some ⟨a, 0, none⟩), .pointer (some ⟨d[i]!.b, 0, none⟩)] w (AForgot w S base a d[i]!.id l) := by
  obtain ⟨m, rfl⟩ : ∃ m, n = m + 1 := ⟨n - 1, by omega⟩
  obtain ⟨rb, rfl⟩ := h.hq.row (by omega)
  have H := Lib.hid h
  have HH := Lib.hid hh
  have HP := Lib.hid hp
  have hsl := h.hq.sl i hi
  have hidl := h.idl _ (get_mem (by rw [h.hq.size]; exact hi))
  have hkey := key64 Try.underlying34 hidl
  have hfs := h.f1 _ (get_mem (by rw [h.hq.size]; exact hi))
  have hout := (h.hq.out i hi).1
  have hmbs : d[i]!.b ≠ mb := fun e => h.mf (by rw [← e]; exact h.hq.ft hi)
  have hmc := h.mc
  have hc0 := hsl.c0
  have hc2 := hsl.c2
  have HKEY := Lib.hid hkey
  have HFS : Hid ((f d[i]!.id).isSome = true) := by show _ = _; rw [hfs]; rfl
  have HIM : Hid (i ≤ m) := by show i ≤ m; omega
  have HX : Hid (d[i]! = d[i]!) := rfl
  obtain ⟨xid, HXI⟩ : ∃ x, Hid (x = d[i]!.id) := ⟨_, rfl⟩
  obtain ⟨xb, HXB⟩ : ∃ x, Hid (x = d[i]!.b) := ⟨_, rfl⟩
  rw [← HXI.out] at hkey hc0
  rw [← HXB.out] at hc0 hc2
  rw [← HXI.out, ← HXB.out]
  clear h hh hp hsl hidl hfs hout hmbs HKEY
  go_enter Try.func66, Try.ntmps66
  go_wp2_with fail
  have H0 : (w.cell? ⟨a, 0, none⟩ = some (.map (some mb)) ∧ w.cell? ⟨xb, 0, none⟩ = some (.int .u64 (xid : Int))) := ⟨hmc, hc0⟩
  refine wp_region_noPanic ?_
  refine wp_region_F (S := (fun w' => w'.cell? ⟨a, 0, none⟩ = some (.map (some mb)) ∧ w'.cell? ⟨xb, 0, none⟩ = some (.int .u64 (xid : Int)))) (F := (fun j => j == 8)) (by kernel_rfl) H0 (fun hHeld => ?_)
  refine wpAnyF_take0 (i := 0) (oi := { dst := some 4, op := Op.move (Operand.tmp 0), type := 76, pos := "alarm.go:101", after := #[], guard := none }) (v := ?_) rfl (by kernel_rfl) (by kernel_rfl) (by kernel_rfl) (fun _ _ _ h => h) (Or.inl ⟨by rfl, ?_⟩) ?_
  rotate_left
  · intro w hSw; (try dsimp only at hSw); first | (go_simp; done) | (go_simp; with_reducible rfl)
  try simp only [Act.put, List.setIfInBounds_toArray, List.set_cons_zero, List.set_cons_succ]
  refine wpAnyF_take0 (i := 1) (oi := { dst := some 5, op := Op.nilCheck (Operand.tmp 4), type := 0, pos := "alarm.go:101", after := #[{ on := 0, ground := Ground.data }], guard := none }) (v := ?_) rfl (by kernel_rfl) (by kernel_rfl) (by kernel_rfl) (fun _ _ _ h => h) (Or.inl ⟨by rfl, ?_⟩) ?_
  rotate_left
  · intro w hSw; (try dsimp only at hSw); first | (go_simp; done) | (go_simp; with_reducible rfl)
  try simp only [Act.put, List.setIfInBounds_toArray, List.set_cons_zero, List.set_cons_succ]
  refine wpAnyF_take0 (i := 2) (oi := { dst := some 6, op := Op.fieldAddr 125 (Operand.tmp 5) 0, type := 0, pos := "alarm.go:101", after := #[{ on := 1, ground := Ground.data }], guard := none }) (v := ?_) rfl (by kernel_rfl) (by kernel_rfl) (by kernel_rfl) (fun _ _ _ h => h) (Or.inl ⟨by rfl, ?_⟩) ?_
  rotate_left
  · intro w hSw; (try dsimp only at hSw); first | (go_simp; done) | (go_simp; with_reducible rfl)
  try simp only [Act.put, List.setIfInBounds_toArray, List.set_cons_zero, List.set_cons_succ]
  refine wpAnyF_take (i := 3) (oi := { dst := some 7, op := Op.load 121 (Operand.tmp 6), type := 121, pos := "alarm.go:101", after := #[{ on := 2, ground := Ground.data }], guard := none }) (v := ?_) (fun j hj => by simp only [beq_iff_eq] at hj; subst hj; exact of_decide_eq_true (by kernel_rfl)) rfl (by kernel_rfl) (by kernel_rfl) (by kernel_rfl) (by kernel_rfl) (by kernel_rfl) (fun _ _ _ h => h) (Or.inl ⟨by rfl, ?_⟩) (by assumption) ?_
  rotate_left
  · intro w hSw; (try dsimp only at hSw); first | (go_simp; done) | (go_simp; with_reducible rfl)
  try simp only [Act.put, List.setIfInBounds_toArray, List.set_cons_zero, List.set_cons_succ]
  refine wpAnyF_take0 (i := 4) (oi := { dst := some 8, op := Op.move (Operand.tmp 1), type := 126, pos := "alarm.go:101", after := #[], guard := none }) (v := ?_) rfl (by kernel_rfl) (by kernel_rfl) (by kernel_rfl) (fun _ _ _ h => h) (Or.inl ⟨by rfl, ?_⟩) ?_
  rotate_left
  · intro w hSw; (try dsimp only at hSw); first | (go_simp; done) | (go_simp; with_reducible rfl)
  try simp only [Act.put, List.setIfInBounds_toArray, List.set_cons_zero, List.set_cons_succ]
  refine wpAnyF_take0 (i := 5) (oi := { dst := some 9, op := Op.nilCheck (Operand.tmp 8), type := 0, pos := "alarm.go:101", after := #[{ on := 4, ground := Ground.data }], guard := none }) (v := ?_) rfl (by kernel_rfl) (by kernel_rfl) (by kernel_rfl) (fun _ _ _ h => h) (Or.inl ⟨by rfl, ?_⟩) ?_
  rotate_left
  · intro w hSw; (try dsimp only at hSw); first | (go_simp; done) | (go_simp; with_reducible rfl)
  try simp only [Act.put, List.setIfInBounds_toArray, List.set_cons_zero, List.set_cons_succ]
  refine wpAnyF_take0 (i := 6) (oi := { dst := some 10, op := Op.fieldAddr 128 (Operand.tmp 9) 0, type := 0, pos := "alarm.go:101", after := #[{ on := 5, ground := Ground.data }], guard := none }) (v := ?_) rfl (by kernel_rfl) (by kernel_rfl) (by kernel_rfl) (fun _ _ _ h => h) (Or.inl ⟨by rfl, ?_⟩) ?_
  rotate_left
  · intro w hSw; (try dsimp only at hSw); first | (go_simp; done) | (go_simp; with_reducible rfl)
  try simp only [Act.put, List.setIfInBounds_toArray, List.set_cons_zero, List.set_cons_succ]
  refine wpAnyF_take (i := 7) (oi := { dst := some 11, op := Op.load 34 (Operand.tmp 10), type := 34, pos := "alarm.go:101", after := #[{ on := 6, ground := Ground.data }], guard := none }) (v := ?_) (fun j hj => by simp only [beq_iff_eq] at hj; subst hj; exact of_decide_eq_true (by kernel_rfl)) rfl (by kernel_rfl) (by kernel_rfl) (by kernel_rfl) (by kernel_rfl) (by kernel_rfl) (fun _ _ _ h => h) (Or.inl ⟨by rfl, ?_⟩) (by assumption) ?_
  rotate_left
  · intro w hSw; (try dsimp only at hSw); first | (go_simp; done) | (go_simp; with_reducible rfl)
  try simp only [Act.put, List.setIfInBounds_toArray, List.set_cons_zero, List.set_cons_succ]
  refine wpAnyF_oneF (i := 8) (o := { dst := none, op := Op.call { callee := Callee.builtin Builtin.delete, args := #[Operand.tmp 7, Operand.tmp 11], argTypes := #[121, 34] }, type := 0, pos := "alarm.go:101", after := #[{ on := 3, ground := Ground.data }, { on := 7, ground := Ground.data }], guard := none }) (by kernel_rfl) (by kernel_rfl) rfl (fun K hK => ?_)
  rw [if_pos (by rfl)]
  refine oper_mvDel (.tmp 7) (.tmp 11) 121 34 rfl 126 u64_keyed Try.underlying121 mb (m + 1) f rfl (H.out.mv.kept rfl) xid rfl hkey ?_
  intro w2 hm2 ho2
  rw [HXI.out, HFS.out, if_pos rfl, Nat.add_sub_cancel] at hm2
  have HM2 := Lib.hid hm2
  have HO2 : Hid (Only (fun k => k = mb) w w2) := (show Only (fun k => k = mb) w w.drew from (Only.refl _ w).drew).trans ho2 (fun _ _ k => k)
  clear hm2 ho2
  refine hK.out _ _ ?_
  clear hK K
  try simp only [Act.put]
  refine wpAnyF_done (by kernel_rfl) ?_ _
  refine NoPanic.normal ?_
  have HQ2 : Hid (Hq w2 base a (some ⟨rb, 0, none⟩) (m + 1) c d) := H.out.hq.only HO2.out (fun k _ e => by subst e; exact ⟨H.out.ma, H.out.mf⟩)
  have hc22 : w2.cell? ⟨xb, 2, none⟩ = some (.int .i64 (i : Int)) := by rw [HXB.out]; exact (HQ2.out.sl i hi).c2
  clear hmc hc0 hc2 H0
  go_wp2_with fail
  refine wp_region_noPanic ?_
  refine wp_region_F (S := (fun w' => w'.cell? ⟨xb, 2, none⟩ = some (.int .i64 (i : Int)))) (F := (fun j => j == 8)) (by kernel_rfl) hc22 (fun hHeld => ?_)
  refine wpAnyF_take0 (i := 0) (oi := { dst := some 12, op := Op.move (Operand.tmp 0), type := 76, pos := "alarm.go:102", after := #[], guard := none }) (v := ?_) rfl (by kernel_rfl) (by kernel_rfl) (by kernel_rfl) (fun _ _ _ h => h) (Or.inl ⟨by rfl, ?_⟩) ?_
  rotate_left
  · intro w hSw; (try dsimp only at hSw); first | (go_simp; done) | (go_simp; with_reducible rfl)
  try simp only [Act.put, List.setIfInBounds_toArray, List.set_cons_zero, List.set_cons_succ]
  refine wpAnyF_take0 (i := 1) (oi := { dst := some 13, op := Op.nilCheck (Operand.tmp 12), type := 0, pos := "alarm.go:102", after := #[{ on := 0, ground := Ground.data }], guard := none }) (v := ?_) rfl (by kernel_rfl) (by kernel_rfl) (by kernel_rfl) (fun _ _ _ h => h) (Or.inl ⟨by rfl, ?_⟩) ?_
  rotate_left
  · intro w hSw; (try dsimp only at hSw); first | (go_simp; done) | (go_simp; with_reducible rfl)
  try simp only [Act.put, List.setIfInBounds_toArray, List.set_cons_zero, List.set_cons_succ]
  refine wpAnyF_take0 (i := 2) (oi := { dst := some 14, op := Op.fieldAddr 125 (Operand.tmp 13) 1, type := 0, pos := "alarm.go:102", after := #[{ on := 1, ground := Ground.data }], guard := none }) (v := ?_) rfl (by kernel_rfl) (by kernel_rfl) (by kernel_rfl) (fun _ _ _ h => h) (Or.inl ⟨by rfl, ?_⟩) ?_
  rotate_left
  · intro w hSw; (try dsimp only at hSw); first | (go_simp; done) | (go_simp; with_reducible rfl)
  try simp only [Act.put, List.setIfInBounds_toArray, List.set_cons_zero, List.set_cons_succ]
  refine wpAnyF_take0 (i := 3) (oi := { dst := some 15, op := Op.makeInterface 143 (Operand.tmp 14), type := 155, pos := "alarm.go:102", after := #[{ on := 2, ground := Ground.data }], guard := none }) (v := ?_) rfl (by kernel_rfl) (by kernel_rfl) (by kernel_rfl) (fun _ _ _ h => h) (Or.inl ⟨by rfl, ?_⟩) ?_
  rotate_left
  · intro w hSw; (try dsimp only at hSw); first | (go_simp; done) | (go_simp; with_reducible rfl)
  try simp only [Act.put, List.setIfInBounds_toArray, List.set_cons_zero, List.set_cons_succ]
  refine wpAnyF_take0 (i := 4) (oi := { dst := some 16, op := Op.move (Operand.tmp 1), type := 126, pos := "alarm.go:102", after := #[], guard := none }) (v := ?_) rfl (by kernel_rfl) (by kernel_rfl) (by kernel_rfl) (fun _ _ _ h => h) (Or.inl ⟨by rfl, ?_⟩) ?_
  rotate_left
  · intro w hSw; (try dsimp only at hSw); first | (go_simp; done) | (go_simp; with_reducible rfl)
  try simp only [Act.put, List.setIfInBounds_toArray, List.set_cons_zero, List.set_cons_succ]
  refine wpAnyF_take0 (i := 5) (oi := { dst := some 17, op := Op.nilCheck (Operand.tmp 16), type := 0, pos := "alarm.go:102", after := #[{ on := 4, ground := Ground.data }], guard := none }) (v := ?_) rfl (by kernel_rfl) (by kernel_rfl) (by kernel_rfl) (fun _ _ _ h => h) (Or.inl ⟨by rfl, ?_⟩) ?_
  rotate_left
  · intro w hSw; (try dsimp only at hSw); first | (go_simp; done) | (go_simp; with_reducible rfl)
  try simp only [Act.put, List.setIfInBounds_toArray, List.set_cons_zero, List.set_cons_succ]
  refine wpAnyF_take0 (i := 6) (oi := { dst := some 18, op := Op.fieldAddr 128 (Operand.tmp 17) 2, type := 0, pos := "alarm.go:102", after := #[{ on := 5, ground := Ground.data }], guard := none }) (v := ?_) rfl (by kernel_rfl) (by kernel_rfl) (by kernel_rfl) (fun _ _ _ h => h) (Or.inl ⟨by rfl, ?_⟩) ?_
  rotate_left
  · intro w hSw; (try dsimp only at hSw); first | (go_simp; done) | (go_simp; with_reducible rfl)
  try simp only [Act.put, List.setIfInBounds_toArray, List.set_cons_zero, List.set_cons_succ]
  refine wpAnyF_take (i := 7) (oi := { dst := some 19, op := Op.load 3 (Operand.tmp 18), type := 3, pos := "alarm.go:102", after := #[{ on := 6, ground := Ground.data }], guard := none }) (v := ?_) (fun j hj => by simp only [beq_iff_eq] at hj; subst hj; exact of_decide_eq_true (by kernel_rfl)) rfl (by kernel_rfl) (by kernel_rfl) (by kernel_rfl) (by kernel_rfl) (by kernel_rfl) (fun _ _ _ h => h) (Or.inl ⟨by rfl, ?_⟩) (by assumption) ?_
  rotate_left
  · intro w hSw; (try dsimp only at hSw); first | (go_simp; done) | (go_simp; with_reducible rfl)
  try simp only [Act.put, List.setIfInBounds_toArray, List.set_cons_zero, List.set_cons_succ]
  refine wpAnyF_oneF (i := 8) (o := { dst := some 20, op := Op.call { callee := Callee.value (Operand.func 87), args := #[Operand.tmp 15, Operand.tmp 19], argTypes := #[155, 3] }, type := 20, pos := "alarm.go:102", after := #[{ on := 3, ground := Ground.data }, { on := 7, ground := Ground.data }], guard := none }) (by kernel_rfl) (by kernel_rfl) rfl (fun K hK => ?_)
  go_simp
  go_at_call 87
  have hrm := aremove_any w2.drew base a rb m c i d (HQ2.out.only (Only.refl (fun _ => False) w2).drew (fun _ _ k => k.elim)) HH.out HIM.out (by omega)
  unfold hva at hrm
  have HRM := Lib.hid hrm
  clear hrm
  with_reducible refine HRM.out.mono ?_
  rintro e w5 ⟨rfl, d', h5, hh5, hp5, ho5, hk5⟩
  have HF := Lib.hid (H.out.gone HM2.out HO2.out h5 hp5 ((Only.refl _ w2).drew.trans ho5 (fun _ _ k => k)) hk5)
  have HH5 := Lib.hid hh5
  have HP5 := Lib.hid hp5
  clear h5 hh5 hp5 ho5 hk5
  try go_wp2_with fail
  refine hK.out _ _ ?_
  clear hK K
  try simp only [Act.put, List.setIfInBounds_toArray, List.set_cons_zero, List.set_cons_succ]
  refine wpAnyF_done (by kernel_rfl) ?_ _
  refine NoPanic.normal ?_
  go_wp2
  go_end0
  refine ⟨rfl, ⟨mb, _, m, c, d', _, HF.out.1, HH5.out, ?_⟩, HF.out.2⟩
  rw [HXI.out]
  exact gone_perm HP5.out HP.out H.out.nd
def AClear (w : World) (S : Nat → Prop) (base a id : Nat) (l : List En) (e : Ending) (w' : World) : Prop := e = .returned (.bool (timeOf id l).isSome) ∧ Al w' S base a (without id l) ∧ Only S w w'
set_option maxRecDepth 100000 in
set_option maxHeartbeats 1000000 in
theorem aclear_any (w : World) (S : Nat → Prop) (base a id : Nat) (l : List En) (h : Al w S base a l) (hid : id < 18446744073709551616) (hn : l.length ≤ 100000) : Calls Try.prog 65 #[.pointer (some ⟨a, 0, none⟩), .int .u64 (id : Int)] w (AClear w S base a id l) := by
  obtain ⟨mb, A, n, c, d, f, h1, h2, h3⟩ := h.ex
  have hkey := key64 Try.underlying34 hid
  have hmc := h1.mc
  have hln := h1.len h3
  have HM := Lib.hid h1.mv
  unfold AClear
  rcases h1.find h3 id with ⟨ht, hf⟩ | ⟨i, hi, e, ht, hf⟩
  · have HF := Lib.hid hf
    have HW : Hid (without id l = l) := without_none (timeOf_none.1 ht)
    have H := Lib.hid h
    rw [ht]
    clear h h1 h2 h3 ht hf
    go_enter Try.func65, Try.ntmps65
    go_wp2_with (at_lookup; refine wpList_mv2 _ rfl _ _ 121 rfl 34 126 u64_keyed Try.underlying121 (.pointer none) (zero_sleeper _) mb n f rfl HM.out id rfl hkey (.pointer none) false (by rw [HF.out]; rfl) (by rw [HF.out]; rfl) ?_)
    go_ret
    exact ⟨rfl, by rw [HW.out]; exact H.out, Only.refl _ _⟩
  · have HF := Lib.hid hf
    have hfg := aforget_any w S base a mb n c i A d f l h1 h2 h3 hi (by omega)
    rw [e] at hfg
    have HFG := Lib.hid hfg
    rw [ht]
    generalize d[i]!.b = xb at *
    clear h h1 h2 h3 ht hf e hfg
    go_enter Try.func65, Try.ntmps65
    go_wp2_with (at_lookup; refine wpList_mv2 _ rfl _ _ 121 rfl 34 126 u64_keyed Try.underlying121 (.pointer none) (zero_sleeper _) mb n f rfl HM.out id rfl hkey (.pointer (some ⟨xb, 0, none⟩)) true (by rw [HF.out]; rfl) (by rw [HF.out]; rfl) ?_)
    refine HFG.out.mono ?_
    rintro e w2 ⟨rfl, h2, ho2⟩
    have H2 := Lib.hid h2
    have HO2 := Lib.hid ho2
    clear h2 ho2
    go_wp2_with fail
    go_ret
    exact ⟨rfl, H2.out, HO2.out⟩
set_option maxRecDepth 100000 in
theorem aclear_nil (w : World) (id : Int) : Calls Try.prog 65 #[.pointer none, .int .u64 id] w fun e w' => e = .returned (.bool false) ∧ w = w' := by
  go_enter Try.func65, Try.ntmps65
  go_wp2_with fail
  go_ret
  exact ⟨rfl, rfl⟩
end Go.Proofs.Ytbnhemmklbbnmaa

/-! ## AlarmPut -/
namespace Go.Proofs.Ytbnhemmklbbnmaa
open Go.RowKit Go.Sort Go.Maps

theorem set_get {d : Array Slp} {i : Nat} (x : Slp) (hi : i < d.size) (k : Nat) : (d.setIfInBounds i x)[k]! = if k = i then x else d[k]! := by
  by_cases hk : k < d.size
  · rw [getElem!_pos (d.setIfInBounds i x) k (by simpa using hk), getElem!_pos d k hk, Array.getElem_setIfInBounds hk]
    by_cases e : i = k
    · subst e; simp
    · rw [if_neg e, if_neg (fun h => e h.symm)]
  · rw [getElem!_neg (d.setIfInBounds i x) k (by simpa using hk), getElem!_neg d k hk, if_neg (by omega)]
theorem pvs_same {d : Array Slp} {i : Nat} {x : Slp} (hi : i < d.size) (hb : x.b = d[i]!.b) : pvs (d.setIfInBounds i x).toList = pvs d.toList := by
  rw [Array.toList_setIfInBounds]
  unfold pvs
  rw [List.map_set]
  apply List.ext_getElem?
  intro k
  by_cases e : i = k
  · subst e
    rw [List.getElem?_set_self (by simpa using hi)]
    rw [List.getElem?_map, List.getElem?_eq_getElem (by simpa using hi)]
    rw [getElem!_pos d i hi] at hb
    simp [pv, hb]
  · rw [List.getElem?_set_ne e]
theorem set_perm {id : Nat} {t at_ : Int} : ∀ (L : List En) (i : Nat), (ids L).Nodup → L[i]? = some (id, t) → (L.set i (id, at_)).Perm ((id, at_) :: without id L)
  | [], i, _, h => by simp at h
  | y :: L, 0, hn, h => by
    simp at h
    subst h
    have h1 := (List.nodup_cons.1 hn).1
    have h2 : without id ((id, t) :: L) = L := by
      unfold without
      rw [List.filter_cons_of_neg (by simp)]
      exact without_none (fun z hz e => h1 (by show id ∈ _; rw [← e]; exact List.mem_map_of_mem hz))
    rw [h2]
    exact .refl _
  | y :: L, i + 1, hn, h => by
    have h1 := List.nodup_cons.1 hn
    have h0 : L[i]? = some (id, t) := by simpa using h
    have ih := set_perm (at_ := at_) L i h1.2 h0
    have hy : y.1 ≠ id := fun e => h1.1 (by show y.1 ∈ _; rw [e]; exact List.mem_map.2 ⟨_, List.mem_of_getElem? h0, rfl⟩)
    have h2 : without id (y :: L) = y :: without id L := by
      unfold without
      rw [List.filter_cons_of_pos (by simpa using hy)]
    rw [h2, List.set_cons_succ]
    exact (ih.cons y).trans (.swap _ _ _)
section
variable {w w1 w2 w3 : World} {S : Nat → Prop} {base a mb n c : Nat} {A A' : Option Addr} {d d' : Array Slp} {f : Nat → Option Value} {l : List En}
/-- A sleeper's time is set anew. -/
theorem AlP.reset {i : Nat} (h : AlP w S base a mb A n c d f) (hi : i < n) (at_ : Int) : AlP (w.setCell ⟨d[i]!.b, 1, none⟩ (.int .i64 at_)) S base a mb A n c (d.setIfInBounds i ⟨d[i]!.b, d[i]!.id, at_⟩) f ∧ Only S w (w.setCell ⟨d[i]!.b, 1, none⟩ (.int .i64 at_)) := by
  have hz := h.hq.size
  have g := set_get (d := d) (i := i) ⟨d[i]!.b, d[i]!.id, at_⟩ (by omega)
  have hs := h.hq.sl i hi
  have ho := h.hq.out i hi
  have kp : ∀ k, k ≠ d[i]!.b → (w.setCell ⟨d[i]!.b, 1, none⟩ (.int .i64 at_)).heap[k]? = w.heap[k]? := fun k hk => RowKit.Below.heap_setCell w ⟨d[i]!.b, 1, none⟩ _ k hk
  have hmem : ∀ s ∈ (d.setIfInBounds i ⟨d[i]!.b, d[i]!.id, at_⟩).toList, ∃ t ∈ d.toList, t.b = s.b ∧ t.id = s.id := fun s hs => by
    obtain ⟨k, hk, rfl⟩ := mem_get hs
    have hk' : k < d.size := by simpa using hk
    refine ⟨_, get_mem hk', ?_⟩
    rw [g k]
    split
    · rename_i e; subst e; exact ⟨rfl, rfl⟩
    · exact ⟨rfl, rfl⟩
  have hmem2 : ∀ t ∈ d.toList, ∃ s ∈ (d.setIfInBounds i ⟨d[i]!.b, d[i]!.id, at_⟩).toList, s.b = t.b ∧ s.id = t.id := fun t ht => by
    obtain ⟨k, hk, rfl⟩ := mem_get ht
    refine ⟨_, get_mem (i := k) (by simpa using hk), ?_⟩
    rw [g k]
    split
    · rename_i e; subst e; exact ⟨rfl, rfl⟩
    · exact ⟨rfl, rfl⟩
  have hft : ∀ k, Ft A n c (d.setIfInBounds i ⟨d[i]!.b, d[i]!.id, at_⟩) k → Ft A n c d k := fun k hk => by
    rcases hk with hk | ⟨s, hs, e⟩
    · exact .inl hk
    · obtain ⟨t, ht, e1, _⟩ := hmem s hs
      exact .inr ⟨t, ht, e1.trans e⟩
  have hS : S d[i]!.b := h.sf _ (h.hq.ft hi)
  have hids : (d.setIfInBounds i ⟨d[i]!.b, d[i]!.id, at_⟩).toList.map (·.id) = d.toList.map (·.id) := by
    rw [Array.toList_setIfInBounds, List.map_set]
    apply List.ext_getElem?
    intro k
    by_cases e : i = k
    · subst e
      rw [List.getElem?_set_self (by simp; omega), List.getElem?_map, List.getElem?_eq_getElem (by simp; omega)]
      rw [getElem!_pos d i (by omega)]
      simp
    · rw [List.getElem?_set_ne e]
  refine ⟨⟨(World.cell?_of_block (a := ⟨a, 0, none⟩) (kp a (fun e => ho.1 e.symm))).trans h.mc, ⟨(World.cell?_of_block (a := ⟨a, 1, none⟩) (kp a (fun e => ho.1 e.symm))).trans h.hq.cell, (World.frozen?_of_block (a := ⟨a, 1, none⟩) (kp a (fun e => ho.1 e.symm))).trans h.hq.frz, ?_, h.hq.off, fun k hk => ?_, fun j k hj hk e => ?_, fun k hk => ?_⟩, h.mv.kept (kp mb (fun e => h.mf (by rw [e]; exact h.hq.ft hi))), fun s hs => ?_, fun k hk => ?_, by rw [hids]; exact h.nd, fun s hs => ?_, h.sa, h.sm, fun k hk => h.sf k (hft k hk), h.ma, fun hk => h.mf (hft _ hk), fun k hk => ?_⟩, ?_⟩
  · rw [pvs_same (x := ⟨d[i]!.b, d[i]!.id, at_⟩) (by omega) rfl]
    exact own_same h.hq.own (fun b hb => kp b (fun e => ho.2 (by rw [hb, e])))
  · rw [g k]
    by_cases e : k = i
    · subst e
      rw [if_pos rfl]
      exact ⟨(World.cell?_setCell_other _ _ _ _ (by simp)).trans hs.c0, World.cell?_setCell_same _ _ _ hs.c1, (World.cell?_setCell_other _ _ _ _ (by simp)).trans hs.c2, fun o => by rw [World.frozen?_setCell]; exact hs.fz o⟩
    · rw [if_neg e]
      exact (h.hq.sl k hk).kept (kp _ (fun e2 => e (h.hq.apart k i hk hi e2)))
  · rw [g j, g k] at e
    refine h.hq.apart j k hj hk ?_
    split at e <;> split at e <;> simp_all
  · rw [g k]
    split
    · exact ho
    · exact h.hq.out k hk
  · obtain ⟨t, ht, e1, e2⟩ := hmem s hs
    rw [← e1, ← e2]
    exact h.f1 t ht
  · refine h.f0 k (fun t ht e => ?_)
    obtain ⟨s, hs, _, e2⟩ := hmem2 t ht
    exact hk s hs (e2.trans e)
  · obtain ⟨t, ht, _, e2⟩ := hmem s hs
    rw [← e2]
    exact h.idl t ht
  · have := h.sl k hk
    exact ⟨this.1, by simpa using this.2⟩
  · exact (Only.setCell w _ 1 _).mono (fun k _ e => by rw [e]; exact hS)
theorem AlP.reset_perm {i : Nat} (h : AlP w S base a mb A n c d f) (hp : (d.toList.map Slp.en).Perm l) (hi : i < n) (at_ : Int) : ((d.setIfInBounds i ⟨d[i]!.b, d[i]!.id, at_⟩).toList.map Slp.en).Perm (setE d[i]!.id at_ l) := by
  have hz := h.hq.size
  have hn : (ids (d.toList.map Slp.en)).Nodup := by
    unfold ids
    rw [List.map_map]
    exact h.nd
  have h1 := set_perm (id := d[i]!.id) (t := d[i]!.at_) (at_ := at_) (d.toList.map Slp.en) i hn (by
    rw [List.getElem?_map, List.getElem?_eq_getElem (by simp; omega), getElem!_pos d i (by omega)]
    simp [Slp.en])
  rw [Array.toList_setIfInBounds, List.map_set]
  refine h1.trans (List.Perm.trans ?_ (ins_perm _ _).symm)
  exact (hp.filter _).cons _
theorem AlP.reset_fix {i : Nat} (h : AlP w S base a mb A n c d f) (hh : Heap lessA d n) (hi : i < n) (at_ : Int) : FixInv lessA (d.setIfInBounds i ⟨d[i]!.b, d[i]!.id, at_⟩) n i := by
  have hz := h.hq.size
  exact fix_of lessA_wk hh (Nat.le_refl _) (fun k _ hki => by rw [set_get _ (by omega), if_neg hki])
/-- A new sleeper has come. -/
theorem AlP.grow {n' c' : Nat} {x : Slp} (h : AlP w S base a mb A n c d f) (hxb : x.b = w.heap.size) (hid : x.id < 18446744073709551616) (hno : ∀ s ∈ d.toList, s.id ≠ x.id) (hw1 : RowKit.Below w.heap.size w w1) (hm : Mv Try.prog 34 w2 mb n' (putF f x.id (.pointer (some ⟨x.b, 0, none⟩)))) (hn' : n' = n + 1) (ho2 : Only (fun k => k = mb) w1 w2)
    (hq : Hq w3 base a A' (n + 1) c' d') (hp : d'.toList.Perm (x :: d.toList)) (hn : Near w2 A A') (ho : Only (fun k => k = x.b ∨ Fa a A n c d k) w2 w3) (hk : Keep0 a w2 w3) :
    AlP w3 (fun k => S k ∨ (w.heap.size ≤ k ∧ k < w3.heap.size)) base a mb A' (n + 1) c' d' (putF f x.id (.pointer (some ⟨x.b, 0, none⟩))) ∧ Only S w w3 := by
  subst hn'
  have hz12 : w.heap.size ≤ w2.heap.size := Nat.le_trans hw1.size ho2.size
  have hmbl := h.mv.lt
  have hal := h.hq.lt
  have hS : Only S w w3 := ((Only.of_below (S := S) hw1).trans (ho2.mono (fun k _ e => by rw [e]; exact h.sm)) (fun _ _ k => k)).trans ho (fun k hk e => by
    rcases e with e | e | e
    · omega
    · rw [e]; exact h.sa
    · exact h.sf k e)
  have hbase : base ≤ w.heap.size := by have := h.sl a h.sa; omega
  have hft : ∀ k, k < w3.heap.size → Ft A' (n + 1) c' d' k → (S k ∨ (w.heap.size ≤ k ∧ k < w3.heap.size)) ∧ (k < w.heap.size → Ft A n c d k) := fun k hk3 hk => by
    have hk2 : Ft A n c d k ∨ w.heap.size ≤ k := by
      rcases hk with hk | ⟨s, hs, e⟩
      · rcases hn with rfl | ⟨b, rfl, hb⟩
        · exact .inl (.inl (by rw [own_block _ n c (n + 1) c']; exact hk))
        · simp [Value.ownBlock] at hk
          exact .inr (by omega)
      · rcases List.mem_cons.1 (hp.mem_iff.1 hs) with rfl | hs
        · exact .inr (by omega)
        · exact .inl (.inr ⟨s, hs, e⟩)
    rcases hk2 with hk2 | hk2
    · exact ⟨.inl (h.sf k hk2), fun _ => hk2⟩
    · exact ⟨.inr ⟨hk2, hk3⟩, fun e => by omega⟩
  have hftl : ∀ k, Ft A' (n + 1) c' d' k → k < w3.heap.size := fun k hk => by
    rcases hk with hk | ⟨s, hs, e⟩
    · exact (hq.own.lt k hk).2
    · obtain ⟨i, hi, rfl⟩ := mem_get hs
      rw [← e]
      exact (hq.sl i (by rw [← hq.size]; exact hi)).lt
  refine ⟨⟨Eq.trans hk ((World.cell?_of_block (a := ⟨a, 0, none⟩) (ho2.block a (Nat.lt_of_lt_of_le hal hw1.size) (fun e => h.ma e.symm))).trans ((World.cell?_of_block (a := ⟨a, 0, none⟩) (hw1.block a hal)).trans h.mc)), hq, hm.kept (ho.block mb hm.lt (fun e => ?_)), fun s hs => ?_, fun k hk => ?_, ?_, fun s hs => ?_, .inl h.sa, .inl h.sm, fun k hk => (hft k (hftl k hk) hk).1, h.ma, fun hk => h.mf ((hft mb (hftl mb hk) hk).2 hmbl), fun k hk => ?_⟩, hS⟩
  · rcases e with e | e | e
    · omega
    · exact h.ma e
    · exact h.mf e
  · unfold putF
    rcases List.mem_cons.1 (hp.mem_iff.1 hs) with rfl | hs
    · rw [if_pos rfl]
    · rw [if_neg (hno s hs)]; exact h.f1 s hs
  · unfold putF
    have h1 := hk x (hp.mem_iff.2 List.mem_cons_self)
    rw [if_neg (fun e => h1 e.symm)]
    exact h.f0 k (fun s hs => hk s (hp.mem_iff.2 (List.mem_cons_of_mem _ hs)))
  · rw [(hp.map (·.id)).nodup_iff, List.map_cons, List.nodup_cons]
    refine ⟨fun hm => ?_, h.nd⟩
    obtain ⟨s, hs, e⟩ := List.mem_map.1 hm
    exact hno s hs e
  · rcases List.mem_cons.1 (hp.mem_iff.1 hs) with rfl | hs
    · exact hid
    · exact h.idl s hs
  · have h3 := hS.size
    rcases hk with hk | hk
    · have := h.sl k hk
      exact ⟨this.1, by omega⟩
    · exact ⟨by omega, hk.2⟩
end
def ASet (w : World) (S : Nat → Prop) (base a id : Nat) (at_ : Int) (l : List En) (e : Ending) (w' : World) : Prop :=
  e = .returned (.tuple #[]) ∧ ∃ S', Al w' S' base a (setE id at_ l) ∧ Only S w w' ∧ ∀ k, S' k → S k ∨ w.heap.size ≤ k
set_option maxRecDepth 100000 in
set_option maxHeartbeats 4000000 in
theorem aset_any (w : World) (S : Nat → Prop) (base a id : Nat) (at_ : Int) (l : List En) (h : Al w S base a l) (hid : id < 18446744073709551616) (hn : l.length ≤ 90000) : Calls Try.prog 59 #[.pointer (some ⟨a, 0, none⟩), .int .u64 (id : Int), .int .i64 at_] w (ASet w S base a id at_ l) := by
  obtain ⟨mb, A, n, c, d, f, h1, h2, h3⟩ := h.ex
  have hkey := key64 Try.underlying34 hid
  have hmc := h1.mc
  have hln := h1.len h3
  have HM := Lib.hid h1.mv
  rcases h1.find h3 id with ⟨ht, hf⟩ | ⟨i, hi, e, ht, hf⟩
  · have HF := Lib.hid hf
    have H1 := Lib.hid h1
    have H2 := Lib.hid h2
    have H3 := Lib.hid h3
    have HW : Hid (without id l = l) := without_none (timeOf_none.1 ht)
    have HNO : Hid (∀ s ∈ d.toList, s.id ≠ id) := fun s hs e => by
      have := h1.f1 s hs
      rw [e, hf] at this
      cases this
    have hal := h1.hq.lt
    have hml := h1.mv.lt
    have hb0 : base ≤ w.heap.size := by have := h1.sl a h1.sa; omega
    obtain ⟨o, HOB⟩ : ∃ o, Hid (o = Obj.cells #[.int .u64 (id : Int), .int .i64 at_, .int .i64 0] 128) := ⟨_, rfl⟩
    have hB := below_box w (.cells #[.int .u64 (id : Int), .int .i64 at_, .int .i64 0] 128)
    have HB := Lib.hid hB
    have hmc1 : (w.alloc (.cells #[.int .u64 (id : Int), .int .i64 at_, .int .i64 0] 128)).cell? ⟨a, 0, none⟩ = some (.map (some mb)) := (hB.cell (p := ⟨a, 0, none⟩) hal).trans hmc
    have HX1 : Hid (Ha (w.alloc (.cells #[.int .u64 (id : Int), .int .i64 at_, .int .i64 0] 128)) ⟨w.heap.size, id, at_⟩ 0) := ⟨cell_last _ _ _ _ 0 rfl, cell_last _ _ _ _ 1 rfl, cell_last _ _ _ _ 2 rfl, fun o => frz_blk (heap_alloc_new _ _)⟩
    have HA1 := Lib.hid (h1.below hB)
    have HMX : Hid (n < maxLen) := by show n < maxLen; unfold maxLen; omega
    clear h h1 h2 h3 ht hf hB
    go_enter Try.func59, Try.ntmps59
    go_wp2_with (first | (at_lookup; refine wpList_mv2 _ rfl _ _ 121 rfl 34 126 u64_keyed Try.underlying121 (.pointer none) (zero_sleeper _) mb n f rfl HM.out id rfl hkey (.pointer none) false (by rw [HF.out]; rfl) (by rw [HF.out]; rfl) ?_) | (at_mapUpdate; refine wpList_mvPut _ rfl _ _ _ 121 rfl 34 126 u64_keyed Try.underlying121 mb n f rfl HA1.out.mv HMX.out id _ rfl rfl hkey ?_; intro w2 hm2 ho2; have HM2 := Lib.hid hm2; have HO2 := Lib.hid ho2; clear hm2 ho2))
    have HQ2 : Hid (Hq w2 base a A n c d) := HA1.out.hq.only HO2.out (fun k _ e => by subst e; exact ⟨HA1.out.ma, HA1.out.mf⟩)
    have HX2 : Hid (Ha w2 ⟨w.heap.size, id, at_⟩ 0) := HX1.out.kept (HO2.out.block _ HX1.out.lt (fun e => by have e2 : w.heap.size = mb := e; omega))
    have hps := ahpush_any w2 base a A n c 0 d ⟨w.heap.size, id, at_⟩ HQ2.out H2.out HX2.out (fun e => by have e2 : w.heap.size = a := e; omega) (fun k => by have := H1.out.sl _ (H1.out.sf _ k); have e2 : w.heap.size < w.heap.size := this.2; omega) (by have := HO2.out.size; have := HB.out.size; omega) (by omega)
    unfold hva at hps
    have HPS := Lib.hid hps
    clear hps hmc1
    refine HPS.out.mono ?_
    rintro e w3 ⟨rfl, A', c', d', hq3, hh3, hp3, hn3, ho3, hk3⟩
    have hg := H1.out.grow (x := ⟨w.heap.size, id, at_⟩) rfl hid HNO.out HB.out HM2.out (by rw [HF.out]; rfl) HO2.out hq3 hp3 hn3 ho3 hk3
    have HG := Lib.hid hg
    have HH3 := Lib.hid hh3
    have HP3 := Lib.hid hp3
    clear hq3 hh3 hp3 hn3 ho3 hk3 hg
    go_wp2_with fail
    go_end0
    refine ⟨rfl, _, ⟨mb, A', n + 1, c', d', _, HG.out.1, HH3.out, ?_⟩, HG.out.2, fun k hk => ?_⟩
    · unfold setE
      rw [HW.out]
      refine (HP3.out.map Slp.en).trans (List.Perm.trans ?_ (ins_perm _ _).symm)
      exact H3.out.cons _
    · rcases hk with hk | hk
      · exact .inl hk
      · exact .inr hk.1
  · have HF := Lib.hid hf
    have hrs := h1.reset hi at_
    have hpm := h1.reset_perm h3 hi at_
    have hfx := h1.reset_fix h2 hi at_
    obtain ⟨rb, rfl⟩ := h1.hq.row (by omega)
    have hc1 := (h1.hq.sl i hi).c1
    have hfz := (h1.hq.sl i hi).fz 1
    rw [e] at hrs hpm hfx
    have hc2 := (hrs.1.hq.sl i hi).c2
    rw [set_get _ (by rw [h1.hq.size]; exact hi), if_pos rfl] at hc2
    simp only at hc2
    have hSl := h1.sl
    generalize d[i]!.b = xb at *
    generalize d.setIfInBounds i ⟨xb, id, at_⟩ = d1 at *
    have HRS := Lib.hid hrs
    have HPM := Lib.hid hpm
    have HFX := Lib.hid hfx
    clear h h1 h2 h3 ht hf e hrs hpm hfx
    go_enter Try.func59, Try.ntmps59
    go_wp2_with (at_lookup; refine wpList_mv2 _ rfl _ _ 121 rfl 34 126 u64_keyed Try.underlying121 (.pointer none) (zero_sleeper _) mb n f rfl HM.out id rfl hkey (.pointer (some ⟨xb, 0, none⟩)) true (by rw [HF.out]; rfl) (by rw [HF.out]; rfl) ?_)
    generalize w.setCell ⟨xb, 1, none⟩ (.int .i64 at_) = w1 at *
    refine wp_region_noPanic ?_
    refine wp_region_F (S := (fun w' => w'.cell? ⟨xb, 2, none⟩ = some (.int .i64 (i : Int)))) (F := (fun j => j == 8)) (by kernel_rfl) hc2 (fun hHeld => ?_)
    refine wpAnyF_take0 (i := 0) (oi := { dst := some 25, op := Op.move (Operand.tmp 0), type := 76, pos := "alarm.go:39", after := #[], guard := none }) (v := ?_) rfl (by kernel_rfl) (by kernel_rfl) (by kernel_rfl) (fun _ _ _ h => h) (Or.inl ⟨by rfl, ?_⟩) ?_
    rotate_left
    · intro w hSw; (try dsimp only at hSw); first | (go_simp; done) | (go_simp; with_reducible rfl)
    try simp only [Act.put, List.setIfInBounds_toArray, List.set_cons_zero, List.set_cons_succ]
    refine wpAnyF_take0 (i := 1) (oi := { dst := some 26, op := Op.nilCheck (Operand.tmp 25), type := 0, pos := "alarm.go:39", after := #[{ on := 0, ground := Ground.data }], guard := none }) (v := ?_) rfl (by kernel_rfl) (by kernel_rfl) (by kernel_rfl) (fun _ _ _ h => h) (Or.inl ⟨by rfl, ?_⟩) ?_
    rotate_left
    · intro w hSw; (try dsimp only at hSw); first | (go_simp; done) | (go_simp; with_reducible rfl)
    try simp only [Act.put, List.setIfInBounds_toArray, List.set_cons_zero, List.set_cons_succ]
    refine wpAnyF_take0 (i := 2) (oi := { dst := some 27, op := Op.fieldAddr 125 (Operand.tmp 26) 1, type := 0, pos := "alarm.go:39", after := #[{ on := 1, ground := Ground.data }], guard := none }) (v := ?_) rfl (by kernel_rfl) (by kernel_rfl) (by kernel_rfl) (fun _ _ _ h => h) (Or.inl ⟨by rfl, ?_⟩) ?_
    rotate_left
    · intro w hSw; (try dsimp only at hSw); first | (go_simp; done) | (go_simp; with_reducible rfl)
    try simp only [Act.put, List.setIfInBounds_toArray, List.set_cons_zero, List.set_cons_succ]
    refine wpAnyF_take0 (i := 3) (oi := { dst := some 28, op := Op.makeInterface 143 (Operand.tmp 27), type := 155, pos := "alarm.go:39", after := #[{ on := 2, ground := Ground.data }], guard := none }) (v := ?_) rfl (by kernel_rfl) (by kernel_rfl) (by kernel_rfl) (fun _ _ _ h => h) (Or.inl ⟨by rfl, ?_⟩) ?_
    rotate_left
    · intro w hSw; (try dsimp only at hSw); first | (go_simp; done) | (go_simp; with_reducible rfl)
    try simp only [Act.put, List.setIfInBounds_toArray, List.set_cons_zero, List.set_cons_succ]
    refine wpAnyF_take0 (i := 4) (oi := { dst := some 29, op := Op.move (Operand.tmp 6), type := 126, pos := "alarm.go:39", after := #[], guard := none }) (v := ?_) rfl (by kernel_rfl) (by kernel_rfl) (by kernel_rfl) (fun _ _ _ h => h) (Or.inl ⟨by rfl, ?_⟩) ?_
    rotate_left
    · intro w hSw; (try dsimp only at hSw); first | (go_simp; done) | (go_simp; with_reducible rfl)
    try simp only [Act.put, List.setIfInBounds_toArray, List.set_cons_zero, List.set_cons_succ]
    refine wpAnyF_take0 (i := 5) (oi := { dst := some 30, op := Op.nilCheck (Operand.tmp 29), type := 0, pos := "alarm.go:39", after := #[{ on := 4, ground := Ground.data }], guard := none }) (v := ?_) rfl (by kernel_rfl) (by kernel_rfl) (by kernel_rfl) (fun _ _ _ h => h) (Or.inl ⟨by rfl, ?_⟩) ?_
    rotate_left
    · intro w hSw; (try dsimp only at hSw); first | (go_simp; done) | (go_simp; with_reducible rfl)
    try simp only [Act.put, List.setIfInBounds_toArray, List.set_cons_zero, List.set_cons_succ]
    refine wpAnyF_take0 (i := 6) (oi := { dst := some 31, op := Op.fieldAddr 128 (Operand.tmp 30) 2, type := 0, pos := "alarm.go:39", after := #[{ on := 5, ground := Ground.data }], guard := none }) (v := ?_) rfl (by kernel_rfl) (by kernel_rfl) (by kernel_rfl) (fun _ _ _ h => h) (Or.inl ⟨by rfl, ?_⟩) ?_
    rotate_left
    · intro w hSw; (try dsimp only at hSw); first | (go_simp; done) | (go_simp; with_reducible rfl)
    try simp only [Act.put, List.setIfInBounds_toArray, List.set_cons_zero, List.set_cons_succ]
    refine wpAnyF_take (i := 7) (oi := { dst := some 32, op := Op.load 3 (Operand.tmp 31), type := 3, pos := "alarm.go:39", after := #[{ on := 6, ground := Ground.data }], guard := none }) (v := ?_) (fun j hj => by simp only [beq_iff_eq] at hj; subst hj; exact of_decide_eq_true (by kernel_rfl)) rfl (by kernel_rfl) (by kernel_rfl) (by kernel_rfl) (by kernel_rfl) (by kernel_rfl) (fun _ _ _ h => h) (Or.inl ⟨by rfl, ?_⟩) (by assumption) ?_
    rotate_left
    · intro w hSw; (try dsimp only at hSw); first | (go_simp; done) | (go_simp; with_reducible rfl)
    try simp only [Act.put, List.setIfInBounds_toArray, List.set_cons_zero, List.set_cons_succ]
    refine wpAnyF_oneF (i := 8) (o := { dst := some 33, op := Op.call { callee := Callee.value (Operand.func 83), args := #[Operand.tmp 28, Operand.tmp 32], argTypes := #[155, 3] }, type := 0, pos := "alarm.go:39", after := #[{ on := 3, ground := Ground.data }, { on := 7, ground := Ground.data }], guard := none }) (by kernel_rfl) (by kernel_rfl) rfl (fun K hK => ?_)
    go_simp
    go_at_call 83
    have hfa := afix_any w1.drew base a rb n c i d1 (HRS.out.1.hq.only (Only.refl (fun _ => False) w1).drew (fun _ _ k => k.elim)) HFX.out hi (by omega)
    unfold hva at hfa
    have HFA := Lib.hid hfa
    clear hfa
    with_reducible refine HFA.out.mono ?_
    rintro e w5 ⟨rfl, d', h5, hh5, hp5, ho5⟩
    have HH5 := Lib.hid hh5
    have HP5 := Lib.hid hp5
    have hon5 := (Only.refl (Ft (some ⟨rb, 0, none⟩) n c d1) w1).drew.trans ho5 (fun _ _ k => k)
    have HA5 := Lib.hid (HRS.out.1.heaped h5 hp5 hon5)
    have HO5 := Lib.hid (HRS.out.2.trans hon5 (fun k _ hk => HRS.out.1.sf k hk))
    clear h5 hh5 hp5 ho5 hon5
    try go_wp2_with fail
    refine hK.out _ _ ?_
    clear hK K
    try simp only [Act.put, List.setIfInBounds_toArray, List.set_cons_zero, List.set_cons_succ]
    refine wpAnyF_done (by kernel_rfl) ?_ _
    refine NoPanic.normal ?_
    go_wp2
    go_end0
    refine ⟨rfl, S, ⟨mb, _, n, c, d', f, HA5.out, HH5.out, (HP5.out.map _).trans HPM.out⟩, HO5.out, fun k hk => .inl hk⟩
set_option maxRecDepth 100000 in
theorem aset_nil (w : World) (id at_ : Int) : Calls Try.prog 59 #[.pointer none, .int .u64 id, .int .i64 at_] w fun e w' => e = .returned (.tuple #[]) ∧ w = w' := by
  go_enter Try.func59, Try.ntmps59
  go_wp2_with fail
  exact bodyPost_ret (v := .tuple #[]) (by simp [results, Try.results59, go_sem]) rfl ⟨rfl, rfl⟩
end Go.Proofs.Ytbnhemmklbbnmaa

/-! ## AlarmDue -/
namespace Go.Proofs.Ytbnhemmklbbnmaa
open Go.RowKit Go.Sort Go.Maps

def unv (x : Nat) : Value := .int .u64 (x : Int)
def unvs (L : List Nat) : List Value := L.map unv
theorem unvs_len (L : List Nat) : (unvs L).length = L.length := by simp [unvs]
theorem unvs_app (L M : List Nat) : unvs (L ++ M) = unvs L ++ unvs M := by simp [unvs]
theorem unvs_at {L : List Nat} {j x : Nat} (h : L[j]? = some x) : (unvs L)[j]? = some (unv x) := by simp [unvs, h]
theorem unvs_one (L : List Nat) : ∀ u ∈ unvs L, u.oneCell' = true := by
  intro u hu
  obtain ⟨x, _, rfl⟩ := List.mem_map.1 hu
  rfl
theorem u64_info : (Try.prog.info? 34).map (fun i => (i.zero, i.size, i.bytes)) = some (some (.int .u64 0), 1, 8) := by kernel_rfl
theorem due_app {now : Int} {done rest : List En} (h : ∀ e ∈ done, e.2 ≤ now) : dueE now (done ++ rest) = done ++ dueE now rest ∧ restE now (done ++ rest) = restE now rest := by
  induction done with
  | nil => exact ⟨rfl, rfl⟩
  | cons x done ih =>
    have h1 := ih (fun e he => h e (List.mem_cons_of_mem _ he))
    have h2 := h x List.mem_cons_self
    unfold dueE restE at *
    rw [List.cons_append, List.takeWhile_cons_of_pos (by simpa using h2), List.dropWhile_cons_of_pos (by simpa using h2), h1.1, h1.2]
    exact ⟨rfl, rfl⟩
theorem due_stop {now : Int} {x : En} {r : List En} (h : ¬ x.2 ≤ now) : dueE now (x :: r) = [] ∧ restE now (x :: r) = x :: r := by
  unfold dueE restE
  rw [List.takeWhile_cons_of_neg (by simpa using h), List.dropWhile_cons_of_neg (by simpa using h)]
  exact ⟨rfl, rfl⟩
def ADue (w : World) (S : Nat → Prop) (base a : Nat) (now : Int) (l : List En) (e : Ending) (w' : World) : Prop :=
  ∃ A n c, e = .returned (.slice A n c) ∧ w'.ownsRow w.heap.size 34 1 (.slice A n c) n (unvs (ids (dueE now l))) ∧ Al w' S base a (restE now l) ∧ Only S w w'
def DueRel (w : World) (S : Nat → Prop) (base a : Nat) (now : Int) (l : List En) (gk : Nat) (v5 v6 v7 : Value) (wr : World) : Prop :=
  ∃ (done rest : List En) (A : Option Addr) (n c : Nat) (at_ : Int) (ok : Bool), l = done ++ rest ∧ (∀ e ∈ done, e.2 ≤ now) ∧ rest.length ≤ gk ∧ Ord rest ∧ v5 = .slice A n c ∧ v6 = .int .i64 at_ ∧ v7 = .bool ok ∧ nextV rest = .tuple #[.int .i64 at_, .bool ok] ∧
    wr.ownsRow w.heap.size 34 1 (.slice A n c) n (unvs (ids done)) ∧ Al wr S base a rest ∧ Only S w wr
set_option maxRecDepth 100000 in
set_option maxHeartbeats 4000000 in
theorem adue_any (w : World) (S : Nat → Prop) (base a : Nat) (now : Int) (l : List En) (h : Al w S base a l) (ho : Ord l) (hn : l.length ≤ 90000) :
    Calls Try.prog 46 #[.pointer (some ⟨a, 0, none⟩), .int .i64 now] w (ADue w S base a now l) := by
  obtain ⟨i0, hi0, hz0, hz1, hz2⟩ := info_parts u64_info
  have H := Lib.hid h
  have HO := Lib.hid ho
  have HSL : Hid (∀ k, S k → k < w.heap.size) := fun k hk => (h.sl k hk).2
  obtain ⟨at0, ok0, hnx⟩ : ∃ at0 ok0, nextV l = .tuple #[.int .i64 at0, .bool ok0] := by
    rcases l with _ | ⟨x, l⟩
    · exact ⟨_, _, rfl⟩
    · exact ⟨_, _, rfl⟩
  have HNX := Lib.hid hnx
  clear h ho hnx
  go_enter Try.func46, Try.ntmps46
  go_wp2_with fail
  refine (anext_any w S base a l H.out HO.out.sort).mono ?_
  rintro e w1 ⟨rfl, rfl⟩
  rw [HNX.out]
  go_wp2_with fail
  go_loopg [5, 6, 7] l.length (fun gk v5 v6 v7 wr => DueRel w S base a now l gk v5 v6 v7 wr)
  case atStart => exact ⟨[], l, none, 0, 0, at0, ok0, rfl, fun e he => (by cases he), Nat.le_refl _, HO.out, rfl, rfl, rfl, HNX.out, World.ownsRow_nil _ _ _ _, H.out, Only.refl _ _⟩
  case round =>
    clear H HO HNX
    obtain ⟨done, rest, A, n, c, at_, ok, hl, hdn, hgk, hord, rfl, rfl, rfl, hnx, hown, hal, hon⟩ := hrel
    have HL := Lib.hid hl
    have HDN := Lib.hid hdn
    have HORD := Lib.hid hord
    have HOWN := Lib.hid hown
    have HAL := Lib.hid hal
    have HON := Lib.hid hon
    have hns : n ≤ 90000 := by
      have h1 := hown.1
      rw [unvs_len] at h1
      have h2 : (ids done).length = done.length := by simp [ids]
      rw [hl] at hn
      simp at hn
      omega
    clear hl hdn hord hown hon
    rcases rest with _ | ⟨x, r⟩
    · unfold nextV at hnx
      injection hnx with hnx
      simp at hnx
      obtain ⟨rfl, rfl⟩ := hnx
      clear hal
      go_wp2_with fail
      go_ret
      have hd := due_app (now := now) (rest := []) HDN.out
      rw [← HL.out] at hd
      refine ⟨A, n, c, rfl, ?_, ?_, HON.out⟩
      · rw [hd.1]; simpa [dueE] using HOWN.out
      · rw [hd.2]; exact HAL.out
    · unfold nextV at hnx
      injection hnx with hnx
      simp at hnx
      obtain ⟨hx2, rfl⟩ := hnx
      have HX2 : Hid (x.2 = at_) := by show _ = _; omega
      clear hx2
      by_cases hle : at_ ≤ now
      · obtain ⟨mb, A1, n1, c1, d, f, h1, h2, h3⟩ := hal.ex
        obtain ⟨hn1, htop⟩ := h1.top h2 h3 HORD.out.sort
        have hln1 := h1.len h3
        obtain ⟨rb, rfl⟩ := h1.hq.row hn1
        have hc := h1.hq.cell
        have hat := h1.hq.at_ hn1
        have h00 := (h1.hq.sl 0 hn1).c0
        have hn1I : (0 : Int) < (n1 : Int) := by omega
        have H1 := Lib.hid h1
        have H2 := Lib.hid h2
        have H3 := Lib.hid h3
        have HID : Hid (d[0]!.id = x.1) := by show _ = _; rw [← htop]; rfl
        obtain ⟨xb, HXB⟩ : ∃ xb, Hid (xb = d[0]!.b) := ⟨_, rfl⟩
        obtain ⟨xid, HXI⟩ : ∃ xid, Hid (xid = x.1) := ⟨_, rfl⟩
        rw [← HXB.out] at hat h00
        rw [HID.out, ← HXI.out] at h00
        have HN1 : Hid (n1 ≤ 100000) := by show n1 ≤ 100000; rw [HL.out] at hn; simp at hn hln1; omega
        have HN10 : Hid (0 < n1) := hn1
        have HNL : Hid (Sn (wr.alloc (.cells #[.int .u64 (xid : Int)] 34)) (wr.heap.size + 1) (some ⟨wr.heap.size, 0, none⟩) 1 1 1 (unvs [xid])) := lit_sn wr 34 (unvs [xid]) 1 1 rfl (by unfold maxLen; omega)
        have hwz := HON.out.size
        clear hal h1 h2 h3 htop hln1
        go_wp2_with (at_builtin; refine wpList_append_dstN _ rfl (.tmp 31) (.tmp 36) 37 37 rfl w.heap.size 34 i0 _ 1 8 Try.underlying37 hi0 hz0 hz1 hz2 rfl A n c (unvs (ids done)) rfl (.inr (HOWN.out.alloc _)) _ 1 (unvs [xid]) rfl (HNL.out.src Try.underlying37 (unvs_one [xid])) (by omega) (by omega) (by simp; omega) ?_; intro A9 c9 w9 g1 g2 g3 g4 g5 g6; have HO9 := Lib.hid (g2 (by omega)); have HG5 := Lib.hid g5; clear g1 g2 g3 g4 g5 g6)
        have hon9 : Only (fun k => (Value.slice A n c).ownBlock = some k) wr w9 := (Only.of_below (below_box wr _)).trans (Only.of_grown HG5.out (S := fun k => (Value.slice A n c).ownBlock = some k) (fun k e => by split at e; cases e; exact e.symm)) (fun _ _ k => k)
        have hoS : ∀ k, (Value.slice A n c).ownBlock = some k → ¬ S k := fun k hk hs => by
          have e1 := HOWN.out.lt k hk
          have e2 := HSL.out k hs
          omega
        have hA9 := H1.out.only hon9 (fun k _ hk => hoS k hk)
        have hfg := aforget_any w9 S base a mb n1 c1 0 (some ⟨rb, 0, none⟩) d f (x :: r) hA9 H2.out H3.out HN10.out HN1.out
        rw [← HXB.out] at hfg
        have HFG := Lib.hid hfg
        have HO19 : Hid (Only S w w9) := HON.out.trans (hon9.mono (S2 := fun k => w.heap.size ≤ k) (fun k _ hk => (HOWN.out.lt k hk).1)) (fun k hk e => by omega)
        clear hfg hA9 hon9
        refine HFG.out.mono ?_
        rintro e w5 ⟨rfl, h5, ho5⟩
        rw [HID.out, ord_head HORD.out] at h5
        have H5 := Lib.hid h5
        have HO5 := Lib.hid (HO19.out.trans ho5 (fun _ _ k => k))
        have HW5 : Hid (w5.ownsRow w.heap.size 34 1 (.slice A9 (n + 1) c9) (n + 1) (unvs (ids done) ++ unvs [xid])) := own_same HO9.out (fun b hb => ho5.block b (HO9.out.lt b hb).2 (fun hs => by
          have e1 := (HO9.out.lt b hb).1
          have e2 := HSL.out b hs
          omega))
        have HOR := Lib.hid HORD.out.tail
        obtain ⟨at2, ok2, hnx2⟩ : ∃ at0 ok0, nextV r = .tuple #[.int .i64 at0, .bool ok0] := by
          rcases r with _ | ⟨y, r⟩
          · exact ⟨_, _, rfl⟩
          · exact ⟨_, _, rfl⟩
        have HNX2 := Lib.hid hnx2
        clear h5 ho5 hnx2
        go_wp2_with fail
        refine (anext_any w5 S base a r H5.out HOR.out.sort).mono ?_
        rintro e w6 ⟨rfl, rfl⟩
        rw [HNX2.out]
        go_wp2_with fail
        go_roundg (gk - 1)
        case measure => simp at hgk; omega
        case rel =>
          refine ⟨done ++ [x], r, A9, n + 1, c9, at2, ok2, by rw [HL.out]; simp, fun e he => ?_, by simp at hgk; omega, HOR.out, rfl, rfl, rfl, HNX2.out, ?_, H5.out, HO5.out⟩
          · rcases List.mem_append.1 he with he | he
            · exact HDN.out e he
            · simp at he
              subst he
              rw [HX2.out]
              exact hle
          · have e1 : ids (done ++ [x]) = ids done ++ [xid] := by unfold ids; rw [List.map_append, HXI.out]; rfl
            rw [e1, unvs_app]
            exact HW5.out
      · clear hal
        go_wp2_with fail
        go_ret
        have hd := due_app (now := now) (rest := x :: r) HDN.out
        rw [← HL.out] at hd
        have hs := due_stop (now := now) (x := x) (r := r) (by rw [HX2.out]; omega)
        refine ⟨A, n, c, rfl, ?_, ?_, HON.out⟩
        · rw [hd.1, hs.1, List.append_nil]; exact HOWN.out
        · rw [hd.2, hs.2]; exact HAL.out
set_option maxRecDepth 100000 in
theorem adue_nil (w : World) (now : Int) : Calls Try.prog 46 #[.pointer none, .int .i64 now] w fun e w' => e = .returned (.slice none 0 0) ∧ w = w' := by
  go_enter Try.func46, Try.ntmps46
  go_wp2_with fail
  refine (anext_nil w).mono ?_
  rintro e w1 ⟨rfl, rfl⟩
  go_wp2_with fail
  go_loopg [5, 6, 7] 0 (fun gk v5 v6 v7 wr => v5 = .slice none 0 0 ∧ v6 = .int .i64 0 ∧ v7 = .bool false ∧ w = wr)
  case atStart => exact ⟨rfl, rfl, rfl, rfl⟩
  case round =>
    obtain ⟨rfl, rfl, rfl, rfl⟩ := hrel
    go_wp2_with fail
    go_ret
    exact ⟨rfl, rfl⟩
end Go.Proofs.Ytbnhemmklbbnmaa

/-! ## EqNums -/
namespace Go.Proofs.Ytbnhemmklbbnmaa
open Go.RowKit Go.Sort

def EqnRel (w : World) (L M : List Nat) (n gk : Nat) (vi : Value) (wr : World) : Prop :=
  ∃ k, gk + k = n ∧ vi = .int .i64 (k : Int) ∧ L.take k = M.take k ∧ RowKit.Below w.heap.size w wr
theorem sn_nat {w : World} {B n c j : Nat} {A : Option Addr} {L : List Nat} (h : Sn w B A n c 1 (unvs L)) (hj : j < n) : ∃ b o x, A = some ⟨b, o, none⟩ ∧ b < B ∧ L[j]? = some x ∧ w.cell? ⟨b, o + j, none⟩ = some (.int .u64 (x : Int)) := by
  have hl : L.length = n := by have := h.len; rw [unvs_len] at this; omega
  have hr : L[j]? = some L[j] := List.getElem?_eq_getElem (by omega)
  obtain ⟨b, o, e, hb, hc⟩ := h.cell (by omega)
  exact ⟨b, o, L[j], e, hb, hr, hc _ _ (unvs_at hr)⟩
set_option maxRecDepth 100000 in
set_option maxHeartbeats 4000000 in
theorem eqn_any (w : World) (A A' : Option Addr) (n c n' c' : Nat) (L M : List Nat) (h : Sn w w.heap.size A n c 1 (unvs L)) (h' : Sn w w.heap.size A' n' c' 1 (unvs M)) :
    Calls Try.prog 14 #[.slice A n c, .slice A' n' c'] w (Says w (.bool (decide (L = M)))) := by
  have H := Lib.hid h
  have H' := Lib.hid h'
  have hl : L.length = n := by have := h.len; rw [unvs_len] at this; omega
  have hl' : M.length = n' := by have := h'.len; rw [unvs_len] at this; omega
  have hnm : n ≤ 9223372036854775807 := Nat.le_trans h.le h.max
  have HL : Hid (L.length = n ∧ M.length = n') := ⟨hl, hl'⟩
  clear h h' hl hl'
  by_cases hnn : n = n'
  · subst hnn
    go_enter Try.func14, Try.ntmps14
    go_wp2_with fail
    go_loopg [13] n (fun gk vi wr => EqnRel w L M n gk vi wr)
    case atStart => exact ⟨0, rfl, rfl, rfl, RowKit.Below.refl _ _⟩
    case round =>
      obtain ⟨k, hk, rfl, hE, hb0⟩ := hrel
      have HE := Lib.hid hE
      have HB0 := Lib.hid hb0
      clear hE hb0
      by_cases hlt : k < n
      · obtain ⟨b, o, x, rfl, hb, hx, hc⟩ := sn_nat (H.out.on HB0.out (Nat.le_refl _)) hlt
        obtain ⟨b', o', y, rfl, hb', hy, hc'⟩ := sn_nat (H'.out.on HB0.out (Nat.le_refl _)) hlt
        have HX := Lib.hid hx
        have HY := Lib.hid hy
        clear hx hy
        by_cases hxy : x = y
        · subst hxy
          have hne : ((x : Int) != (x : Int)) = false := by simp
          go_wp2_with fail
          go_quiet (fail)
          go_wp2_with fail
          go_roundg (gk - 1)
          case measure => omega
          case rel => exact ⟨k + 1, by omega, by go_num, by rw [List.take_add_one, List.take_add_one, HX.out, HY.out, HE.out], below_drewN HB0.out _⟩
        · have hne : ((x : Int) != (y : Int)) = true := by simp; omega
          have HN : Hid (decide (L = M) = false) := by
            show _ = _
            rw [decide_eq_false_iff_not]
            intro e
            have h1 := HX.out
            rw [e, HY.out] at h1
            injection h1 with h1
            exact hxy h1.symm
          go_wp2_with fail
          go_quiet (fail)
          go_wp2_with fail
          go_ret
          exact ⟨(by rw [HN.out]; first | done | rfl), below_drewN HB0.out _⟩
      · have HN : Hid (decide (L = M) = true) := by
          show _ = _
          rw [decide_eq_true_iff]
          have h1 := HE.out
          rw [List.take_of_length_le (by have := HL.out.1; omega), List.take_of_length_le (by have := HL.out.2; omega)] at h1
          exact h1
        go_wp2_with fail
        go_ret
        exact ⟨(by rw [HN.out]; first | done | rfl), HB0.out⟩
  · have hne : ((n : Int) != (n' : Int)) = true := by simp; omega
    have HN : Hid (decide (L = M) = false) := by
      show _ = _
      rw [decide_eq_false_iff_not]
      intro e
      rw [e] at HL
      exact hnn (HL.out.1.symm.trans HL.out.2)
    go_enter Try.func14, Try.ntmps14
    go_wp2_with fail
    go_ret
    exact ⟨(by rw [HN.out]; first | done | rfl), RowKit.Below.refl _ _⟩
end Go.Proofs.Ytbnhemmklbbnmaa
