/-
  WORDS for alarm's sleepers; CONTRACTS of line's Less, Swap, Len on cells.
  No statement is proved here.
-/
import Derived.Test.YtfmfamnngfanfaaAlarmMath
import Derived.Test.YtfmfamnngfanfaaCmpInts
import Derived.Test.YtfmfamnngfanfaaMapView
import Derived.BigRegion
namespace Go.Proofs.Ytfmfamnngfanfaa
open Go.RowKit Go.Sort

/-- A sleeper: its block, who it is, when. -/
structure Slp where
  b : Nat
  id : Nat
  at_ : Int
instance : Inhabited Slp := ⟨⟨0, 0, 0⟩⟩
def Slp.en (s : Slp) : En := (s.id, s.at_)
def lessA (x y : Slp) : Bool := ltE x.en y.en
theorem lessA_wk : Wk lessA := ⟨fun _ _ _ => ltE_wk.tr _ _ _, fun _ _ => ltE_wk.as _ _⟩
theorem lessA_is (x y : Slp) : decide (orI (cmpI x.at_ y.at_) (cmpI (x.id : Int) (y.id : Int)) < 0) = lessA x y := by
  unfold orI cmpI lessA ltE Slp.en
  rw [Bool.eq_iff_iff]
  simp
  split <;> split <;> (try split) <;> (try split) <;> (try split) <;> omega
def pv (s : Slp) : Value := .pointer (some ⟨s.b, 0, none⟩)
def pvs (L : List Slp) : List Value := L.map pv
theorem pvs_len (L : List Slp) : (pvs L).length = L.length := by simp [pvs]
theorem pvs_app (L M : List Slp) : pvs (L ++ M) = pvs L ++ pvs M := by simp [pvs]
theorem pvs_one (L : List Slp) : ∀ u ∈ pvs L, u.oneCell' = true := by
  intro u hu
  obtain ⟨x, _, rfl⟩ := List.mem_map.1 hu
  rfl

set_option maxRecDepth 100000 in
set_option maxHeartbeats 4000000 in
theorem aless_cells (w : World) (b o n c i j : Nat) (x y : Slp) (hi : i < n) (hj : j < n)
    (pi : w.cell? ⟨b, o + i, none⟩ = some (.pointer (some ⟨x.b, 0, none⟩))) (pj : w.cell? ⟨b, o + j, none⟩ = some (.pointer (some ⟨y.b, 0, none⟩)))
    (x0 : w.cell? ⟨x.b, 0, none⟩ = some (.int .u64 (x.id : Int))) (x1 : w.cell? ⟨x.b, 1, none⟩ = some (.int .i64 x.at_))
    (y0 : w.cell? ⟨y.b, 0, none⟩ = some (.int .u64 (y.id : Int))) (y1 : w.cell? ⟨y.b, 1, none⟩ = some (.int .i64 y.at_)) :
    Calls Try.prog 136 #[.slice (some ⟨b, o, none⟩) n c, .int .i64 i, .int .i64 j] w (Says w (.bool (lessA x y))) := by
  have hiI : (i : Int) < (n : Int) := by omega
  have hjI : (j : Int) < (n : Int) := by omega
  have hi0 : (0 : Int) ≤ (i : Int) := by omega
  have hj0 : (0 : Int) ≤ (j : Int) := by omega
  go_enter Try.func136, Try.ntmps136
  go_wp2_with fail
  have H0 : ((w.cell? ⟨b, o + i, none⟩ = some (.pointer (some ⟨x.b, 0, none⟩)) ∧ w.cell? ⟨b, o + j, none⟩ = some (.pointer (some ⟨y.b, 0, none⟩)) ∧ w.cell? ⟨x.b, 0, none⟩ = some (.int .u64 (x.id : Int)) ∧ w.cell? ⟨x.b, 1, none⟩ = some (.int .i64 x.at_) ∧ w.cell? ⟨y.b, 0, none⟩ = some (.int .u64 (y.id : Int)) ∧ w.cell? ⟨y.b, 1, none⟩ = some (.int .i64 y.at_)) ∧ RowKit.Below w.heap.size w w) := ⟨⟨pi, pj, x0, x1, y0, y1⟩, RowKit.Below.refl _ _⟩
  refine wp_region_noPanic ?_
  refine wp_region_held_drew (S := (fun w' => (w'.cell? ⟨b, o + i, none⟩ = some (.pointer (some ⟨x.b, 0, none⟩)) ∧ w'.cell? ⟨b, o + j, none⟩ = some (.pointer (some ⟨y.b, 0, none⟩)) ∧ w'.cell? ⟨x.b, 0, none⟩ = some (.int .u64 (x.id : Int)) ∧ w'.cell? ⟨x.b, 1, none⟩ = some (.int .i64 x.at_) ∧ w'.cell? ⟨y.b, 0, none⟩ = some (.int .u64 (y.id : Int)) ∧ w'.cell? ⟨y.b, 1, none⟩ = some (.int .i64 y.at_)) ∧ RowKit.Below w.heap.size w w')) (by kernel_rfl) ⟨H0.1, H0.2.drew⟩ (fun hHeld => ?_)
  refine wpAnyH_take (i := 0) (oi := { dst := some 7, op := Op.move (Operand.tmp 0), type := 138, pos := "alarm.go:108", after := #[], guard := none }) (v := ?_) rfl (by kernel_rfl) (by kernel_rfl) (by kernel_rfl) (fun _ _ _ h => h) (Or.inl ⟨by rfl, ?_⟩) (by assumption) ?_
  rotate_left
  · intro w hSw; (try dsimp only at hSw); first | (go_simp; done) | (go_simp; with_reducible rfl)
  try simp only [Act.put, List.setIfInBounds_toArray, List.set_cons_zero, List.set_cons_succ]
  refine wpAnyH_take (i := 1) (oi := { dst := some 8, op := Op.move (Operand.tmp 1), type := 3, pos := "alarm.go:108", after := #[], guard := none }) (v := ?_) rfl (by kernel_rfl) (by kernel_rfl) (by kernel_rfl) (fun _ _ _ h => h) (Or.inl ⟨by rfl, ?_⟩) (by assumption) ?_
  rotate_left
  · intro w hSw; (try dsimp only at hSw); first | (go_simp; done) | (go_simp; with_reducible rfl)
  try simp only [Act.put, List.setIfInBounds_toArray, List.set_cons_zero, List.set_cons_succ]
  refine wpAnyH_take (i := 2) (oi := { dst := some 9, op := Op.indexAddr 138 (Operand.tmp 7) (Operand.tmp 8), type := 0, pos := "alarm.go:108", after := #[{ on := 0, ground := Ground.data }, { on := 1, ground := Ground.data }], guard := none }) (v := ?_) rfl (by kernel_rfl) (by kernel_rfl) (by kernel_rfl) (fun _ _ _ h => h) (Or.inl ⟨by rfl, ?_⟩) (by assumption) ?_
  rotate_left
  · intro w hSw; (try dsimp only at hSw); first | (go_simp; done) | (go_simp; with_reducible rfl)
  try simp only [Act.put, List.setIfInBounds_toArray, List.set_cons_zero, List.set_cons_succ]
  refine wpAnyH_take (i := 3) (oi := { dst := some 10, op := Op.load 141 (Operand.tmp 9), type := 141, pos := "alarm.go:108", after := #[{ on := 2, ground := Ground.data }], guard := none }) (v := ?_) rfl (by kernel_rfl) (by kernel_rfl) (by kernel_rfl) (fun _ _ _ h => h) (Or.inl ⟨by rfl, ?_⟩) (by assumption) ?_
  rotate_left
  · intro w hSw; (try dsimp only at hSw); first | (go_simp; done) | (go_simp; with_reducible rfl)
  try simp only [Act.put, List.setIfInBounds_toArray, List.set_cons_zero, List.set_cons_succ]
  refine wpAnyH_take (i := 4) (oi := { dst := some 11, op := Op.nilCheck (Operand.tmp 10), type := 0, pos := "alarm.go:108", after := #[{ on := 3, ground := Ground.data }], guard := none }) (v := ?_) rfl (by kernel_rfl) (by kernel_rfl) (by kernel_rfl) (fun _ _ _ h => h) (Or.inl ⟨by rfl, ?_⟩) (by assumption) ?_
  rotate_left
  · intro w hSw; (try dsimp only at hSw); first | (go_simp; done) | (go_simp; with_reducible rfl)
  try simp only [Act.put, List.setIfInBounds_toArray, List.set_cons_zero, List.set_cons_succ]
  refine wpAnyH_take (i := 5) (oi := { dst := some 12, op := Op.fieldAddr 145 (Operand.tmp 11) 1, type := 0, pos := "alarm.go:108", after := #[{ on := 4, ground := Ground.data }], guard := none }) (v := ?_) rfl (by kernel_rfl) (by kernel_rfl) (by kernel_rfl) (fun _ _ _ h => h) (Or.inl ⟨by rfl, ?_⟩) (by assumption) ?_
  rotate_left
  · intro w hSw; (try dsimp only at hSw); first | (go_simp; done) | (go_simp; with_reducible rfl)
  try simp only [Act.put, List.setIfInBounds_toArray, List.set_cons_zero, List.set_cons_succ]
  refine wpAnyH_take (i := 6) (oi := { dst := some 13, op := Op.load 2 (Operand.tmp 12), type := 2, pos := "alarm.go:108", after := #[{ on := 5, ground := Ground.data }], guard := none }) (v := ?_) rfl (by kernel_rfl) (by kernel_rfl) (by kernel_rfl) (fun _ _ _ h => h) (Or.inl ⟨by rfl, ?_⟩) (by assumption) ?_
  rotate_left
  · intro w hSw; (try dsimp only at hSw); first | (go_simp; done) | (go_simp; with_reducible rfl)
  try simp only [Act.put, List.setIfInBounds_toArray, List.set_cons_zero, List.set_cons_succ]
  refine wpAnyH_take (i := 7) (oi := { dst := some 14, op := Op.move (Operand.tmp 0), type := 138, pos := "alarm.go:108", after := #[], guard := none }) (v := ?_) rfl (by kernel_rfl) (by kernel_rfl) (by kernel_rfl) (fun _ _ _ h => h) (Or.inl ⟨by rfl, ?_⟩) (by assumption) ?_
  rotate_left
  · intro w hSw; (try dsimp only at hSw); first | (go_simp; done) | (go_simp; with_reducible rfl)
  try simp only [Act.put, List.setIfInBounds_toArray, List.set_cons_zero, List.set_cons_succ]
  refine wpAnyH_take (i := 8) (oi := { dst := some 15, op := Op.move (Operand.tmp 2), type := 3, pos := "alarm.go:108", after := #[], guard := none }) (v := ?_) rfl (by kernel_rfl) (by kernel_rfl) (by kernel_rfl) (fun _ _ _ h => h) (Or.inl ⟨by rfl, ?_⟩) (by assumption) ?_
  rotate_left
  · intro w hSw; (try dsimp only at hSw); first | (go_simp; done) | (go_simp; with_reducible rfl)
  try simp only [Act.put, List.setIfInBounds_toArray, List.set_cons_zero, List.set_cons_succ]
  refine wpAnyH_take (i := 9) (oi := { dst := some 16, op := Op.indexAddr 138 (Operand.tmp 14) (Operand.tmp 15), type := 0, pos := "alarm.go:108", after := #[{ on := 7, ground := Ground.data }, { on := 8, ground := Ground.data }], guard := none }) (v := ?_) rfl (by kernel_rfl) (by kernel_rfl) (by kernel_rfl) (fun _ _ _ h => h) (Or.inl ⟨by rfl, ?_⟩) (by assumption) ?_
  rotate_left
  · intro w hSw; (try dsimp only at hSw); first | (go_simp; done) | (go_simp; with_reducible rfl)
  try simp only [Act.put, List.setIfInBounds_toArray, List.set_cons_zero, List.set_cons_succ]
  refine wpAnyH_take (i := 10) (oi := { dst := some 17, op := Op.load 141 (Operand.tmp 16), type := 141, pos := "alarm.go:108", after := #[{ on := 9, ground := Ground.data }], guard := none }) (v := ?_) rfl (by kernel_rfl) (by kernel_rfl) (by kernel_rfl) (fun _ _ _ h => h) (Or.inl ⟨by rfl, ?_⟩) (by assumption) ?_
  rotate_left
  · intro w hSw; (try dsimp only at hSw); first | (go_simp; done) | (go_simp; with_reducible rfl)
  try simp only [Act.put, List.setIfInBounds_toArray, List.set_cons_zero, List.set_cons_succ]
  refine wpAnyH_take (i := 11) (oi := { dst := some 18, op := Op.nilCheck (Operand.tmp 17), type := 0, pos := "alarm.go:108", after := #[{ on := 10, ground := Ground.data }], guard := none }) (v := ?_) rfl (by kernel_rfl) (by kernel_rfl) (by kernel_rfl) (fun _ _ _ h => h) (Or.inl ⟨by rfl, ?_⟩) (by assumption) ?_
  rotate_left
  · intro w hSw; (try dsimp only at hSw); first | (go_simp; done) | (go_simp; with_reducible rfl)
  try simp only [Act.put, List.setIfInBounds_toArray, List.set_cons_zero, List.set_cons_succ]
  refine wpAnyH_take (i := 12) (oi := { dst := some 19, op := Op.fieldAddr 145 (Operand.tmp 18) 1, type := 0, pos := "alarm.go:108", after := #[{ on := 11, ground := Ground.data }], guard := none }) (v := ?_) rfl (by kernel_rfl) (by kernel_rfl) (by kernel_rfl) (fun _ _ _ h => h) (Or.inl ⟨by rfl, ?_⟩) (by assumption) ?_
  rotate_left
  · intro w hSw; (try dsimp only at hSw); first | (go_simp; done) | (go_simp; with_reducible rfl)
  try simp only [Act.put, List.setIfInBounds_toArray, List.set_cons_zero, List.set_cons_succ]
  refine wpAnyH_take (i := 13) (oi := { dst := some 20, op := Op.load 2 (Operand.tmp 19), type := 2, pos := "alarm.go:108", after := #[{ on := 12, ground := Ground.data }], guard := none }) (v := ?_) rfl (by kernel_rfl) (by kernel_rfl) (by kernel_rfl) (fun _ _ _ h => h) (Or.inl ⟨by rfl, ?_⟩) (by assumption) ?_
  rotate_left
  · intro w hSw; (try dsimp only at hSw); first | (go_simp; done) | (go_simp; with_reducible rfl)
  try simp only [Act.put, List.setIfInBounds_toArray, List.set_cons_zero, List.set_cons_succ]
  refine wpAnyH_take (i := 15) (oi := { dst := some 22, op := Op.move (Operand.tmp 0), type := 138, pos := "alarm.go:108", after := #[], guard := none }) (v := ?_) rfl (by kernel_rfl) (by kernel_rfl) (by kernel_rfl) (fun _ _ _ h => h) (Or.inl ⟨by rfl, ?_⟩) (by assumption) ?_
  rotate_left
  · intro w hSw; (try dsimp only at hSw); first | (go_simp; done) | (go_simp; with_reducible rfl)
  try simp only [Act.put, List.setIfInBounds_toArray, List.set_cons_zero, List.set_cons_succ]
  refine wpAnyH_take (i := 16) (oi := { dst := some 23, op := Op.move (Operand.tmp 1), type := 3, pos := "alarm.go:108", after := #[], guard := none }) (v := ?_) rfl (by kernel_rfl) (by kernel_rfl) (by kernel_rfl) (fun _ _ _ h => h) (Or.inl ⟨by rfl, ?_⟩) (by assumption) ?_
  rotate_left
  · intro w hSw; (try dsimp only at hSw); first | (go_simp; done) | (go_simp; with_reducible rfl)
  try simp only [Act.put, List.setIfInBounds_toArray, List.set_cons_zero, List.set_cons_succ]
  refine wpAnyH_take (i := 17) (oi := { dst := some 24, op := Op.indexAddr 138 (Operand.tmp 22) (Operand.tmp 23), type := 0, pos := "alarm.go:108", after := #[{ on := 15, ground := Ground.data }, { on := 16, ground := Ground.data }], guard := none }) (v := ?_) rfl (by kernel_rfl) (by kernel_rfl) (by kernel_rfl) (fun _ _ _ h => h) (Or.inl ⟨by rfl, ?_⟩) (by assumption) ?_
  rotate_left
  · intro w hSw; (try dsimp only at hSw); first | (go_simp; done) | (go_simp; with_reducible rfl)
  try simp only [Act.put, List.setIfInBounds_toArray, List.set_cons_zero, List.set_cons_succ]
  refine wpAnyH_take (i := 18) (oi := { dst := some 25, op := Op.load 141 (Operand.tmp 24), type := 141, pos := "alarm.go:108", after := #[{ on := 17, ground := Ground.data }], guard := none }) (v := ?_) rfl (by kernel_rfl) (by kernel_rfl) (by kernel_rfl) (fun _ _ _ h => h) (Or.inl ⟨by rfl, ?_⟩) (by assumption) ?_
  rotate_left
  · intro w hSw; (try dsimp only at hSw); first | (go_simp; done) | (go_simp; with_reducible rfl)
  try simp only [Act.put, List.setIfInBounds_toArray, List.set_cons_zero, List.set_cons_succ]
  refine wpAnyH_take (i := 19) (oi := { dst := some 26, op := Op.nilCheck (Operand.tmp 25), type := 0, pos := "alarm.go:108", after := #[{ on := 18, ground := Ground.data }], guard := none }) (v := ?_) rfl (by kernel_rfl) (by kernel_rfl) (by kernel_rfl) (fun _ _ _ h => h) (Or.inl ⟨by rfl, ?_⟩) (by assumption) ?_
  rotate_left
  · intro w hSw; (try dsimp only at hSw); first | (go_simp; done) | (go_simp; with_reducible rfl)
  try simp only [Act.put, List.setIfInBounds_toArray, List.set_cons_zero, List.set_cons_succ]
  refine wpAnyH_take (i := 20) (oi := { dst := some 27, op := Op.fieldAddr 145 (Operand.tmp 26) 0, type := 0, pos := "alarm.go:108", after := #[{ on := 19, ground := Ground.data }], guard := none }) (v := ?_) rfl (by kernel_rfl) (by kernel_rfl) (by kernel_rfl) (fun _ _ _ h => h) (Or.inl ⟨by rfl, ?_⟩) (by assumption) ?_
  rotate_left
  · intro w hSw; (try dsimp only at hSw); first | (go_simp; done) | (go_simp; with_reducible rfl)
  try simp only [Act.put, List.setIfInBounds_toArray, List.set_cons_zero, List.set_cons_succ]
  refine wpAnyH_take (i := 21) (oi := { dst := some 28, op := Op.load 47 (Operand.tmp 27), type := 47, pos := "alarm.go:108", after := #[{ on := 20, ground := Ground.data }], guard := none }) (v := ?_) rfl (by kernel_rfl) (by kernel_rfl) (by kernel_rfl) (fun _ _ _ h => h) (Or.inl ⟨by rfl, ?_⟩) (by assumption) ?_
  rotate_left
  · intro w hSw; (try dsimp only at hSw); first | (go_simp; done) | (go_simp; with_reducible rfl)
  try simp only [Act.put, List.setIfInBounds_toArray, List.set_cons_zero, List.set_cons_succ]
  refine wpAnyH_take (i := 22) (oi := { dst := some 29, op := Op.move (Operand.tmp 0), type := 138, pos := "alarm.go:108", after := #[], guard := none }) (v := ?_) rfl (by kernel_rfl) (by kernel_rfl) (by kernel_rfl) (fun _ _ _ h => h) (Or.inl ⟨by rfl, ?_⟩) (by assumption) ?_
  rotate_left
  · intro w hSw; (try dsimp only at hSw); first | (go_simp; done) | (go_simp; with_reducible rfl)
  try simp only [Act.put, List.setIfInBounds_toArray, List.set_cons_zero, List.set_cons_succ]
  refine wpAnyH_take (i := 23) (oi := { dst := some 30, op := Op.move (Operand.tmp 2), type := 3, pos := "alarm.go:108", after := #[], guard := none }) (v := ?_) rfl (by kernel_rfl) (by kernel_rfl) (by kernel_rfl) (fun _ _ _ h => h) (Or.inl ⟨by rfl, ?_⟩) (by assumption) ?_
  rotate_left
  · intro w hSw; (try dsimp only at hSw); first | (go_simp; done) | (go_simp; with_reducible rfl)
  try simp only [Act.put, List.setIfInBounds_toArray, List.set_cons_zero, List.set_cons_succ]
  refine wpAnyH_take (i := 24) (oi := { dst := some 31, op := Op.indexAddr 138 (Operand.tmp 29) (Operand.tmp 30), type := 0, pos := "alarm.go:108", after := #[{ on := 22, ground := Ground.data }, { on := 23, ground := Ground.data }], guard := none }) (v := ?_) rfl (by kernel_rfl) (by kernel_rfl) (by kernel_rfl) (fun _ _ _ h => h) (Or.inl ⟨by rfl, ?_⟩) (by assumption) ?_
  rotate_left
  · intro w hSw; (try dsimp only at hSw); first | (go_simp; done) | (go_simp; with_reducible rfl)
  try simp only [Act.put, List.setIfInBounds_toArray, List.set_cons_zero, List.set_cons_succ]
  refine wpAnyH_take (i := 25) (oi := { dst := some 32, op := Op.load 141 (Operand.tmp 31), type := 141, pos := "alarm.go:108", after := #[{ on := 24, ground := Ground.data }], guard := none }) (v := ?_) rfl (by kernel_rfl) (by kernel_rfl) (by kernel_rfl) (fun _ _ _ h => h) (Or.inl ⟨by rfl, ?_⟩) (by assumption) ?_
  rotate_left
  · intro w hSw; (try dsimp only at hSw); first | (go_simp; done) | (go_simp; with_reducible rfl)
  try simp only [Act.put, List.setIfInBounds_toArray, List.set_cons_zero, List.set_cons_succ]
  refine wpAnyH_take (i := 26) (oi := { dst := some 33, op := Op.nilCheck (Operand.tmp 32), type := 0, pos := "alarm.go:108", after := #[{ on := 25, ground := Ground.data }], guard := none }) (v := ?_) rfl (by kernel_rfl) (by kernel_rfl) (by kernel_rfl) (fun _ _ _ h => h) (Or.inl ⟨by rfl, ?_⟩) (by assumption) ?_
  rotate_left
  · intro w hSw; (try dsimp only at hSw); first | (go_simp; done) | (go_simp; with_reducible rfl)
  try simp only [Act.put, List.setIfInBounds_toArray, List.set_cons_zero, List.set_cons_succ]
  refine wpAnyH_take (i := 27) (oi := { dst := some 34, op := Op.fieldAddr 145 (Operand.tmp 33) 0, type := 0, pos := "alarm.go:108", after := #[{ on := 26, ground := Ground.data }], guard := none }) (v := ?_) rfl (by kernel_rfl) (by kernel_rfl) (by kernel_rfl) (fun _ _ _ h => h) (Or.inl ⟨by rfl, ?_⟩) (by assumption) ?_
  rotate_left
  · intro w hSw; (try dsimp only at hSw); first | (go_simp; done) | (go_simp; with_reducible rfl)
  try simp only [Act.put, List.setIfInBounds_toArray, List.set_cons_zero, List.set_cons_succ]
  refine wpAnyH_take (i := 28) (oi := { dst := some 35, op := Op.load 47 (Operand.tmp 34), type := 47, pos := "alarm.go:108", after := #[{ on := 27, ground := Ground.data }], guard := none }) (v := ?_) rfl (by kernel_rfl) (by kernel_rfl) (by kernel_rfl) (fun _ _ _ h => h) (Or.inl ⟨by rfl, ?_⟩) (by assumption) ?_
  rotate_left
  · intro w hSw; (try dsimp only at hSw); first | (go_simp; done) | (go_simp; with_reducible rfl)
  try simp only [Act.put, List.setIfInBounds_toArray, List.set_cons_zero, List.set_cons_succ]
  refine wpAnyH_ready (rs := [14]) (by kernel_rfl) (by simp) ?_
  refine (AllReadyH.cons (o := { dst := some 21, op := Op.call { callee := Callee.value (Operand.func 139), args := #[Operand.tmp 13, Operand.tmp 20], argTypes := #[2, 2] }, type := 3, pos := "alarm.go:108", after := #[{ on := 6, ground := Ground.data }, { on := 13, ground := Ground.data }], guard := none }) rfl (fun K hK => ?_) AllReadyH.nil)
  go_simp
  go_at_call 139
  with_reducible refine (cmp64_any _ _ _).mono ?_
  rintro e w5 ⟨rfl, rfl⟩
  have hKeep := hHeld
  go_wp2_with fail
  clear hHeld
  refine hK.out _ _ hKeep (fun hHeld => ?_)
  clear hK K
  try simp only [Act.put, List.setIfInBounds_toArray, List.set_cons_zero, List.set_cons_succ]
  refine wpAnyH_ready (rs := [29]) (by kernel_rfl) (by simp) ?_
  refine (AllReadyH.cons (o := { dst := some 36, op := Op.call { callee := Callee.value (Operand.func 140), args := #[Operand.tmp 28, Operand.tmp 35], argTypes := #[47, 47] }, type := 3, pos := "alarm.go:108", after := #[{ on := 21, ground := Ground.data }, { on := 28, ground := Ground.data }, { on := 14, ground := Ground.chain }], guard := none }) rfl (fun K hK => ?_) AllReadyH.nil)
  go_simp
  go_at_call 140
  with_reducible refine (cmpU_any _ _ _).mono ?_
  rintro e w5 ⟨rfl, rfl⟩
  have hKeep := hHeld
  go_wp2_with fail
  clear hHeld
  refine hK.out _ _ hKeep (fun hHeld => ?_)
  clear hK K
  try simp only [Act.put, List.setIfInBounds_toArray, List.set_cons_zero, List.set_cons_succ]
  refine wpAnyH_ready (rs := [30]) (by kernel_rfl) (by simp) ?_
  refine (AllReadyH.cons (o := { dst := some 37, op := Op.buildSlice 22 2 #[(0, Operand.tmp 21), (1, Operand.tmp 36)], type := 22, pos := "alarm.go:108", after := #[{ on := 14, ground := Ground.data }, { on := 29, ground := Ground.data }], guard := none }) rfl (fun K hK => ?_) AllReadyH.nil)
  go_simp
  refine absW (Q := fun w' => ((w'.cell? ⟨b, o + i, none⟩ = some (.pointer (some ⟨x.b, 0, none⟩)) ∧ w'.cell? ⟨b, o + j, none⟩ = some (.pointer (some ⟨y.b, 0, none⟩)) ∧ w'.cell? ⟨x.b, 0, none⟩ = some (.int .u64 (x.id : Int)) ∧ w'.cell? ⟨x.b, 1, none⟩ = some (.int .i64 x.at_) ∧ w'.cell? ⟨y.b, 0, none⟩ = some (.int .u64 (y.id : Int)) ∧ w'.cell? ⟨y.b, 1, none⟩ = some (.int .i64 y.at_)) ∧ RowKit.Below w.heap.size w w') ∧ w'.cell? ⟨w.heap.size, 0, none⟩ = some (.int .i64 (cmpI x.at_ y.at_)) ∧ w'.cell? ⟨w.heap.size, 1, none⟩ = some (.int .i64 (cmpI (x.id : Int) (y.id : Int))))
    (by
      have hb := (below_box w (.cells #[.int .i64 (cmpI x.at_ y.at_), .int .i64 (cmpI (x.id : Int) (y.id : Int))] 3)).drew
      exact ⟨⟨⟨ever_cell pi _ hb, ever_cell pj _ hb, ever_cell x0 _ hb, ever_cell x1 _ hb, ever_cell y0 _ hb, ever_cell y1 _ hb⟩, hb⟩, cell_last w _ _ _ 0 rfl, cell_last w _ _ _ 1 rfl⟩) ?_
  rintro w5 ⟨hKeep, hn0, hn1⟩
  go_wp2_with fail
  clear hHeld
  refine hK.out _ _ hKeep (fun hHeld => ?_)
  clear hK K
  try simp only [Act.put, List.setIfInBounds_toArray, List.set_cons_zero, List.set_cons_succ]
  refine wpAnyH_ready (rs := [31]) (by kernel_rfl) (by simp) ?_
  refine (AllReadyH.cons (o := { dst := some 38, op := Op.call { callee := Callee.value (Operand.func 138), args := #[Operand.tmp 37], argTypes := #[22] }, type := 3, pos := "alarm.go:108", after := #[{ on := 30, ground := Ground.data }, { on := 29, ground := Ground.chain }], guard := none }) rfl (fun K hK => ?_) AllReadyH.nil)
  go_simp
  go_at_call 138
  with_reducible refine (or_any _ _ _ _ hn0 hn1).mono ?_
  rintro e w6 ⟨rfl, rfl⟩
  have hKeep := hHeld
  go_wp2_with fail
  clear hHeld
  refine hK.out _ _ hKeep (fun hHeld => ?_)
  clear hK K
  try simp only [Act.put, List.setIfInBounds_toArray, List.set_cons_zero, List.set_cons_succ]
  refine wpAnyH_take (i := 32) (oi := { dst := some 39, op := Op.binOp BinOp.lss 3 (Operand.tmp 38) (Operand.const (Value.int IntKind.i64 0)) 3, type := 4, pos := "alarm.go:108", after := #[{ on := 31, ground := Ground.data }], guard := none }) (v := ?_) rfl (by kernel_rfl) (by kernel_rfl) (by kernel_rfl) (fun _ _ _ h => h) (Or.inl ⟨by rfl, ?_⟩) (by assumption) ?_
  rotate_left
  · intro w hSw; (try dsimp only at hSw); first | (go_simp; done) | (go_simp; with_reducible rfl)
  try simp only [Act.put, List.setIfInBounds_toArray, List.set_cons_zero, List.set_cons_succ]
  refine wpAnyH_take (i := 33) (oi := { dst := some 6, op := Op.assign (Operand.tmp 39), type := 4, pos := "alarm.go:108", after := #[{ on := 32, ground := Ground.data }, { on := 31, ground := Ground.chain }, { on := 0, ground := Ground.phase }, { on := 1, ground := Ground.phase }, { on := 2, ground := Ground.phase }, { on := 3, ground := Ground.phase }, { on := 4, ground := Ground.phase }, { on := 5, ground := Ground.phase }, { on := 6, ground := Ground.phase }, { on := 7, ground := Ground.phase }, { on := 8, ground := Ground.phase }, { on := 9, ground := Ground.phase }, { on := 10, ground := Ground.phase }, { on := 11, ground := Ground.phase }, { on := 12, ground := Ground.phase }, { on := 13, ground := Ground.phase }, { on := 14, ground := Ground.phase }, { on := 15, ground := Ground.phase }, { on := 16, ground := Ground.phase }, { on := 17, ground := Ground.phase }, { on := 18, ground := Ground.phase }, { on := 19, ground := Ground.phase }, { on := 20, ground := Ground.phase }, { on := 21, ground := Ground.phase }, { on := 22, ground := Ground.phase }, { on := 23, ground := Ground.phase }, { on := 24, ground := Ground.phase }, { on := 25, ground := Ground.phase }, { on := 26, ground := Ground.phase }, { on := 27, ground := Ground.phase }, { on := 28, ground := Ground.phase }, { on := 29, ground := Ground.phase }, { on := 30, ground := Ground.phase }, { on := 31, ground := Ground.phase }, { on := 32, ground := Ground.phase }], guard := none }) (v := ?_) rfl (by kernel_rfl) (by kernel_rfl) (by kernel_rfl) (fun _ _ _ h => h) (Or.inl ⟨by rfl, ?_⟩) (by assumption) ?_
  rotate_left
  · intro w hSw; (try dsimp only at hSw); first | (go_simp; done) | (go_simp; with_reducible rfl)
  try simp only [Act.put, List.setIfInBounds_toArray, List.set_cons_zero, List.set_cons_succ]
  refine wpAnyH_done (by kernel_rfl) ?_ _
  refine NoPanic.normal ?_
  skip
  go_wp2_with fail
  go_ret
  refine ⟨?_, hHeld.2⟩
  rw [← lessA_is x y]
  rfl
set_option maxRecDepth 100000 in
set_option maxHeartbeats 4000000 in
theorem aswap_cells (w : World) (b o n c i j : Nat) (x y : Slp) (hi : i < n) (hj : j < n) (hij : i ≠ j) (hbx : b ≠ x.b) (hby : b ≠ y.b) (hxy : x.b ≠ y.b)
    (pi : w.cell? ⟨b, o + i, none⟩ = some (.pointer (some ⟨x.b, 0, none⟩))) (fi : w.frozen? ⟨b, o + i, none⟩ = false)
    (pj : w.cell? ⟨b, o + j, none⟩ = some (.pointer (some ⟨y.b, 0, none⟩))) (fj : w.frozen? ⟨b, o + j, none⟩ = false)
    (x2 : w.cell? ⟨x.b, 2, none⟩ = some (.int .i64 (i : Int))) (fx : w.frozen? ⟨x.b, 2, none⟩ = false)
    (y2 : w.cell? ⟨y.b, 2, none⟩ = some (.int .i64 (j : Int))) (fy : w.frozen? ⟨y.b, 2, none⟩ = false) :
    Calls Try.prog 137 #[.slice (some ⟨b, o, none⟩) n c, .int .i64 i, .int .i64 j] w (fun e w' => e = .returned (.tuple #[]) ∧ w' = (((((w.setCell ⟨b, o + i, none⟩ (.pointer (some ⟨y.b, 0, none⟩))).setCell ⟨b, o + j, none⟩ (.pointer (some ⟨x.b, 0, none⟩))).drew).setCell ⟨y.b, 2, none⟩ (.int .i64 (i : Int))).setCell ⟨x.b, 2, none⟩ (.int .i64 (j : Int))).drew) := by
  have hiI : (i : Int) < (n : Int) := by omega
  have hjI : (j : Int) < (n : Int) := by omega
  have hi0 : (0 : Int) ≤ (i : Int) := by omega
  have hj0 : (0 : Int) ≤ (j : Int) := by omega
  have ne00 : o + i ≠ o + j := by omega
  have ne01 : o + j ≠ o + i := by omega
  have hxb : x.b ≠ b := fun e => hbx e.symm
  have hyb : y.b ≠ b := fun e => hby e.symm
  have hyx : y.b ≠ x.b := fun e => hxy e.symm
  clear hij hi hj
  go_enter Try.func137, Try.ntmps137
  go_wp2_with fail
  go_region
  go_wp2_with fail
  go_region
  go_wp2
  go_end0
  exact ⟨rfl, rfl⟩
theorem alen_any (w : World) (A : Option Addr) (n c : Nat) : Calls Try.prog 135 #[.slice A n c] w fun e w' => e = .returned (.int .i64 n) ∧ w = w' := by
  go_enter Try.func135, Try.ntmps135
  go_wp2
  go_ret
  exact ⟨rfl, rfl⟩
end Go.Proofs.Ytfmfamnngfanfaa
