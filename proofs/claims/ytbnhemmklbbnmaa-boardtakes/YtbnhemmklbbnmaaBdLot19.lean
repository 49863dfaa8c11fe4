/-
  TEXTS OF EARLIER ROUNDS, laid together: part 19.
  No statement is proved here.
-/
import Derived.Test.YtbnhemmklbbnmaaBdLot18
import Derived.RangeFuncBox
import Derived.RangeFuncFrom
import Derived.RangeFuncLeaves
import Derived.Shelf.Abstract
import Derived.WalkKit
import Derived.OwnWalkIn
import Derived.TacticsInMore
import Derived.LoopNIn
import Derived.LoopIn
import Derived.Maps.AppendAt

/-! ## SeqNums -/
namespace Go.Proofs.Ytbnhemmklbbnmaa
open Go Go.RowKit Go.Shelf
attribute [local go_sem] Oper.semAt_some

def encU (x : Nat) : Array Value := #[.int .u64 (x : Int)]
/-- A row of numbers of one's own is handed back. -/
def SaysNums (w : World) (S : List Nat → Prop) (e : Ending) (w' : World) : Prop := ∃ A n c xs, e = .returned (.slice A n c) ∧ S xs ∧ OwnN w' w.heap.size A n c xs ∧ RowKit.Below w.heap.size w w'
/-- What a round must keep, that this caller can pay. -/
structure Pays (Kp : World → World → Prop) (w : World) : Prop where
  t : ∀ {A B C : World}, Kp A B → Kp B C → Kp A C
  b : ∀ (W : World) (l : Nat) (o o' : Obj), w.heap.size ≤ l → W.heap[l]? = some o → o.isCells = false → o.isWalk = false → Kp W (W.putObj l o')
  o : ∀ W W', KeepsOthers W W' → RowKit.Below w.heap.size W W' → Kp W W'
set_option maxRecDepth 100000 in
set_option maxHeartbeats 2000000 in
theorem appendSeq_w (n : Nat) (hn : 3 ≤ n) (g : Nat) (lb : Array Value) (eg : ∀ args w, (callFunc g args).run Try.prog w = .ok (.enter g args) w) (Kp : World → World → Prop) (S Sp : List Nat → Prop) (N : Nat) (hN : N ≤ 1000000)
    (w : World) (hseq : SeqStopsK Fence.wide (n - 1) Try.prog g lb encU Kp S Sp N w) (hK : Pays Kp w) :
    CallsIn Fence.wide n Try.prog 88 #[.slice none 0 0, .func (.func g) #[] lb] w (SaysNums w S) := by
  have h1 : 1 ≤ n := by omega
  obtain ⟨i0, hi, hz0, hz1, hz2⟩ := info_parts u64_info
  refine callsIn_of_wp_marks Try.func88 rfl trivial ?_ rfl
  simp only [Try.ntmps88, List.size_toArray, List.length_cons, List.length_nil, Nat.reduceAdd, Nat.reduceSub, Array.replicate_succ, Array.replicate_zero, List.push_toArray, List.append_toArray, List.nil_append, List.cons_append]
  gi_wp2
  have bO := Boxed.new w 37 (.slice none 0 0)
  have hB0 : RowKit.Below w.heap.size w (w.alloc (.cells #[.slice none 0 0] 37)) := (RowKit.Below.refl _ w).alloc (Nat.le_refl _) _
  refine wpIn_rangeFunc_ownF rfl h1 (gf := g) (lb := lb) rfl trivial eg hseq (fun h k => hK.t h k) (fun W l o o' hl => hK.b W l o o' (by simp at hl; omega)) hB0 (fun _ => rfl)
    (fun pre W => (∃ v, Boxed W w.heap.size 37 v ∧ W.ownsRow w.heap.size 34 1 v pre.length (nvs pre) ∧ True) ∧ RowKit.Below w.heap.size w W)
    (fun _ _ _ => False)
    (OwnFrom.and (Own.from (holdsRow_own w.heap.size w.heap.size 37 34 1 (fun pre : List Nat => pre.length) (fun pre => nvs pre) (fun _ _ => True)) _) (ownFrom_below (Nat.le_refl _) (by simp)))
    (fun _ _ _ _ _ hs _ _ => hs)
    ⟨⟨_, bO, ⟨rfl, .inl ⟨rfl, rfl⟩⟩, trivial⟩, hB0⟩
    (fun x => { tmps := #[.slice none 0 0, .func (.func g) #[] lb, .pointer (some ⟨w.heap.size, 0, none⟩), undef, .slice none 0 0, .int .u64 (x : Int), .func (.func g) #[] lb, .int .u64 (x : Int), undef, undef, undef, undef, undef], defers := [] }) ?assign ?body ?done ?stop
  case assign =>
    intro l x W K hK
    unfold encU
    gi_wp2
    exact hK
  case body =>
    rintro l pre x W ⟨⟨v, hv, hrow, _⟩, hB⟩ hlt
    have hc := hv.cell
    gi_wp2_with (gi_at_builtin; refine wpListIn_append_own _ rfl _ _ 37 rfl w.heap.size 34 i0 (.int .u64 0) 1 8 Try.underlying37 hi hz0 hz1 hz2 rfl (by decide) _ _ _ rfl (hrow.alloc _) ⟨W.heap.size, 0, none⟩ 1 1 [.int .u64 (x : Int)] rfl rfl (cell_one_new _ _ _) (by simp [Value.oneCell']) (by unfold maxLen; omega) (by omega) (by have := hB.size; simp; omega) ?_; intro v' w1 hown' hgrow _; obtain ⟨g', cap', rfl⟩ := ownsRow_succ hown'; obtain ⟨hv1, hv2, hr2, hk2, hb2⟩ := hv.appended (by decide) hrow hB.size (Nat.le_refl _) hown' hgrow; have hc1 := hv1.cell; have hf1 := hv1.frozen)
    exact ⟨hk2, hK.o _ _ hk2 hb2, ⟨_, hv2, by rw [show nvs (pre ++ [x]) = nvs pre ++ [.int .u64 (x : Int)] from by simp [nvs, nv]]; simpa using hr2, trivial⟩, hB.trans hb2⟩
  case done =>
    rintro D ys W hD hS ⟨⟨v, hv, hrow, _⟩, hB⟩ hKD
    have hc := hv.cell
    gi_wp2
    refine ⟨by simp, .inl ⟨_, _, rfl, run_takeDeferred hKD, ?_⟩⟩
    have hrow2 := ownsRow_putObj hrow (.deferred none) hKD rfl
    obtain ⟨A, m, c, rfl, hm⟩ : ∃ A m c, v = .slice A m c ∧ m = ys.length := by
      rcases hrow.2 with ⟨rfl, h0⟩ | ⟨g2, cap, cur, rfl, _⟩
      · exact ⟨none, 0, 0, rfl, h0.symm⟩
      · exact ⟨_, _, _, rfl, rfl⟩
    subst hm
    exact ⟨_, results_tmp rfl _ _ _, A, _, c, ys, rfl, hS, hrow2, hB.trans (belowK_b (w := w) (Nat.le_refl _) W D _ _ (by simp at hD; omega) hKD rfl rfl)⟩
  case stop =>
    rintro D c pre W _ _ h _
    exact h.elim
end Go.Proofs.Ytbnhemmklbbnmaa
