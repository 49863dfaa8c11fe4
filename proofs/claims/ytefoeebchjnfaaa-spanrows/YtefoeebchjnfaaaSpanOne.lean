/-
  CONTRACTS of layer 4's small functions: bytes.Equal, Right, Size, Same, Less, the law's own.
  No statement is proved here.
-/
import Derived.Test.YtefoeebchjnfaaaPackEnd
import Derived.Test.YtefoeebchjnfaaaEver
import Derived.Laws.BytesArg
namespace Go.Proofs.Ytefoeebchjnfaaa
open Go.RowKit

theorem same_yes (w : World) (B : Nat) (A A' : Option Addr) (n c n' c' : Nat) (l : List UInt8) (hs : Sl w B A n c l) (hs' : Sl w B A' n' c' l) :
    Calls Try.prog 48 #[.slice A n c, .slice A' n' c'] w fun e w' => e = .returned (.bool true) ∧ ∃ q, w' = w.drewN q := by
  have h := same_any w B A A' n c n' c' l l hs hs'
  have e : sameB l l = true := by simp [sameB]
  rw [e] at h
  exact h

set_option maxRecDepth 100000 in
theorem conv_sl {w : World} {B : Nat} {A : Option Addr} {n c : Nat} {l : List UInt8} (h : Sl w B A n c l) : (convert 65 9 (.slice A n c)).run Try.prog w = .ok (.string ⟨l.toArray⟩) w := by
  rcases Nat.eq_zero_or_pos n with h0 | h0
  · subst h0
    have hl : l = [] := List.eq_nil_of_length_eq_zero h.len
    subst hl
    rw [run_convert_bytes_string w 65 9 5 _ 0 c Try.underlying65 Try.underlying5 Try.underlying9]
    cases A <;> simp [Conv.bytesToString, loadCells]
    all_goals rfl
  · obtain ⟨b, o, rfl, _, hc⟩ := h.cell h0
    have hx := run_convert_bytes_arg (P := Try.prog) w 65 5 Try.underlying65 Try.underlying5 b o n c (l.map fun x => (x.toNat : Int)) (by rw [List.length_map, h.len]) (fun i hi => by
      have hl := h.len
      rw [hc i l[i] (List.getElem?_eq_getElem (by omega))]
      simp [cb, List.getElem?_eq_getElem (show i < l.length by omega)]) 9 Try.underlying9
    rw [hx]
    congr 2
    unfold strOfNums
    rw [List.map_map]
    have e : ((fun n : Int => UInt8.ofNat n.toNat) ∘ fun x : UInt8 => (x.toNat : Int)) = id := by
      funext x
      simp
    rw [e, List.map_id]

set_option maxHeartbeats 400000 in
theorem equal_any (w : World) (B : Nat) (A A' : Option Addr) (n c n' c' : Nat) (l l' : List UInt8) (hs : Sl w B A n c l) (hs' : Sl w B A' n' c' l') :
    Calls Try.prog 85 #[.slice A n c, .slice A' n' c'] w fun e w' => e = .returned (.bool (sameB l l')) ∧ w = w' := by
  have h1 := conv_sl hs
  have h2 := conv_sl hs'
  go_enter Try.func85, Try.ntmps85
  go_wp2
  go_ret
  have e : (l == l') = sameB l l' := by
    unfold sameB
    rw [Bool.eq_iff_iff]
    simp
  exact ⟨by rw [← e]; rfl, rfl⟩

/-- A cell of the block that was made last. -/
theorem cell_last (w : World) (cs : Array Value) (t : TypeId) (g i : Nat) (hg : w.heap.size = g) : (w.alloc (.cells cs t)).cell? ⟨g, i, none⟩ = cs[i]? := by
  subst hg
  exact cell_of_row _ _ _ _ _ _ (heap_alloc_new w _)

/-- A span as a value. -/
def spv (C : Int) (A : Option Addr) (n c : Nat) : Value := .agg #[.int .i64 C, .slice A n c]
def rightB (C : Int) (n : Nat) : Bool := decide (0 ≤ C) && decide (C < 8) && decide (n ≤ 4096)

theorem below_box (w : World) (o : Obj) : Below w.heap.size w (w.alloc o) := (Below.refl _ w).alloc (Nat.le_refl _) o

set_option maxHeartbeats 400000 in
theorem right_any (w : World) (C : Int) (A : Option Addr) (n c : Nat) :
    Calls Try.prog 52 #[spv C A n c] w (Says w (.bool (rightB C n))) := by
  unfold spv
  go_enter Try.func52, Try.ntmps52
  go_wp2
  all_goals (go_ret; refine ⟨congrArg (fun b => Ending.returned (.bool b)) ?_, below_box w _⟩; rw [Bool.eq_iff_iff]; simp [rightB]; try omega)

set_option maxHeartbeats 400000 in
theorem refRight_any (w : World) (C : Int) (A : Option Addr) (n c : Nat) :
    Calls Try.prog 53 #[spv C A n c] w (Says w (.bool (rightB C n))) := by
  unfold spv
  go_enter Try.func53, Try.ntmps53
  go_wp2
  all_goals (go_ret; refine ⟨congrArg (fun b => Ending.returned (.bool b)) ?_, below_box w _⟩; rw [Bool.eq_iff_iff]; simp [rightB]; try omega)

set_option maxHeartbeats 400000 in
theorem size_any (w : World) (C : Int) (A : Option Addr) (n c : Nat) (hn : n ≤ 100000000) :
    Calls Try.prog 63 #[spv C A n c] w (Says w (.int .i64 ((n : Int) + 16))) := by
  unfold spv
  go_enter Try.func63, Try.ntmps63
  go_wp2
  go_ret
  exact ⟨rfl, below_box w _⟩

/-- An ID as a value; which of two is ahead. -/
def idv (G : Int) (N : Nat) : Value := .agg #[.int .i64 G, .int .u64 (N : Int)]
def lessB (G : Int) (N : Nat) (G' : Int) (N' : Nat) : Bool := decide (G < G') || (decide (G = G') && decide (N < N'))
set_option maxHeartbeats 400000 in
theorem less_any (w : World) (G : Int) (N : Nat) (G' : Int) (N' : Nat) :
    Calls Try.prog 64 #[idv G N, idv G' N'] w (Says w (.bool (lessB G N G' N'))) := by
  unfold idv
  go_enter Try.func64, Try.ntmps64
  go_wp2
  all_goals (go_ret; refine ⟨congrArg (fun b => Ending.returned (.bool b)) ?_, (below_box w _).alloc (by simp) _⟩; rw [Bool.eq_iff_iff]; simp [lessB]; try omega)

set_option maxHeartbeats 400000 in
theorem ownSpan_any (w : World) (C : Int) (A : Option Addr) (n c : Nat) :
    Calls Try.prog 50 #[spv C A n c] w (Says w (spv C A n c)) := by
  unfold spv
  go_enter Try.func50, Try.ntmps50
  go_wp2
  refine bodyPost_ret (v := .agg #[.int .i64 C, .slice A n c]) (by simp [results, Try.results50, go_sem]) rfl ⟨rfl, ?_⟩
  exact (below_box w _).alloc (by simp) _

/-- Are two spans alike? -/
def sameS (C : Int) (l : List UInt8) (C' : Int) (l' : List UInt8) : Bool := decide (C = C') && sameB l l'
set_option maxHeartbeats 400000 in
theorem spanSame_any (w : World) (C C' : Int) (A A' : Option Addr) (n c n' c' : Nat) (l l' : List UInt8) (hs : Sl w w.heap.size A n c l) (hs' : Sl w w.heap.size A' n' c' l') :
    Calls Try.prog 57 #[spv C A n c, spv C' A' n' c'] w (Says w (.bool (sameS C l C' l'))) := by
  unfold spv
  have HS := Lib.hid hs
  have HS' := Lib.hid hs'
  clear hs hs'
  by_cases hC : C = C'
  · have hq : (C == C') = true := by simp [hC]
    go_enter Try.func57, Try.ntmps57
    go_wp2_with fail
    refine (equal_any _ (w.heap.size + 2) A A' n c n' c' l l' ?_ ?_).mono ?_
    · exact ((HS.out.onA _).onA _).more (by simp)
    · exact ((HS'.out.onA _).onA _).more (by simp)
    rintro e w' ⟨rfl, rfl⟩
    go_wp2
    go_ret
    exact ⟨by simp [sameS, hC], (below_box w _).alloc (by simp) _⟩
  · have hq : (C == C') = false := by simp [hC]
    go_enter Try.func57, Try.ntmps57
    go_wp2
    go_ret
    exact ⟨by simp [sameS, hC], (below_box w _).alloc (by simp) _⟩

set_option maxHeartbeats 400000 in
theorem refSpanSame_any (w : World) (C C' : Int) (A A' : Option Addr) (n c n' c' : Nat) (l l' : List UInt8) (hs : Sl w w.heap.size A n c l) (hs' : Sl w w.heap.size A' n' c' l') :
    Calls Try.prog 62 #[spv C A n c, spv C' A' n' c'] w (Says w (.bool (sameS C l C' l'))) := by
  unfold spv
  have HS := Lib.hid hs
  have HS' := Lib.hid hs'
  clear hs hs'
  by_cases hC : C = C'
  · have hq : (C == C') = true := by simp [hC]
    go_enter Try.func62, Try.ntmps62
    go_wp2_with fail
    refine (same_any _ (w.heap.size + 2) A A' n c n' c' l l' ?_ ?_).mono ?_
    · exact ((HS.out.onA _).onA _).more (by simp)
    · exact ((HS'.out.onA _).onA _).more (by simp)
    rintro e w' ⟨rfl, q, rfl⟩
    go_wp2
    go_ret
    exact ⟨by simp [sameS, hC], below_drewN ((below_box w _).alloc (by simp) _) q⟩
  · have hq : (C == C') = false := by simp [hC]
    go_enter Try.func62, Try.ntmps62
    go_wp2
    go_ret
    exact ⟨by simp [sameS, hC], (below_box w _).alloc (by simp) _⟩
end Go.Proofs.Ytefoeebchjnfaaa
