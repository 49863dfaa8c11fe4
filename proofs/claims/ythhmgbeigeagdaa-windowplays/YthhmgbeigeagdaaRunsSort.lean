/-
  CONTRACTS of insertionSortOrdered at uint64, of pdqsortOrdered and slices.Sort at twelve numbers or fewer.
  No statement is proved here.
-/
import Derived.Test.YthhmgbeigeagdaaRunsLen
import Derived.Sort.Row
import Derived.Sort.LotA
import Derived.BigGuard
import Derived.BigCall
import Derived.CellFam
import Derived.Deep.Draws
import Derived.BigRegion
namespace Go.Proofs.Ythhmgbeigeagdaa
open Go.RowKit Go.Sort

def nv (x : Nat) : Value := .int .u64 (x : Int)
def numOf : Value → Int | .int _ q => q | _ => 0
theorem swo_ltB : SWO ltB where
  irrefl := fun x => by simp [ltB]
  trans := fun x y z h1 h2 => by simp [ltB] at *; omega
  ntrans := fun x y z h1 h2 => by simp [ltB] at *; omega
/-! ### the plain functions, a round at a time -/
theorem in_go (a j : Nat) (d : Array Nat) (hj : a < j) (hl : ltB d[j]! d[j - 1]! = true) : insInner ltB a j d = insInner ltB a (j - 1) (swp d j (j - 1)) := by
  rcases j with _ | k
  · omega
  · rw [insInner]
    simp only [Nat.add_sub_cancel] at hl ⊢
    simp [hj, hl]
theorem in_stop (a j : Nat) (d : Array Nat) (h : j ≤ a ∨ ltB d[j]! d[j - 1]! = false) : insInner ltB a j d = d := by
  rcases j with _ | k
  · rw [insInner]
  · rw [insInner]
    simp only [Nat.add_sub_cancel] at h
    rcases h with h | h
    · simp [show ¬ k + 1 > a by omega]
    · simp [h]
theorem out_go (a b i : Nat) (d : Array Nat) (h : i < b) : insOuter ltB a b i d = insOuter ltB a b (i + 1) (insInner ltB a i d) := by rw [insOuter, if_pos h]
theorem out_stop (a b i : Nat) (d : Array Nat) (h : ¬ i < b) : insOuter ltB a b i d = d := by rw [insOuter, if_neg h]
theorem row_drewN (w : World) (m q blk off : Nat) (d : Array Nat) : (putRow nv (Sort.ahead w m) blk off d).drewN q = putRow nv (Sort.ahead w (m + q)) blk off d := by
  show Sort.ahead (putRow nv (Sort.ahead w m) blk off d) q = _
  rw [putRow_ahead nv w m, ahead_ahead, ← putRow_ahead]
theorem row_swap (w : World) (m q blk off : Nat) (d : Array Nat) (j k : Nat) (hj : j < d.size) (hk : k < d.size) :
    (((putRow nv (Sort.ahead w m) blk off d).drewN q).setCell ⟨blk, off + j, none⟩ (nv d[k]!)).setCell ⟨blk, off + k, none⟩ (nv d[j]!) = putRow nv (Sort.ahead w (m + q)) blk off (swp d j k) := by
  rw [row_drewN]
  exact putRow_swp nv _ blk off d j k hj hk

def OutRelS (w : World) (blk off a b : Nat) (d : Array Nat) (vi : Value) (wr : World) : Prop :=
  ∃ (i n : Nat) (dk : Array Nat), vi = .int .i64 i ∧ a < i ∧ i ≤ b + 1 ∧ dk.size = d.size ∧ wr = putRow nv (Sort.ahead w n) blk off dk ∧ insOuter ltB a b i dk = insOuter ltB a b (a + 1) d
def InRelS (w : World) (blk off a i : Nat) (d dk : Array Nat) (vj : Value) (wr : World) : Prop :=
  ∃ (j m : Nat) (dj : Array Nat), vj = .int .i64 j ∧ a ≤ j ∧ j ≤ i ∧ dj.size = d.size ∧ wr = putRow nv (Sort.ahead w m) blk off dj ∧ insInner ltB a j dj = insInner ltB a i dk

set_option maxRecDepth 100000 in
set_option maxHeartbeats 1000000 in
theorem insertion_any (blk off cap a b : Nat) (d : Array Nat) (w : World) (hH : Holds nv w blk off d) (hab : a ≤ b) (hb : b ≤ d.size) (hsz : d.size < 4611686018427387904) :
    Calls Try.prog 53 #[.slice (some ⟨blk, off, none⟩) d.size cap, .int .i64 a, .int .i64 b] w fun e w' =>
      e = .returned (.tuple #[]) ∧ ∃ n, w' = putRow nv (Sort.ahead w n) blk off (Sort.insertionSort ltB d a b) := by
  go_enter Try.func53, Try.ntmps53
  go_wp2
  go_loopw [6] (fun vi wr => OutRelS w blk off a b d vi wr) (fun vi _ => b + 1 - (numOf vi).toNat)
  case atStart => exact ⟨a + 1, 0, d, by go_num, by omega, by omega, rfl, (putRow_self _ _ _ _ _ hH).symm, rfl⟩
  case round =>
    obtain ⟨i, n, dk, rfl, hai, hib, hsk, hwr, hO⟩ := hrel
    have HO := Lib.hid hO
    have HWR := Lib.hid hwr
    clear hO hwr
    by_cases hlt : i < b
    · go_wp2
      go_loopw [7] (fun vj wr2 => InRelS w blk off a i d dk vj wr2) (fun vj _ => (numOf vj).toNat)
      case atStart => exact ⟨i, n, dk, rfl, by omega, Nat.le_refl _, hsk, HWR.out, rfl⟩
      case round =>
        obtain ⟨j, m, dj, rfl, haj, hji, hsj, hw2, hI⟩ := hrel
        obtain ⟨G, hG⟩ : ∃ G : Nat → Nat, ∀ t, G t = dj[t]! := ⟨fun t => dj[t]!, fun _ => rfl⟩
        have hcw : ∀ t, t < d.size → wr.cell? ⟨blk, off + t, none⟩ = some (.int .u64 (G t : Int)) := fun t ht => by
          rw [hw2, hG]; exact cell?_putRow _ _ _ _ d dj (holds_ahead _ _ _ _ _ _ hH) hsj t (by omega)
        have hfw : ∀ t, t < d.size → wr.frozen? ⟨blk, off + t, none⟩ = false := fun t ht => by
          rw [hw2, frozen?_putRow]; exact ((holds_ahead _ _ m _ _ _ hH) t ht).2
        have HW := Lib.hid hw2
        have HI := Lib.hid hI
        have HG : Hid (∀ t, G t = dj[t]!) := hG
        have OUT : Hid ((j ≤ a ∨ ltB dj[j]! dj[j - 1]! = false) → ∀ q, OutRelS w blk off a b d (.int .i64 ((i : Int) + 1)) (wr.drewN q)) := fun hs q =>
          ⟨i + 1, m + q, dj, by go_num, by omega, by omega, hsj, by rw [HW.out]; exact row_drewN _ _ _ _ _ _, by rw [← HO.out, out_go _ _ _ _ hlt, ← HI.out, in_stop _ _ _ hs]⟩
        have HSJ := Lib.hid hsj
        clear hw2 hI hH hG hsj hsk
        go_wp2
        by_cases hja : a < j
        · go_quiet (first | (go_at_call 59; refine Calls.quiet_of_same ((cmpLess_any _ _ _).mono fun _ _ h => ⟨h.1, h.2.symm⟩)))
          go_wp2
          · have hl : ltB (G j) (G (j - 1)) = true := by assumption
            have HL := Lib.hid hl
            clear hl
            go_region
            all_goals go_wp2
            go_roundw
            case rel =>
              have hsj := HSJ.out
              refine ⟨j - 1, m + (nq + 1), swp dj j (j - 1), by congr 1; omega, by omega, by omega, by rw [size_swp]; exact hsj, ?_, ?_⟩
              · rw [HW.out, HG.out, HG.out]
                exact row_swap w m (nq + 1) blk off dj j (j - 1) (by omega) (by omega)
              · rw [← HI.out, in_go a j dj hja (by rw [← HG.out, ← HG.out]; exact HL.out)]
            case measure => simp [numOf]; omega
          · have hl : ltB (G j) (G (j - 1)) = false := by assumption
            go_roundw
            case rel => exact OUT.out (Or.inr (by rw [← HG.out, ← HG.out]; exact hl)) nq
            case measure => simp [numOf]; omega
        · go_quiet (first | (go_at_call 59; refine Calls.quiet_of_same ((cmpLess_any _ _ _).mono fun _ _ h => ⟨h.1, h.2.symm⟩)))
          go_wp2
          go_roundw
          case rel => exact OUT.out (Or.inl (by omega)) nq
          case measure => simp [numOf]; omega
    · go_wp2
      go_end0
      exact ⟨rfl, n, by unfold Sort.insertionSort; rw [← HO.out, out_stop _ _ _ _ hlt]; exact HWR.out⟩

/-! ### pdqsortOrdered, slices.Sort, at twelve or fewer -/
set_option maxRecDepth 100000 in
set_option maxHeartbeats 1000000 in
theorem pdq_small (blk off cap : Nat) (d : Array Nat) (z : Int) (w : World) (hH : Holds nv w blk off d) (hsz : d.size ≤ 12) :
    Calls Try.prog 46 #[.slice (some ⟨blk, off, none⟩) d.size cap, .int .i64 0, .int .i64 (d.size : Int), .int .i64 z] w fun e w' =>
      e = .returned (.tuple #[]) ∧ ∃ n, w' = putRow nv (Sort.ahead w n) blk off (Sort.insertionSort ltB d 0 d.size) := by
  have HH := Lib.hid hH
  clear hH
  have h12 : (d.size : Int) ≤ 12 := by omega
  go_enter Try.func46, Try.ntmps46
  go_wp2
  go_loopw [1, 2, 3, 8] (fun v1 v2 v3 v wr => v1 = .int .i64 0 ∧ v2 = .int .i64 (d.size : Int) ∧ v3 = .int .i64 z ∧ v = .bool true ∧ w = wr) (fun _ _ _ _ _ => 0)
  case atStart => exact ⟨rfl, rfl, rfl, rfl, rfl⟩
  case round =>
    obtain ⟨rfl, rfl, rfl, rfl, rfl⟩ := hrel
    go_wp2_with fail
    refine (insertion_any blk off cap 0 d.size d w HH.out (Nat.zero_le _) (Nat.le_refl _) (by omega)).mono ?_
    rintro e w' ⟨rfl, n, hw⟩
    have HW := Lib.hid hw
    clear hw
    go_wp2
    refine bodyPost_ret (results_none rfl _ _ _) rfl ?_
    exact ⟨rfl, n, HW.out⟩
set_option maxRecDepth 100000 in
set_option maxHeartbeats 1000000 in
theorem sort_small (blk off cap : Nat) (d : Array Nat) (w : World) (hH : Holds nv w blk off d) (hsz : d.size ≤ 12) :
    Calls Try.prog 37 #[.slice (some ⟨blk, off, none⟩) d.size cap] w fun e w' =>
      e = .returned (.tuple #[]) ∧ ∃ n, w' = putRow nv (Sort.ahead w n) blk off (Sort.insertionSort ltB d 0 d.size) := by
  have HH := Lib.hid hH
  clear hH
  have h12 : (d.size : Int) ≤ 12 := by omega
  go_enter Try.func37, Try.ntmps37
  go_wp2_with fail
  refine (len_any w d.size (by omega)).mono ?_
  rintro e w' ⟨⟨z, rfl⟩, rfl⟩
  go_wp2_with fail
  refine (pdq_small blk off cap d z w HH.out hsz).mono ?_
  rintro e w' ⟨rfl, n, hw⟩
  have HW := Lib.hid hw
  clear hw
  go_wp2
  go_end0
  exact ⟨rfl, n, HW.out⟩

/-! ### a row of numbers of one's own -/
def nvs (l : List Nat) : List Value := l.map nv
theorem nvs_len (l : List Nat) : (nvs l).length = l.length := by simp [nvs]
theorem nvs_one (l : List Nat) : ∀ u ∈ nvs l, u.oneCell' = true := by
  intro u hu
  obtain ⟨b, _, rfl⟩ := List.mem_map.1 hu
  rfl
def OwnN (w : World) (base : Nat) (A : Option Addr) (n c : Nat) (l : List Nat) : Prop := w.ownsRow base 25 1 (.slice A n c) n (nvs l)
theorem OwnN.len {w : World} {base : Nat} {A : Option Addr} {n c : Nat} {l : List Nat} (h : OwnN w base A n c l) : l.length = n := by have := h.1; rw [nvs_len] at this; omega
theorem OwnN.holds {w : World} {base g n c : Nat} {l : List Nat} (h : OwnN w base (some ⟨g, 0, none⟩) n c l) : Holds nv w g 0 l.toArray := by
  intro j hj
  have hj' : j < l.length := by simpa using hj
  refine ⟨?_, by have := h.frozenAt (g := g) j; simpa using this⟩
  have h1 := h.cells (g := g) rfl j (nv l[j]) (by simp [nvs, hj'])
  rw [add_plain] at h1
  rw [h1]
  simp [hj']
theorem OwnN.sorted {w : World} {base g n c m : Nat} {l l' : List Nat} (h : OwnN w base (some ⟨g, 0, none⟩) n c l) (hl : l'.length = l.length) :
    OwnN (putRow nv (Sort.ahead w m) g 0 l'.toArray) base (some ⟨g, 0, none⟩) n c l' ∧ Below base w (putRow nv (Sort.ahead w m) g 0 l'.toArray) ∧ (putRow nv (Sort.ahead w m) g 0 l'.toArray).heap.size = w.heap.size := by
  have hn := h.len
  rcases h.2 with ⟨hv, _⟩ | ⟨g', cap, cur, hv, hbg, hg, hnc, hcm, hcs, ht⟩
  · cases hv
  · injection hv with e1 e2 e3
    injection e1 with e1
    injection e1 with e1
    subst e1 e3
    refine ⟨⟨by rw [nvs_len, hl]; omega, .inr ⟨g, c, putCells nv 0 l'.toArray cur, rfl, hbg, ?_, hnc, hcm, by simp [putCells, hcs], ?_⟩⟩, ⟨rfl, rfl, rfl, by simp, fun q hq => ?_⟩, by simp⟩
    · simp [putRow, mapBlock, Sort.ahead, Array.getElem?_modify, hg, onCells]
    · apply List.ext_getElem?
      intro j
      by_cases hj : j < n
      · rw [List.getElem?_take_of_lt (by omega), Array.getElem?_toList]
        simp [putCells, nvs, show j < l'.length by omega, show j < cur.size by omega]
      · rw [List.getElem?_take_eq_none (by omega), List.getElem?_eq_none (by rw [nvs_len]; omega)]
    · have : g ≠ q := by omega
      simp [putRow, mapBlock, Sort.ahead, Array.getElem?_modify, this]
def sortN (l : List Nat) : List Nat := l.mergeSort fun x y => decide (x ≤ y)
theorem sortN_len (l : List Nat) : (sortN l).length = l.length := by simp [sortN]
theorem sortN_ins (l : List Nat) : Sort.insertionSort ltB l.toArray 0 l.toArray.size = (sortN l).toArray := by
  obtain ⟨h1, h2⟩ := insertionSort_holds swo_ltB l.toArray 0 l.toArray.size (Nat.zero_le _) (Nat.le_refl _)
  have h3 := sorted_unique_holds swo_ltB (fun x y h1 h2 => by simp [ltB] at h1 h2; omega) l.toArray _ h1 h2
  rw [← Array.toArray_toList (xs := Sort.insertionSort ltB l.toArray 0 l.toArray.size), h3]
  congr 2
  funext x y
  simp only [ltB]
  by_cases h : x ≤ y <;> simp [h] <;> omega
end Go.Proofs.Ythhmgbeigeagdaa
