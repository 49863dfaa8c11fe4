/-
  TEXTS OF EARLIER ROUNDS, laid together: part 12.
  No statement is proved here.
-/
import Derived.Test.YtbnhemmklbbnmaaBdLot11
import Derived.Sort.Row
import Derived.Sort.LotA
import Derived.BigGuard
import Derived.BigCall
import Derived.CellFam
import Derived.Deep.Draws
import Derived.BigRegion

/-! ## RunsSort -/
namespace Go.Proofs.Ytbnhemmklbbnmaa
open Go.RowKit Go.Sort

def nv (x : Nat) : Value := .int .u64 (x : Int)
def numOf : Value → Int | .int _ q => q | _ => 0
theorem swo_ltB : SWO ltB where
  irrefl := fun x => by simp [ltB]
  trans := fun x y z h1 h2 => by simp [ltB] at *; omega
  ntrans := fun x y z h1 h2 => by simp [ltB] at *; omega
/-! ### the plain functions, a round at a time -/
theorem in_go (a j : Nat) (d : Array Nat) (hj : a < j) (hl : ltB d[j]! d[j - 1]! = true) : insInner ltB a j d = insInner ltB a (j - 1) (swp d j (j - 1)) := by
  rcases j with _ | k
  · omega
  · rw [insInner]
    simp only [Nat.add_sub_cancel] at hl ⊢
    simp [hj, hl]
theorem in_stop (a j : Nat) (d : Array Nat) (h : j ≤ a ∨ ltB d[j]! d[j - 1]! = false) : insInner ltB a j d = d := by
  rcases j with _ | k
  · rw [insInner]
  · rw [insInner]
    simp only [Nat.add_sub_cancel] at h
    rcases h with h | h
    · simp [show ¬ k + 1 > a by omega]
    · simp [h]
theorem out_go (a b i : Nat) (d : Array Nat) (h : i < b) : insOuter ltB a b i d = insOuter ltB a b (i + 1) (insInner ltB a i d) := by rw [insOuter, if_pos h]
theorem out_stop (a b i : Nat) (d : Array Nat) (h : ¬ i < b) : insOuter ltB a b i d = d := by rw [insOuter, if_neg h]
theorem row_drewN (w : World) (m q blk off : Nat) (d : Array Nat) : (putRow nv (Sort.ahead w m) blk off d).drewN q = putRow nv (Sort.ahead w (m + q)) blk off d := by
  show Sort.ahead (putRow nv (Sort.ahead w m) blk off d) q = _
  rw [putRow_ahead nv w m, ahead_ahead, ← putRow_ahead]
theorem row_swap (w : World) (m q blk off : Nat) (d : Array Nat) (j k : Nat) (hj : j < d.size) (hk : k < d.size) :
    (((putRow nv (Sort.ahead w m) blk off d).drewN q).setCell ⟨blk, off + j, none⟩ (nv d[k]!)).setCell ⟨blk, off + k, none⟩ (nv d[j]!) = putRow nv (Sort.ahead w (m + q)) blk off (swp d j k) := by
  rw [row_drewN]
  exact putRow_swp nv _ blk off d j k hj hk

def OutRelS (w : World) (blk off a b : Nat) (d : Array Nat) (vi : Value) (wr : World) : Prop :=
  ∃ (i n : Nat) (dk : Array Nat), vi = .int .i64 i ∧ a < i ∧ i ≤ b + 1 ∧ dk.size = d.size ∧ wr = putRow nv (Sort.ahead w n) blk off dk ∧ insOuter ltB a b i dk = insOuter ltB a b (a + 1) d
def InRelS (w : World) (blk off a i : Nat) (d dk : Array Nat) (vj : Value) (wr : World) : Prop :=
  ∃ (j m : Nat) (dj : Array Nat), vj = .int .i64 j ∧ a ≤ j ∧ j ≤ i ∧ dj.size = d.size ∧ wr = putRow nv (Sort.ahead w m) blk off dj ∧ insInner ltB a j dj = insInner ltB a i dk

set_option maxRecDepth 100000 in
set_option maxHeartbeats 1000000 in
theorem insertion_any (blk off cap a b : Nat) (d : Array Nat) (w : World) (hH : Holds nv w blk off d) (hab : a ≤ b) (hb : b ≤ d.size) (hsz : d.size < 4611686018427387904) :
    Calls Try.prog 72 #[.slice (some ⟨blk, off, none⟩) d.size cap, .int .i64 a, .int .i64 b] w fun e w' =>
      e = .returned (.tuple #[]) ∧ ∃ n, w' = putRow nv (Sort.ahead w n) blk off (Sort.insertionSort ltB d a b) := by
  go_enter Try.func72, Try.ntmps72
  go_wp2
  go_loopw [6] (fun vi wr => OutRelS w blk off a b d vi wr) (fun vi _ => b + 1 - (numOf vi).toNat)
  case atStart => exact ⟨a + 1, 0, d, by go_num, by omega, by omega, rfl, (putRow_self _ _ _ _ _ hH).symm, rfl⟩
  case round =>
    obtain ⟨i, n, dk, rfl, hai, hib, hsk, hwr, hO⟩ := hrel
    have HO := Lib.hid hO
    have HWR := Lib.hid hwr
    clear hO hwr
    by_cases hlt : i < b
    · go_wp2
      go_loopw [7] (fun vj wr2 => InRelS w blk off a i d dk vj wr2) (fun vj _ => (numOf vj).toNat)
      case atStart => exact ⟨i, n, dk, rfl, by omega, Nat.le_refl _, hsk, HWR.out, rfl⟩
      case round =>
        obtain ⟨j, m, dj, rfl, haj, hji, hsj, hw2, hI⟩ := hrel
        obtain ⟨G, hG⟩ : ∃ G : Nat → Nat, ∀ t, G t = dj[t]! := ⟨fun t => dj[t]!, fun _ => rfl⟩
        have hcw : ∀ t, t < d.size → wr.cell? ⟨blk, off + t, none⟩ = some (.int .u64 (G t : Int)) := fun t ht => by
          rw [hw2, hG]; exact cell?_putRow _ _ _ _ d dj (holds_ahead _ _ _ _ _ _ hH) hsj t (by omega)
        have hfw : ∀ t, t < d.size → wr.frozen? ⟨blk, off + t, none⟩ = false := fun t ht => by
          rw [hw2, frozen?_putRow]; exact ((holds_ahead _ _ m _ _ _ hH) t ht).2
        have HW := Lib.hid hw2
        have HI := Lib.hid hI
        have HG : Hid (∀ t, G t = dj[t]!) := hG
        have OUT : Hid ((j ≤ a ∨ ltB dj[j]! dj[j - 1]! = false) → ∀ q, OutRelS w blk off a b d (.int .i64 ((i : Int) + 1)) (wr.drewN q)) := fun hs q =>
          ⟨i + 1, m + q, dj, by go_num, by omega, by omega, hsj, by rw [HW.out]; exact row_drewN _ _ _ _ _ _, by rw [← HO.out, out_go _ _ _ _ hlt, ← HI.out, in_stop _ _ _ hs]⟩
        have HSJ := Lib.hid hsj
        clear hw2 hI hH hG hsj hsk
        go_wp2
        by_cases hja : a < j
        · go_quiet (first | (go_at_call 78; refine Calls.quiet_of_same ((cmpLess_any _ _ _).mono fun _ _ h => ⟨h.1, h.2.symm⟩)))
          go_wp2
          · have hl : ltB (G j) (G (j - 1)) = true := by assumption
            have HL := Lib.hid hl
            clear hl
            go_region
            all_goals go_wp2
            go_roundw
            case rel =>
              have hsj := HSJ.out
              refine ⟨j - 1, m + (nq + 1), swp dj j (j - 1), by congr 1; omega, by omega, by omega, by rw [size_swp]; exact hsj, ?_, ?_⟩
              · rw [HW.out, HG.out, HG.out]
                exact row_swap w m (nq + 1) blk off dj j (j - 1) (by omega) (by omega)
              · rw [← HI.out, in_go a j dj hja (by rw [← HG.out, ← HG.out]; exact HL.out)]
            case measure => simp [numOf]; omega
          · have hl : ltB (G j) (G (j - 1)) = false := by assumption
            go_roundw
            case rel => exact OUT.out (Or.inr (by rw [← HG.out, ← HG.out]; exact hl)) nq
            case measure => simp [numOf]; omega
        · go_quiet (first | (go_at_call 78; refine Calls.quiet_of_same ((cmpLess_any _ _ _).mono fun _ _ h => ⟨h.1, h.2.symm⟩)))
          go_wp2
          go_roundw
          case rel => exact OUT.out (Or.inl (by omega)) nq
          case measure => simp [numOf]; omega
    · go_wp2
      go_end0
      exact ⟨rfl, n, by unfold Sort.insertionSort; rw [← HO.out, out_stop _ _ _ _ hlt]; exact HWR.out⟩

/-! ### pdqsortOrdered, slices.Sort, at twelve or fewer -/
set_option maxRecDepth 100000 in
set_option maxHeartbeats 1000000 in
theorem pdq_small (blk off cap : Nat) (d : Array Nat) (z : Int) (w : World) (hH : Holds nv w blk off d) (hsz : d.size ≤ 12) :
    Calls Try.prog 57 #[.slice (some ⟨blk, off, none⟩) d.size cap, .int .i64 0, .int .i64 (d.size : Int), .int .i64 z] w fun e w' =>
      e = .returned (.tuple #[]) ∧ ∃ n, w' = putRow nv (Sort.ahead w n) blk off (Sort.insertionSort ltB d 0 d.size) := by
  have HH := Lib.hid hH
  clear hH
  have h12 : (d.size : Int) ≤ 12 := by omega
  go_enter Try.func57, Try.ntmps57
  go_wp2
  go_loopw [1, 2, 3, 8] (fun v1 v2 v3 v wr => v1 = .int .i64 0 ∧ v2 = .int .i64 (d.size : Int) ∧ v3 = .int .i64 z ∧ v = .bool true ∧ w = wr) (fun _ _ _ _ _ => 0)
  case atStart => exact ⟨rfl, rfl, rfl, rfl, rfl⟩
  case round =>
    obtain ⟨rfl, rfl, rfl, rfl, rfl⟩ := hrel
    go_wp2_with fail
    refine (insertion_any blk off cap 0 d.size d w HH.out (Nat.zero_le _) (Nat.le_refl _) (by omega)).mono ?_
    rintro e w' ⟨rfl, n, hw⟩
    have HW := Lib.hid hw
    clear hw
    go_wp2
    refine bodyPost_ret (results_none rfl _ _ _) rfl ?_
    exact ⟨rfl, n, HW.out⟩
set_option maxRecDepth 100000 in
set_option maxHeartbeats 1000000 in
theorem sort_small (blk off cap : Nat) (d : Array Nat) (w : World) (hH : Holds nv w blk off d) (hsz : d.size ≤ 12) :
    Calls Try.prog 36 #[.slice (some ⟨blk, off, none⟩) d.size cap] w fun e w' =>
      e = .returned (.tuple #[]) ∧ ∃ n, w' = putRow nv (Sort.ahead w n) blk off (Sort.insertionSort ltB d 0 d.size) := by
  have HH := Lib.hid hH
  clear hH
  have h12 : (d.size : Int) ≤ 12 := by omega
  go_enter Try.func36, Try.ntmps36
  go_wp2_with fail
  refine (len_any w d.size (by omega)).mono ?_
  rintro e w' ⟨⟨z, rfl⟩, rfl⟩
  go_wp2_with fail
  refine (pdq_small blk off cap d z w HH.out hsz).mono ?_
  rintro e w' ⟨rfl, n, hw⟩
  have HW := Lib.hid hw
  clear hw
  go_wp2
  go_end0
  exact ⟨rfl, n, HW.out⟩

/-! ### a row of numbers of one's own -/
def nvs (l : List Nat) : List Value := l.map nv
theorem nvs_len (l : List Nat) : (nvs l).length = l.length := by simp [nvs]
theorem nvs_one (l : List Nat) : ∀ u ∈ nvs l, u.oneCell' = true := by
  intro u hu
  obtain ⟨b, _, rfl⟩ := List.mem_map.1 hu
  rfl
def OwnN (w : World) (base : Nat) (A : Option Addr) (n c : Nat) (l : List Nat) : Prop := w.ownsRow base 34 1 (.slice A n c) n (nvs l)
theorem OwnN.len {w : World} {base : Nat} {A : Option Addr} {n c : Nat} {l : List Nat} (h : OwnN w base A n c l) : l.length = n := by have := h.1; rw [nvs_len] at this; omega
theorem OwnN.holds {w : World} {base g n c : Nat} {l : List Nat} (h : OwnN w base (some ⟨g, 0, none⟩) n c l) : Holds nv w g 0 l.toArray := by
  intro j hj
  have hj' : j < l.length := by simpa using hj
  refine ⟨?_, by have := h.frozenAt (g := g) j; simpa using this⟩
  have h1 := h.cells (g := g) rfl j (nv l[j]) (by simp [nvs, hj'])
  rw [add_plain] at h1
  rw [h1]
  simp [hj']
theorem OwnN.sorted {w : World} {base g n c m : Nat} {l l' : List Nat} (h : OwnN w base (some ⟨g, 0, none⟩) n c l) (hl : l'.length = l.length) :
    OwnN (putRow nv (Sort.ahead w m) g 0 l'.toArray) base (some ⟨g, 0, none⟩) n c l' ∧ Below base w (putRow nv (Sort.ahead w m) g 0 l'.toArray) ∧ (putRow nv (Sort.ahead w m) g 0 l'.toArray).heap.size = w.heap.size := by
  have hn := h.len
  rcases h.2 with ⟨hv, _⟩ | ⟨g', cap, cur, hv, hbg, hg, hnc, hcm, hcs, ht⟩
  · cases hv
  · injection hv with e1 e2 e3
    injection e1 with e1
    injection e1 with e1
    subst e1 e3
    refine ⟨⟨by rw [nvs_len, hl]; omega, .inr ⟨g, c, putCells nv 0 l'.toArray cur, rfl, hbg, ?_, hnc, hcm, by simp [putCells, hcs], ?_⟩⟩, ⟨rfl, rfl, rfl, by simp, fun q hq => ?_⟩, by simp⟩
    · simp [putRow, mapBlock, Sort.ahead, Array.getElem?_modify, hg, onCells]
    · apply List.ext_getElem?
      intro j
      by_cases hj : j < n
      · rw [List.getElem?_take_of_lt (by omega), Array.getElem?_toList]
        simp [putCells, nvs, show j < l'.length by omega, show j < cur.size by omega]
      · rw [List.getElem?_take_eq_none (by omega), List.getElem?_eq_none (by rw [nvs_len]; omega)]
    · have : g ≠ q := by omega
      simp [putRow, mapBlock, Sort.ahead, Array.getElem?_modify, this]
def sortN (l : List Nat) : List Nat := l.mergeSort fun x y => decide (x ≤ y)
theorem sortN_len (l : List Nat) : (sortN l).length = l.length := by simp [sortN]
theorem sortN_ins (l : List Nat) : Sort.insertionSort ltB l.toArray 0 l.toArray.size = (sortN l).toArray := by
  obtain ⟨h1, h2⟩ := insertionSort_holds swo_ltB l.toArray 0 l.toArray.size (Nat.zero_le _) (Nat.le_refl _)
  have h3 := sorted_unique_holds swo_ltB (fun x y h1 h2 => by simp [ltB] at h1 h2; omega) l.toArray _ h1 h2
  rw [← Array.toArray_toList (xs := Sort.insertionSort ltB l.toArray 0 l.toArray.size), h3]
  congr 2
  funext x y
  simp only [ltB]
  by_cases h : x ≤ y <;> simp [h] <;> omega
end Go.Proofs.Ytbnhemmklbbnmaa

/-! ## RunsOf -/
namespace Go.Proofs.Ytbnhemmklbbnmaa
open Go.RowKit

theorem u64_info : (Try.prog.info? 34).map (fun i => (i.zero, i.size, i.bytes)) = some (some (.int .u64 0), 1, 8) := by kernel_rfl
theorem own_noneN (w : World) : OwnN (w.alloc (.cells #[] 34)) w.heap.size (some ⟨w.heap.size, 0, none⟩) 0 0 [] :=
  ⟨rfl, .inr ⟨w.heap.size, 0, _, rfl, Nat.le_refl _, heap_alloc_new w _, Nat.le_refl _, by unfold maxLen; omega, rfl, rfl⟩⟩
theorem eqIn_nilN (w : World) (d : Nat) (a : Option Addr) (l c : Nat) : (Op.equalIn (d + 1) 37 (.slice a l c) (.slice none 0 0)).run Try.prog w = .ok a.isNone w := by
  cases a <;> simp [Op.equalIn, run_underlying Try.underlying37]
theorem eql_nilN (w : World) (a : Option Addr) (l c : Nat) : (binOp .eql 37 (.slice a l c) (.slice none 0 0)).run Try.prog w = .ok (.bool a.isNone) w := by
  have h : (Op.equal 37 (.slice a l c) (.slice none 0 0)).run Try.prog w = .ok a.isNone w := eqIn_nilN w 9999 a l c
  simp [binOp, h]
def SaysOwnN (w : World) (base : Nat) (l : List Nat) (e : Ending) (w' : World) : Prop := ∃ A n c, e = .returned (.slice A n c) ∧ OwnN w' base A n c l ∧ Below base w w'
set_option maxHeartbeats 400000 in
theorem cloneN_any (w : World) (A : Option Addr) (n c : Nat) (l : List Nat) (hs : Sn w w.heap.size A n c 1 (nvs l)) (hb : n ≤ 1000000) :
    Calls Try.prog 26 #[.slice A n c] w (SaysOwnN w w.heap.size l) := by
  obtain ⟨i0, hi0, hz0, hz1, hz2⟩ := info_parts u64_info
  rcases A with _ | ad
  · have hn : n = 0 := by
      rcases Nat.eq_zero_or_pos n with h | h
      · exact h
      · obtain ⟨b, o, h1, _⟩ := hs.cell (by omega)
        cases h1
    subst hn
    have hl : l = [] := List.eq_nil_of_length_eq_zero (by have := hs.len; rw [nvs_len] at this; omega)
    subst hl
    have hq := eql_nilN w none 0 c
    go_enter Try.func26, Try.ntmps26
    go_wp2_with fail
    go_ret
    exact ⟨none, 0, 0, rfl, ⟨rfl, .inl ⟨rfl, rfl⟩⟩, Below.refl _ _⟩
  · have hq := eql_nilN w (some ad) n c
    have H := Lib.hid hs
    clear hs
    go_enter Try.func26, Try.ntmps26
    go_wp2_with (at_builtin; refine wpList_append_dstN _ rfl (.tmp 5) (.tmp 6) 37 37 rfl w.heap.size 34 i0 _ 1 8 Try.underlying37 hi0 hz0 hz1 hz2 rfl _ 0 0 (nvs []) rfl (.inr (own_noneN w)) _ n (nvs l) rfl ((H.out.alloc (Nat.le_refl _) _).src Try.underlying37 (nvs_one l)) (by omega) (by omega) (by simp) ?_; intro A3 c3 w3 h1 h2 h3 h4 h5 h6)
    go_ret
    exact ⟨A3, 0 + n, c3, by simp, h3 (own_noneN w), ((Below.refl _ w).alloc (Nat.le_refl _) _).trans h4⟩

/-! ### Of -/
def ofGo (acc : List Rn) (l : List Nat) : List Rn := l.foldl (fun s x => joinL s (x, x)) acc
def ofL (l : List Nat) : List Rn := ofGo [] (sortN l)
theorem ofGo_spec : ∀ (l : List Nat) (acc : List Rn), Canon acc → l.Pairwise (fun x y => x ≤ y) → (∀ a ∈ acc, ∀ x ∈ l, a.1 ≤ x) →
    Canon (ofGo acc l) ∧ (∀ x, memR (ofGo acc l) x ↔ memR acc x ∨ x ∈ l)
  | [], acc, hc, _, _ => ⟨hc, fun x => by simp [ofGo]⟩
  | y :: l, acc, hc, hp, ho => by
    obtain ⟨h1, h2, h3⟩ := joinL_spec (r := (y, y)) hc (Nat.le_refl _) (fun a ha => ho a ha y List.mem_cons_self)
    obtain ⟨hp1, hp2⟩ := List.pairwise_cons.1 hp
    obtain ⟨k1, k2⟩ := ofGo_spec l (joinL acc (y, y)) h1 hp2 (fun a ha x hx => Nat.le_trans (h3 a ha) (hp1 x hx))
    refine ⟨k1, fun x => ?_⟩
    have := k2 x
    show memR (ofGo (joinL acc (y, y)) l) x ↔ _
    rw [this, h2, List.mem_cons]
    constructor
    · rintro ((h | ⟨h, h'⟩) | h)
      · exact .inl h
      · simp only at h h'; exact .inr (.inl (by omega))
      · exact .inr (.inr h)
    · rintro (h | rfl | h)
      · exact .inl (.inl h)
      · exact .inl (.inr ⟨Nat.le_refl _, Nat.le_refl _⟩)
      · exact .inr h
theorem ofGo_lt : ∀ (l : List Nat) (acc : List Rn), (∀ a ∈ acc, a.1 < two64 ∧ a.2 < two64) → (∀ x ∈ l, x < two64) → ∀ a ∈ ofGo acc l, a.1 < two64 ∧ a.2 < two64
  | [], acc, hc, _ => hc
  | y :: l, acc, hc, hl => by
    have hy := hl y List.mem_cons_self
    exact ofGo_lt l (joinL acc (y, y)) (joinL_lt hc ⟨hy, hy⟩) (fun x hx => hl x (List.mem_cons_of_mem _ hx))
theorem sortN_le (l : List Nat) : (sortN l).Pairwise (fun x y => x ≤ y) := by
  have := List.pairwise_mergeSort (le := fun x y : Nat => decide (x ≤ y)) (fun a b c h1 h2 => by simp at *; omega) (fun a b => by simp; omega) l
  exact this.imp fun h => by simpa using h
theorem sortN_mem (l : List Nat) (x : Nat) : x ∈ sortN l ↔ x ∈ l := by simp [sortN]
theorem of_ok {l : List Nat} (h : ∀ x ∈ l, x < two64) : Okl (ofL l) :=
  ⟨(ofGo_spec (sortN l) [] Canon.nil (sortN_le l) (fun a ha => by cases ha)).1, ofGo_lt _ _ (fun a ha => by cases ha) (fun x hx => h x ((sortN_mem l x).1 hx))⟩
theorem of_mem (l : List Nat) (x : Nat) : memR (ofL l) x ↔ x ∈ l := by
  have := (ofGo_spec (sortN l) [] Canon.nil (sortN_le l) (fun a ha => by cases ha)).2 x
  unfold ofL
  rw [this, sortN_mem]
  simp [memR_nil]
theorem ofGo_snoc (acc : List Rn) (l : List Nat) (x : Nat) : ofGo acc (l ++ [x]) = joinL (ofGo acc l) (x, x) := by simp [ofGo]
theorem ofGo_len (l : List Nat) : ∀ acc : List Rn, (ofGo acc l).length ≤ acc.length + l.length := by
  induction l with
  | nil => intro acc; simp [ofGo]
  | cons y l ih =>
    intro acc
    have h1 := ih (joinL acc (y, y))
    have h2 := (joinL_len acc (y, y)).1
    show (ofGo (joinL acc (y, y)) l).length ≤ _
    simp only [List.length_cons]
    omega

def OfRel (w : World) (n : Nat) (s : List Nat) (gk : Nat) (vl vi : Value) (wr : World) : Prop :=
  ∃ (k : Nat) (Al : Option Addr) (nl cl : Nat), gk + k = n ∧ vl = .slice Al nl cl ∧ vi = .int .i64 (k : Int) ∧ Own wr (w.heap.size) Al nl cl (ofGo [] (s.take k)) ∧ Below w.heap.size w wr

set_option maxRecDepth 100000 in
set_option maxHeartbeats 1000000 in
theorem ofR_any (w : World) (A : Option Addr) (n c : Nat) (l : List Nat) (hs : Sn w w.heap.size A n c 1 (nvs l)) (hl : ∀ x ∈ l, x < two64) (hn : n ≤ 12) (h0 : 0 < n) :
    Calls Try.prog 24 #[.slice A n c] w (SaysS w 0 (ofL l)) := by
  have HS := Lib.hid hs
  have HL := Lib.hid hl
  obtain ⟨s, HSS⟩ : ∃ s, Hid (s = sortN l) := ⟨_, rfl⟩
  rw [show ofL l = ofGo [] s from by rw [HSS.out]; rfl]
  clear hs hl
  go_enter Try.func24, Try.ntmps24
  go_wp2_with fail
  have hR : (w.alloc (Obj.cells #[.slice none 0 0] 44)).heap[w.heap.size]? = some (.cells #[.slice none 0 0] 44 (0, 0)) := heap_alloc_new w _
  have hb1 : Below w.heap.size w (w.alloc (Obj.cells #[.slice none 0 0] 44)) := below_box w _
  have hz1 : (w.alloc (Obj.cells #[.slice none 0 0] 44)).heap.size = w.heap.size + 1 := by simp
  have HS1 := Lib.hid (HS.out.onA (Obj.cells #[.slice none 0 0] 44))
  generalize w.alloc (Obj.cells #[.slice none 0 0] 44) = w1 at *
  have HR1 := Lib.hid hR
  have HZ1 := Lib.hid hz1
  clear hR hz1
  refine (cloneN_any w1 A n c l HS1.out (by omega)).mono ?_
  rintro e w2 ⟨A2, n2, c2, rfl, hown2, hb2⟩
  have hn2 : n2 = n := by rw [← hown2.len]; have := HS.out.len; rw [nvs_len] at this; omega
  subst hn2
  obtain ⟨g, rfl⟩ : ∃ g, A2 = some ⟨g, 0, none⟩ := by
    rcases hown2.2 with ⟨hv, hz⟩ | ⟨g, cap, cur, hv, _⟩
    · omega
    · injection hv with e1
      exact ⟨g, e1⟩
  have HGB := Lib.hid (hown2.lt g rfl)
  have HLEN : Hid (l.length = n2) := hown2.len
  have hsort := sort_small g 0 c2 l.toArray w2 hown2.holds (by simp; have := HLEN.out; omega)
  rw [sortN_ins, ← HSS.out, show l.toArray.size = n2 from by simpa using HLEN.out] at hsort
  have HSO := Lib.hid hsort
  have HOW := Lib.hid hown2
  have HB2 := Lib.hid hb2
  clear hsort hown2 hb2
  go_wp2_with fail
  refine HSO.out.mono ?_
  rintro e w3 ⟨rfl, m, hw3⟩
  obtain ⟨hown3, hb3, hz3⟩ := HOW.out.sorted (m := m) (l' := s) (by rw [HSS.out]; exact sortN_len l)
  rw [← hw3] at hown3 hb3 hz3
  have HZ3 : Hid (w.heap.size < w3.heap.size ∧ w1.heap.size = w.heap.size + 1) := by have := HZ1.out; have := HGB.out; exact ⟨by omega, by omega⟩
  have hbw3 : Below w.heap.size w w3 := hb1.trans ((HB2.out.mono (by have := HZ1.out; omega)).trans (hb3.mono (by have := HZ1.out; omega)))
  have HR3 := Lib.hid (((hb3.block w.heap.size (by have := HZ1.out; omega)).trans (HB2.out.block w.heap.size (by have := HZ1.out; omega))).trans HR1.out)
  have HOW3 := Lib.hid hown3
  have HSL : Hid (s.length = n2) := hown3.len
  have HLT : Hid (∀ x ∈ s, x < two64) := fun x hx => HL.out x ((sortN_mem l x).1 (HSS.out ▸ hx))
  clear hown3 hw3 hz3 hb3 HOW HSO HR1 HB2 HL HS HS1 hb1 HZ1 HLEN
  go_wp2_with fail
  go_loopg [4, 13] n2 (fun gk vl vi wr => OfRel w3 n2 s gk vl vi wr)
  case atStart =>
    exact ⟨0, none, 0, 0, by omega, rfl, rfl, ⟨rfl, .inl ⟨rfl, rfl⟩⟩, Below.refl _ _⟩
  case round =>
    obtain ⟨k, Al, nl, cl, hg, rfl, rfl, hown, hbel⟩ := hrel
    have HG := Lib.hid hg
    have HOWN := Lib.hid hown
    have HROW := Lib.hid ((Sn.of_own HOW3.out).below hbel (Nat.le_refl _))
    have hzr := hbel.size
    clear hg hown
    by_cases hk : k < n2
    · have hkI : (k : Int) < (n2 : Int) := by omega
      have hk0 : (0 : Int) ≤ (k : Int) := by omega
      obtain ⟨x, hx⟩ : ∃ x, s[k]? = some x := ⟨_, List.getElem?_eq_getElem (by rw [HSL.out]; exact hk)⟩
      have hc : wr.cell? ⟨g, k, none⟩ = some (.int .u64 (x : Int)) := by
        obtain ⟨b, o, he, _, hcell⟩ := HROW.out.cell (by omega)
        injection he with he
        injection he with he1 he2
        subst he1 he2
        have := hcell k (nv x) (by simp [nvs, hx])
        rwa [Nat.zero_add] at this
      have HXL := Lib.hid (HLT.out x (List.mem_of_getElem? hx))
      have HTK : Hid (s.take (k + 1) = s.take k ++ [x]) := by show _ = _; rw [List.take_add_one, hx]; rfl
      have HLL : Hid (∀ q ∈ ofGo [] (s.take k), q.1 < two64 ∧ q.2 < two64) := ofGo_lt _ _ (fun a ha => by cases ha) (fun y hy => HLT.out y (List.mem_of_mem_take hy))
      have HNL : Hid (nl ≤ n2) := by
        have h1 := HOWN.out.1
        rw [rvs_len] at h1
        have h2 := ofGo_len (s.take k) []
        rw [List.length_take] at h2
        simp only [List.length_nil] at h2
        show _ ≤ _
        omega
      clear hx
      go_wp2_with fail
      refine (join_any' wr w3.heap.size Al nl cl (ofGo [] (s.take k)) (x, x) HLL.out ⟨HXL.out, HXL.out⟩ (by have := HNL.out; omega) HOWN.out hzr).mono ?_
      rintro e w5 ⟨A5, n5, c5, rfl, hown5, hb5⟩
      have HO5 := Lib.hid hown5
      have HB5 := Lib.hid hb5
      clear hown5 hb5
      go_wp2
      go_roundg (gk - 1)
      case measure => have := HG.out; omega
      case rel =>
        refine ⟨k + 1, A5, n5, c5, by have := HG.out; omega, rfl, by go_num, by rw [HTK.out, ofGo_snoc]; exact HO5.out, hbel.trans HB5.out⟩
    · have hkI : ¬ (k : Int) < (n2 : Int) := by omega
      have HE : Hid (s.take k = s) := List.take_of_length_le (by have := HSL.out; have := HG.out; omega)
      have hR5 := (hbel.block w.heap.size HZ3.out.1).trans HR3.out
      have hq0 : wr.cell? ⟨w.heap.size, 0, none⟩ = some (.slice none 0 0) := by rw [cell_of_row wr _ 0 _ _ _ hR5]; rfl
      have hf0 := frz_row (i := 0) hR5
      have hown6 := HOWN.out.kept (set_grown wr w.heap.size 0 (.slice Al nl cl)) (own_ne HOWN.out HZ3.out.1)
      have hb6 : Below w.heap.size w (wr.setCell ⟨w.heap.size, 0, none⟩ (.slice Al nl cl)) := (hbw3.trans (hbel.mono hbw3.size)).setCell (Nat.le_refl _) _
      have hc6 : (wr.setCell ⟨w.heap.size, 0, none⟩ (.slice Al nl cl)).cell? ⟨w.heap.size, 0, none⟩ = some (.slice Al nl cl) := World.cell?_setCell_same _ _ _ hq0
      have HO6 := Lib.hid hown6
      clear hR5 hown6
      go_wp2
      refine bodyPost_ret (v := .agg #[.slice Al nl cl]) (by simp [results, Try.results24, go_sem, hc6]) rfl ?_
      have ho := HO6.out
      rw [HE.out] at ho
      have hs3 := hbw3.size
      exact ⟨Al, nl, cl, rfl, St.of_own ho (ofGo_lt _ _ (fun a ha => by cases ha) HLT.out), fun b o hb => .inr (by have := (ho.lt b (by rw [hb]; rfl)).1; omega), hb6⟩
end Go.Proofs.Ytbnhemmklbbnmaa
