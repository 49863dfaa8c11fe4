/-
  TEXTS OF EARLIER ROUNDS, laid together: part 2.
  No statement is proved here.
-/
import Derived.Sort.LotA

/-! ## HeapMath -/
namespace Go.Proofs.Ytbnhemmklbbnmaa
open Go.Sort

section
variable {α : Type} [Inhabited α] {lt : α → α → Bool}
/-- 'Not ahead of' is transitive; who is ahead isn't behind. -/
structure Wk (lt : α → α → Bool) : Prop where
  tr : ∀ a b c, lt a b = false → lt b c = false → lt a c = false
  as : ∀ a b, lt a b = true → lt b a = false
def Heap (lt : α → α → Bool) (d : Array α) (n : Nat) : Prop := ∀ k, 0 < k → k < n → lt d[k]! d[(k - 1) / 2]! = false
structure UpInv (lt : α → α → Bool) (d : Array α) (n j : Nat) : Prop where
  off : ∀ k, 0 < k → k < n → k ≠ j → lt d[k]! d[(k - 1) / 2]! = false
  sub : ∀ k, 0 < k → k < n → (k - 1) / 2 = j → 0 < j → lt d[k]! d[(j - 1) / 2]! = false
structure DownInv (lt : α → α → Bool) (d : Array α) (n i : Nat) : Prop where
  off : ∀ k, 0 < k → k < n → (k - 1) / 2 ≠ i → lt d[k]! d[(k - 1) / 2]! = false
  sub : ∀ k, 0 < k → k < n → (k - 1) / 2 = i → 0 < i → lt d[k]! d[(i - 1) / 2]! = false
theorem swp_at {d : Array α} {i j : Nat} (hi : i < d.size) (hj : j < d.size) (k : Nat) : (swp d i j)[k]! = if k = j then d[i]! else if k = i then d[j]! else d[k]! := by
  rw [swp_get d hi hj]
theorem up_stop0 {d : Array α} {n : Nat} (h : UpInv lt d n 0) : Heap lt d n := fun k h0 hn => h.off k h0 hn (by omega)
theorem up_stop {d : Array α} {n j : Nat} (h : UpInv lt d n j) (hl : lt d[j]! d[(j - 1) / 2]! = false) : Heap lt d n := fun k h0 hn => by
  by_cases e : k = j
  · rw [e]; exact hl
  · exact h.off k h0 hn e
theorem up_step (hw : Wk lt) {d : Array α} {n j p : Nat} (h : UpInv lt d n j) (hj : 0 < j) (hn : j < n) (hs : n ≤ d.size) (hp : p = (j - 1) / 2) (hl : lt d[j]! d[p]! = true) : UpInv lt (swp d p j) n p := by
  have hpj : p < j := by omega
  have ha := hw.as _ _ hl
  have g := swp_at (d := d) (i := p) (j := j) (by omega) (by omega)
  refine ⟨fun k h0 hkn hkp => ?_, fun k h0 hkn hk hp0 => ?_⟩
  · rw [g k, g ((k - 1) / 2)]
    by_cases e1 : k = j
    · rw [if_pos e1, if_neg (by omega), if_pos (by omega)]; exact ha
    · rw [if_neg e1, if_neg hkp]
      by_cases e2 : (k - 1) / 2 = j
      · rw [if_pos e2, hp]; exact h.sub k h0 hkn e2 hj
      · rw [if_neg e2]
        by_cases e3 : (k - 1) / 2 = p
        · rw [if_pos e3]
          have := h.off k h0 hkn e1
          rw [e3] at this
          exact hw.tr _ _ _ this ha
        · rw [if_neg e3]; exact h.off k h0 hkn e1
  · rw [g k, g ((p - 1) / 2)]
    have h1 := h.off p hp0 (by omega) (by omega)
    rw [if_neg (show (p - 1) / 2 ≠ j by omega), if_neg (show (p - 1) / 2 ≠ p by omega)]
    by_cases e1 : k = j
    · rw [if_pos e1]; exact h1
    · rw [if_neg e1, if_neg (by omega)]
      have h2 := h.off k h0 hkn e1
      rw [hk] at h2
      exact hw.tr _ _ _ h2 h1
theorem down_stop {d : Array α} {n i : Nat} (h : DownInv lt d n i) (hs : ∀ k, 0 < k → k < n → (k - 1) / 2 = i → lt d[k]! d[i]! = false) : Heap lt d n := fun k h0 hn => by
  by_cases e : (k - 1) / 2 = i
  · rw [e]; exact hs k h0 hn e
  · exact h.off k h0 hn e
theorem down_stop0 {d : Array α} {n i : Nat} (h : DownInv lt d n i) (hi : n ≤ 2 * i + 1) : Heap lt d n := down_stop h fun k h0 hn hk => by omega
theorem down_stop1 (hw : Wk lt) {d : Array α} {n i c : Nat} (h : DownInv lt d n i) (hsib : ∀ k, 0 < k → k < n → (k - 1) / 2 = i → k ≠ c → lt d[k]! d[c]! = false) (hl : lt d[c]! d[i]! = false) : Heap lt d n :=
  down_stop h fun k h0 hn hk => by
    by_cases e : k = c
    · rw [e]; exact hl
    · exact hw.tr _ _ _ (hsib k h0 hn hk e) hl
theorem down_step (hw : Wk lt) {d : Array α} {n i c : Nat} (h : DownInv lt d n i) (hc : (c - 1) / 2 = i) (h0c : 0 < c) (hcn : c < n) (hs : n ≤ d.size) (hsib : ∀ k, 0 < k → k < n → (k - 1) / 2 = i → k ≠ c → lt d[k]! d[c]! = false) (hl : lt d[c]! d[i]! = true) : DownInv lt (swp d i c) n c := by
  have hic : i < c := by omega
  have ha := hw.as _ _ hl
  have g := swp_at (d := d) (i := i) (j := c) (by omega) (by omega)
  refine ⟨fun k h0 hkn hkp => ?_, fun k h0 hkn hk hp0 => ?_⟩
  · rw [g k, g ((k - 1) / 2)]
    rw [if_neg hkp]
    by_cases e1 : k = c
    · rw [if_pos e1, if_pos (by omega)]; exact ha
    · rw [if_neg e1]
      by_cases e2 : k = i
      · rw [if_pos e2, if_neg (by omega)]
        have := h.sub c h0c hcn hc (by omega)
        rw [e2]; exact this
      · rw [if_neg e2]
        by_cases e3 : (k - 1) / 2 = i
        · rw [if_pos e3]; exact hsib k h0 hkn e3 e1
        · rw [if_neg e3]; exact h.off k h0 hkn e3
  · rw [g k, g ((c - 1) / 2)]
    rw [if_neg (show k ≠ c by omega), if_neg (show k ≠ i by omega), if_neg (show (c - 1) / 2 ≠ c by omega), if_pos hc]
    have := h.off k h0 hkn (by omega)
    rw [hk] at this
    exact this
theorem heap_top (hw : Wk lt) {d : Array α} {n : Nat} (h : Heap lt d n) : ∀ k, 0 < k → k < n → lt d[k]! d[0]! = false := by
  intro k
  induction k using Nat.strongRecOn with
  | _ k ih =>
    intro h0 hn
    have h1 := h k h0 hn
    by_cases e : (k - 1) / 2 = 0
    · rw [e] at h1; exact h1
    · exact hw.tr _ _ _ h1 (ih _ (by omega) (by omega) (by omega))
theorem pop_start {d : Array α} {n : Nat} (h : Heap lt d (n + 1)) (hs : n < d.size) : DownInv lt (swp d 0 n) n 0 := by
  refine ⟨fun k h0 hkn hk => ?_, fun _ _ _ _ h => absurd h (by omega)⟩
  rw [swp_at (by omega) hs, swp_at (by omega) hs, if_neg (by omega), if_neg (by omega), if_neg (by omega), if_neg (by omega)]
  exact h k h0 (by omega)
theorem push_start {d : Array α} {n : Nat} (x : α) (h : Heap lt d n) (hs : d.size = n) : UpInv lt (d.push x) (n + 1) n := by
  have g : ∀ k, k < n → (d.push x)[k]! = d[k]! := fun k hk => by
    rw [getElem!_pos (d.push x) k (by simp; omega), getElem!_pos d k (by omega), Array.getElem_push_lt (by omega)]
  refine ⟨fun k h0 hkn hk => ?_, fun k h0 hkn hk _ => by omega⟩
  rw [g k (by omega), g _ (by omega)]
  exact h k h0 (by omega)
theorem swp_perm {d : Array α} {i j : Nat} (hi : i < d.size) (hj : j < d.size) : (swp d i j).toList.Perm d.toList := by
  have e : swp d i j = d.swap i j hi hj := by
    unfold swp
    rw [Array.swap_def, getElem!_pos d j hj, getElem!_pos d i hi]
    simp [Array.setIfInBounds, hi, hj]
  rw [e]
  exact (Array.swap_perm hi hj).toList
/-- One element was turned, at i. -/
structure FixInv (lt : α → α → Bool) (d : Array α) (m i : Nat) : Prop where
  off : ∀ k, 0 < k → k < m → k ≠ i → (k - 1) / 2 ≠ i → lt d[k]! d[(k - 1) / 2]! = false
  sub : ∀ k, 0 < k → k < m → (k - 1) / 2 = i → 0 < i → lt d[k]! d[(i - 1) / 2]! = false
/-- None below i goes ahead of it. -/
def Kids (lt : α → α → Bool) (d : Array α) (m i : Nat) : Prop := ∀ k, 0 < k → k < m → (k - 1) / 2 = i → lt d[k]! d[i]! = false
theorem fix_of (hw : Wk lt) {d d' : Array α} {n m i : Nat} (h : Heap lt d n) (hm : m ≤ n) (he : ∀ k, k < m → k ≠ i → d'[k]! = d[k]!) : FixInv lt d' m i := by
  refine ⟨fun k h0 hk hki hp => ?_, fun k h0 hk hp hi => ?_⟩
  · rw [he k hk hki, he _ (by omega) hp]
    exact h k h0 (by omega)
  · rw [he k hk (by omega), he ((i - 1) / 2) (by omega) (by omega)]
    have h1 := h k h0 (by omega)
    rw [hp] at h1
    exact hw.tr _ _ _ h1 (h i hi (by omega))
theorem fix_cases (hw : Wk lt) {d : Array α} {m i : Nat} (h : FixInv lt d m i) : DownInv lt d m i ∨ (UpInv lt d m i ∧ Kids lt d m i) := by
  by_cases hc : 0 < i ∧ lt d[i]! d[(i - 1) / 2]! = true
  · have ha := hw.as _ _ hc.2
    have hk : Kids lt d m i := fun k h0 hk hp => hw.tr _ _ _ (h.sub k h0 hk hp hc.1) ha
    refine .inr ⟨⟨fun k h0 hkm hki => ?_, fun k h0 hkm hp h1 => h.sub k h0 hkm hp h1⟩, hk⟩
    by_cases e : (k - 1) / 2 = i
    · rw [e]; exact hk k h0 hkm e
    · exact h.off k h0 hkm hki e
  · refine .inl ⟨fun k h0 hkm hp => ?_, h.sub⟩
    by_cases e : k = i
    · subst e
      cases hl : lt d[k]! d[(k - 1) / 2]!
      · rfl
      · exact absurd ⟨h0, hl⟩ hc
    · exact h.off k h0 hkm e hp
theorem up_of_heap (hw : Wk lt) {d : Array α} {n j : Nat} (h : Heap lt d n) (hj : j < n) : UpInv lt d n j :=
  ⟨fun k h0 hk _ => h k h0 hk, fun k h0 hk hp h1 => by
    have a := h k h0 hk
    rw [hp] at a
    exact hw.tr _ _ _ a (h j h1 hj)⟩
end
end Go.Proofs.Ytbnhemmklbbnmaa

/-! ## AlarmMath -/
namespace Go.Proofs.Ytbnhemmklbbnmaa
open Go.Sort

/-- Who, when. -/
abbrev En := Nat × Int
def ltE (a b : En) : Bool := decide (a.2 < b.2) || (decide (a.2 = b.2) && decide (a.1 < b.1))
theorem ltE_iff (a b : En) : ltE a b = true ↔ a.2 < b.2 ∨ (a.2 = b.2 ∧ a.1 < b.1) := by unfold ltE; simp
theorem ltE_trans {a b c : En} (h : ltE a b = true) (k : ltE b c = true) : ltE a c = true := by rw [ltE_iff] at *; omega
theorem ltE_irr (a : En) : ltE a a = false := by unfold ltE; simp
theorem ltE_total {a b : En} (h : a.1 ≠ b.1) : ltE a b = true ∨ ltE b a = true := by rw [ltE_iff, ltE_iff]; omega
theorem ltE_as {a b : En} (h : ltE a b = true) : ltE b a = false := by
  cases hb : ltE b a
  · rfl
  · have := ltE_trans h hb; rw [ltE_irr] at this; cases this
theorem ltE_wk : Wk ltE := ⟨fun a b c => by unfold ltE; simp; omega, fun a b => ltE_as⟩
def SortE (l : List En) : Prop := l.Pairwise (fun a b => ltE a b = true)
def ids (l : List En) : List Nat := l.map (·.1)
def ins (x : En) : List En → List En
  | [] => [x]
  | y :: l => if ltE y x then y :: ins x l else x :: y :: l
def without (id : Nat) (l : List En) : List En := l.filter (fun e => decide (e.1 ≠ id))
def setE (id : Nat) (at_ : Int) (l : List En) : List En := ins (id, at_) (without id l)
/-- A list in order, of each one once. -/
structure Ord (l : List En) : Prop where
  sort : SortE l
  nd : (ids l).Nodup
theorem ins_perm (x : En) (l : List En) : (ins x l).Perm (x :: l) := by
  induction l with
  | nil => exact .refl _
  | cons y l ih =>
    unfold ins
    split
    · exact (ih.cons y).trans (.swap x y l)
    · exact .refl _
theorem ins_mem {x y : En} {l : List En} : y ∈ ins x l ↔ y = x ∨ y ∈ l := by rw [(ins_perm x l).mem_iff, List.mem_cons]
theorem without_mem {id : Nat} {l : List En} {y : En} : y ∈ without id l ↔ y ∈ l ∧ y.1 ≠ id := by unfold without; rw [List.mem_filter]; simp
theorem ins_sort {x : En} {l : List En} (h : SortE l) (hn : ∀ y ∈ l, y.1 ≠ x.1) : SortE (ins x l) := by
  induction l with
  | nil => exact List.pairwise_singleton _ _
  | cons y l ih =>
    obtain ⟨h1, h2⟩ := List.pairwise_cons.1 h
    unfold ins
    split
    · rename_i hl
      refine List.pairwise_cons.2 ⟨fun z hz => ?_, ih h2 (fun z hz => hn z (List.mem_cons_of_mem _ hz))⟩
      rcases ins_mem.1 hz with rfl | hz
      · exact hl
      · exact h1 z hz
    · rename_i hl
      have hxy : ltE x y = true := by
        rcases ltE_total (hn y List.mem_cons_self) with k | k
        · exact absurd k hl
        · exact k
      refine List.pairwise_cons.2 ⟨fun z hz => ?_, h⟩
      rcases List.mem_cons.1 hz with rfl | hz
      · exact hxy
      · exact ltE_trans hxy (h1 z hz)
theorem without_ord {id : Nat} {l : List En} (h : Ord l) : Ord (without id l) :=
  ⟨h.sort.filter _, h.nd.sublist ((List.filter_sublist).map _)⟩
theorem setE_ord {id : Nat} {at_ : Int} {l : List En} (h : Ord l) : Ord (setE id at_ l) := by
  have hw := without_ord (id := id) h
  refine ⟨ins_sort hw.sort (fun y hy => (without_mem.1 hy).2), ?_⟩
  unfold ids setE
  rw [((ins_perm _ _).map _).nodup_iff, List.map_cons, List.nodup_cons]
  refine ⟨fun hm => ?_, hw.nd⟩
  obtain ⟨y, hy, e⟩ := List.mem_map.1 hm
  exact (without_mem.1 hy).2 e
theorem ord_nil : Ord [] := ⟨List.Pairwise.nil, List.nodup_nil⟩
theorem Ord.tail {x : En} {l : List En} (h : Ord (x :: l)) : Ord l := ⟨(List.pairwise_cons.1 h.sort).2, (List.nodup_cons.1 h.nd).2⟩
theorem without_none {id : Nat} {l : List En} (h : ∀ y ∈ l, y.1 ≠ id) : without id l = l := by
  unfold without
  rw [List.filter_eq_self]
  intro y hy
  simpa using h y hy
theorem ord_head {x : En} {l : List En} (h : Ord (x :: l)) : without x.1 (x :: l) = l := by
  have h1 : ∀ y ∈ l, y.1 ≠ x.1 := fun y hy e => (List.nodup_cons.1 h.nd).1 (by show x.1 ∈ _; rw [← e]; exact List.mem_map_of_mem hy)
  have := without_none h1
  unfold without at *
  rw [List.filter_cons_of_neg (by simp)]
  exact this
/-- Somebody's time. -/
def timeOf (id : Nat) (l : List En) : Option Int := (l.find? (fun e => e.1 == id)).map (·.2)
theorem timeOf_mem {id : Nat} {t : Int} {l : List En} (hn : (ids l).Nodup) : timeOf id l = some t ↔ (id, t) ∈ l := by
  induction l with
  | nil => simp [timeOf]
  | cons y l ih =>
    have h2 := (List.nodup_cons.1 hn)
    unfold timeOf at *
    rw [List.find?_cons]
    by_cases e : y.1 = id
    · have e1 : (y.1 == id) = true := by simp [e]
      rw [e1]
      constructor
      · intro h
        simp at h
        obtain ⟨a, b⟩ := y
        simp at e h
        subst e h
        exact List.mem_cons_self
      · intro h
        rcases List.mem_cons.1 h with h | h
        · subst h; rfl
        · exact absurd (List.mem_map_of_mem (f := (·.1)) h) (by have h3 := h2.1; have h4 : (fun x : En => x.1) y = id := e; rw [h4] at h3; exact h3)
    · have e1 : (y.1 == id) = false := by simp [e]
      rw [e1]
      rw [ih h2.2]
      constructor
      · exact List.mem_cons_of_mem _
      · intro h
        rcases List.mem_cons.1 h with h | h
        · subst h; exact absurd rfl e
        · exact h
theorem timeOf_none {id : Nat} {l : List En} : timeOf id l = none ↔ ∀ y ∈ l, y.1 ≠ id := by
  unfold timeOf
  rw [Option.map_eq_none_iff, List.find?_eq_none]
  simp
/-- Whose time has come; the others. -/
def dueE (now : Int) (l : List En) : List En := l.takeWhile (fun e => decide (e.2 ≤ now))
def restE (now : Int) (l : List En) : List En := l.dropWhile (fun e => decide (e.2 ≤ now))
/-- Two sorted lists with the same members are one. -/
theorem sort_ext : ∀ {a b : List En}, SortE a → SortE b → a.Perm b → a = b
  | [], b, _, _, h => by have := h.length_eq; simp at this; exact (List.eq_nil_of_length_eq_zero this.symm).symm
  | x :: a, b, ha, hb, h => by
    obtain ⟨a1, a2⟩ := List.pairwise_cons.1 ha
    rcases b with _ | ⟨y, b⟩
    · have := h.length_eq; simp at this
    · obtain ⟨b1, b2⟩ := List.pairwise_cons.1 hb
      have hxy : x = y := by
        rcases List.mem_cons.1 (h.mem_iff.1 List.mem_cons_self) with e | hx
        · exact e
        · rcases List.mem_cons.1 (h.mem_iff.2 (List.mem_cons_self (a := y))) with e | hy
          · exact e.symm
          · have h1 := ltE_as (b1 x hx)
            rw [a1 y hy] at h1
            cases h1
      subst hxy
      rw [sort_ext a2 b2 ((List.perm_cons x).1 h)]
end Go.Proofs.Ytbnhemmklbbnmaa
