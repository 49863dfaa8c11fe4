/-
  SLEEPERS by their times and ids, as mathematics: sorted lists.
  No statement is proved here.
-/
import Derived.Test.YtfmfamnngfanfaaHeapMath
namespace Go.Proofs.Ytfmfamnngfanfaa
open Go.Sort

/-- Who, when. -/
abbrev En := Nat × Int
def ltE (a b : En) : Bool := decide (a.2 < b.2) || (decide (a.2 = b.2) && decide (a.1 < b.1))
theorem ltE_iff (a b : En) : ltE a b = true ↔ a.2 < b.2 ∨ (a.2 = b.2 ∧ a.1 < b.1) := by unfold ltE; simp
theorem ltE_trans {a b c : En} (h : ltE a b = true) (k : ltE b c = true) : ltE a c = true := by rw [ltE_iff] at *; omega
theorem ltE_irr (a : En) : ltE a a = false := by unfold ltE; simp
theorem ltE_total {a b : En} (h : a.1 ≠ b.1) : ltE a b = true ∨ ltE b a = true := by rw [ltE_iff, ltE_iff]; omega
theorem ltE_as {a b : En} (h : ltE a b = true) : ltE b a = false := by
  cases hb : ltE b a
  · rfl
  · have := ltE_trans h hb; rw [ltE_irr] at this; cases this
theorem ltE_wk : Wk ltE := ⟨fun a b c => by unfold ltE; simp; omega, fun a b => ltE_as⟩
def SortE (l : List En) : Prop := l.Pairwise (fun a b => ltE a b = true)
def ids (l : List En) : List Nat := l.map (·.1)
def ins (x : En) : List En → List En
  | [] => [x]
  | y :: l => if ltE y x then y :: ins x l else x :: y :: l
def without (id : Nat) (l : List En) : List En := l.filter (fun e => decide (e.1 ≠ id))
def setE (id : Nat) (at_ : Int) (l : List En) : List En := ins (id, at_) (without id l)
/-- A list in order, of each one once. -/
structure Ord (l : List En) : Prop where
  sort : SortE l
  nd : (ids l).Nodup
theorem ins_perm (x : En) (l : List En) : (ins x l).Perm (x :: l) := by
  induction l with
  | nil => exact .refl _
  | cons y l ih =>
    unfold ins
    split
    · exact (ih.cons y).trans (.swap x y l)
    · exact .refl _
theorem ins_mem {x y : En} {l : List En} : y ∈ ins x l ↔ y = x ∨ y ∈ l := by rw [(ins_perm x l).mem_iff, List.mem_cons]
theorem without_mem {id : Nat} {l : List En} {y : En} : y ∈ without id l ↔ y ∈ l ∧ y.1 ≠ id := by unfold without; rw [List.mem_filter]; simp
theorem ins_sort {x : En} {l : List En} (h : SortE l) (hn : ∀ y ∈ l, y.1 ≠ x.1) : SortE (ins x l) := by
  induction l with
  | nil => exact List.pairwise_singleton _ _
  | cons y l ih =>
    obtain ⟨h1, h2⟩ := List.pairwise_cons.1 h
    unfold ins
    split
    · rename_i hl
      refine List.pairwise_cons.2 ⟨fun z hz => ?_, ih h2 (fun z hz => hn z (List.mem_cons_of_mem _ hz))⟩
      rcases ins_mem.1 hz with rfl | hz
      · exact hl
      · exact h1 z hz
    · rename_i hl
      have hxy : ltE x y = true := by
        rcases ltE_total (hn y List.mem_cons_self) with k | k
        · exact absurd k hl
        · exact k
      refine List.pairwise_cons.2 ⟨fun z hz => ?_, h⟩
      rcases List.mem_cons.1 hz with rfl | hz
      · exact hxy
      · exact ltE_trans hxy (h1 z hz)
theorem without_ord {id : Nat} {l : List En} (h : Ord l) : Ord (without id l) :=
  ⟨h.sort.filter _, h.nd.sublist ((List.filter_sublist).map _)⟩
theorem setE_ord {id : Nat} {at_ : Int} {l : List En} (h : Ord l) : Ord (setE id at_ l) := by
  have hw := without_ord (id := id) h
  refine ⟨ins_sort hw.sort (fun y hy => (without_mem.1 hy).2), ?_⟩
  unfold ids setE
  rw [((ins_perm _ _).map _).nodup_iff, List.map_cons, List.nodup_cons]
  refine ⟨fun hm => ?_, hw.nd⟩
  obtain ⟨y, hy, e⟩ := List.mem_map.1 hm
  exact (without_mem.1 hy).2 e
theorem ord_nil : Ord [] := ⟨List.Pairwise.nil, List.nodup_nil⟩
theorem Ord.tail {x : En} {l : List En} (h : Ord (x :: l)) : Ord l := ⟨(List.pairwise_cons.1 h.sort).2, (List.nodup_cons.1 h.nd).2⟩
theorem without_none {id : Nat} {l : List En} (h : ∀ y ∈ l, y.1 ≠ id) : without id l = l := by
  unfold without
  rw [List.filter_eq_self]
  intro y hy
  simpa using h y hy
theorem ord_head {x : En} {l : List En} (h : Ord (x :: l)) : without x.1 (x :: l) = l := by
  have h1 : ∀ y ∈ l, y.1 ≠ x.1 := fun y hy e => (List.nodup_cons.1 h.nd).1 (by show x.1 ∈ _; rw [← e]; exact List.mem_map_of_mem hy)
  have := without_none h1
  unfold without at *
  rw [List.filter_cons_of_neg (by simp)]
  exact this
/-- Somebody's time. -/
def timeOf (id : Nat) (l : List En) : Option Int := (l.find? (fun e => e.1 == id)).map (·.2)
theorem timeOf_mem {id : Nat} {t : Int} {l : List En} (hn : (ids l).Nodup) : timeOf id l = some t ↔ (id, t) ∈ l := by
  induction l with
  | nil => simp [timeOf]
  | cons y l ih =>
    have h2 := (List.nodup_cons.1 hn)
    unfold timeOf at *
    rw [List.find?_cons]
    by_cases e : y.1 = id
    · have e1 : (y.1 == id) = true := by simp [e]
      rw [e1]
      constructor
      · intro h
        simp at h
        obtain ⟨a, b⟩ := y
        simp at e h
        subst e h
        exact List.mem_cons_self
      · intro h
        rcases List.mem_cons.1 h with h | h
        · subst h; rfl
        · exact absurd (List.mem_map_of_mem (f := (·.1)) h) (by have h3 := h2.1; have h4 : (fun x : En => x.1) y = id := e; rw [h4] at h3; exact h3)
    · have e1 : (y.1 == id) = false := by simp [e]
      rw [e1]
      rw [ih h2.2]
      constructor
      · exact List.mem_cons_of_mem _
      · intro h
        rcases List.mem_cons.1 h with h | h
        · subst h; exact absurd rfl e
        · exact h
theorem timeOf_none {id : Nat} {l : List En} : timeOf id l = none ↔ ∀ y ∈ l, y.1 ≠ id := by
  unfold timeOf
  rw [Option.map_eq_none_iff, List.find?_eq_none]
  simp
/-- Whose time has come; the others. -/
def dueE (now : Int) (l : List En) : List En := l.takeWhile (fun e => decide (e.2 ≤ now))
def restE (now : Int) (l : List En) : List En := l.dropWhile (fun e => decide (e.2 ≤ now))
/-- Two sorted lists with the same members are one. -/
theorem sort_ext : ∀ {a b : List En}, SortE a → SortE b → a.Perm b → a = b
  | [], b, _, _, h => by have := h.length_eq; simp at this; exact (List.eq_nil_of_length_eq_zero this.symm).symm
  | x :: a, b, ha, hb, h => by
    obtain ⟨a1, a2⟩ := List.pairwise_cons.1 ha
    rcases b with _ | ⟨y, b⟩
    · have := h.length_eq; simp at this
    · obtain ⟨b1, b2⟩ := List.pairwise_cons.1 hb
      have hxy : x = y := by
        rcases List.mem_cons.1 (h.mem_iff.1 List.mem_cons_self) with e | hx
        · exact e
        · rcases List.mem_cons.1 (h.mem_iff.2 (List.mem_cons_self (a := y))) with e | hy
          · exact e.symm
          · have h1 := ltE_as (b1 x hx)
            rw [a1 y hy] at h1
            cases h1
      subst hxy
      rw [sort_ext a2 b2 ((List.perm_cons x).1 h)]
end Go.Proofs.Ytfmfamnngfanfaa
