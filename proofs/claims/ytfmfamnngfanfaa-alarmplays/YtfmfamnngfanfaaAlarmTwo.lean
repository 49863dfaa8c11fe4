/-
  FACTS of sorted lists of sleepers; two alarms side by side.
  No statement is proved here.
-/
import Derived.Test.YtfmfamnngfanfaaAlarmActs
import Derived.Test.YtfmfamnngfanfaaLawANil
namespace Go.Proofs.Ytfmfamnngfanfaa
open Go.RowKit Go.Sort

theorem without_perm {id : Nat} {l l' : List En} (h : l.Perm l') : (without id l).Perm (without id l') := h.filter _
theorem without_comm (a b : Nat) (l : List En) : without a (without b l) = without b (without a l) := by
  unfold without
  rw [List.filter_filter, List.filter_filter]
  congr 1
  funext e
  exact Bool.and_comm _ _
theorem without_idem (a : Nat) (l : List En) : without a (without a l) = without a l := by
  unfold without
  rw [List.filter_filter]
  congr 1
  funext e
  exact Bool.and_self _
theorem without_cons_ne {a b : Nat} {t : Int} {l : List En} (h : b ≠ a) : without a ((b, t) :: l) = (b, t) :: without a l := by
  unfold without
  rw [List.filter_cons_of_pos (by simpa using h)]
theorem without_cons_eq {a : Nat} {t : Int} {l : List En} : without a ((a, t) :: l) = without a l := by
  unfold without
  rw [List.filter_cons_of_neg (by simp)]
theorem without_set {id x : Nat} {t : Int} {l : List En} (h : Ord l) (hx : x ≠ id) : without id (setE x t l) = setE x t (without id l) := by
  refine sort_ext (without_ord (setE_ord h)).sort (setE_ord (without_ord h)).sort ?_
  refine (without_perm (ins_perm _ _)).trans ?_
  rw [without_cons_ne hx, without_comm]
  exact (ins_perm _ _).symm
theorem without_set_same {id : Nat} {t : Int} {l : List En} (h : Ord l) : without id (setE id t l) = without id l := by
  refine sort_ext (without_ord (setE_ord h)).sort (without_ord h).sort ?_
  refine (without_perm (ins_perm _ _)).trans ?_
  rw [without_cons_eq, without_idem]
theorem setE_len (id : Nat) (t : Int) (l : List En) : (setE id t l).length = (without id l).length + 1 := by
  unfold setE
  rw [(ins_perm _ _).length_eq]
  rfl
theorem without_len (id : Nat) (l : List En) : (without id l).length ≤ l.length := List.length_filter_le _ _
theorem setE_le (id : Nat) (t : Int) (l : List En) : (setE id t l).length ≤ l.length + 1 := by
  have := setE_len id t l
  have := without_len id l
  omega
theorem setE_mem {id : Nat} {t : Int} {l : List En} {e : En} : e ∈ setE id t l ↔ e = (id, t) ∨ (e ∈ l ∧ e.1 ≠ id) := by
  unfold setE
  rw [ins_mem, without_mem]
theorem timeOf_set {id : Nat} {t : Int} {l : List En} (h : Ord l) : timeOf id (setE id t l) = some t := (timeOf_mem (setE_ord h).nd).2 (setE_mem.2 (.inl rfl))
def Late (l : List En) : Prop := ∀ e ∈ l, e.2 ≤ 9223372036854775807
theorem Late.set {id : Nat} {t : Int} {l : List En} (h : Late l) (ht : t ≤ 9223372036854775807) : Late (setE id t l) := fun e he => by
  rcases setE_mem.1 he with rfl | ⟨he, _⟩
  · exact ht
  · exact h e he
theorem Late.without {id : Nat} {l : List En} (h : Late l) : Late (without id l) := fun e he => h e (without_mem.1 he).1
theorem Late.due {l : List En} (h : Late l) : dueE 9223372036854775807 l = l ∧ restE 9223372036854775807 l = [] := by
  have h1 := due_app (now := 9223372036854775807) (done := l) (rest := []) h
  rw [List.append_nil] at h1
  simpa [dueE, restE] using h1
/-- Two alarms, apart. -/
structure Two (w wr : World) (B1 B2 a b : Nat) (Sa Sb : Nat → Prop) (la lb : List En) : Prop where
  bel : RowKit.Below w.heap.size w wr
  ha : Al wr Sa B1 a la
  hb : Al wr Sb B2 b lb
  dis : ∀ k, Sa k → ¬ Sb k
  b1 : w.heap.size ≤ B1
  b2 : w.heap.size ≤ B2
  oa : Ord la
  ob : Ord lb
  ta : Late la
  tb : Late lb
section
variable {w wr w2 : World} {B1 B2 a b : Nat} {Sa Sb Sa' : Nat → Prop} {la lb : List En}
theorem Two.swap (h : Two w wr B1 B2 a b Sa Sb la lb) : Two w wr B2 B1 b a Sb Sa lb la := ⟨h.bel, h.hb, h.ha, fun k hk hs => h.dis k hs hk, h.b2, h.b1, h.ob, h.oa, h.tb, h.ta⟩
theorem Two.below (h : Two w wr B1 B2 a b Sa Sb la lb) (hb : RowKit.Below wr.heap.size wr w2) : Two w w2 B1 B2 a b Sa Sb la lb :=
  ⟨h.bel.trans (hb.mono h.bel.size), h.ha.below hb, h.hb.below hb, h.dis, h.b1, h.b2, h.oa, h.ob, h.ta, h.tb⟩
theorem Two.set {id : Nat} {t : Int} (h : Two w wr B1 B2 a b Sa Sb la lb) (ht : t ≤ 9223372036854775807) (h2 : Al w2 Sa' B1 a (setE id t la)) (ho : Only Sa wr w2) (hs : ∀ k, Sa' k → Sa k ∨ wr.heap.size ≤ k) : Two w w2 B1 B2 a b Sa' Sb (setE id t la) lb :=
  ⟨h.bel.trans (ho.toBelow (fun k hk => Nat.le_trans h.b1 (h.ha.sl k hk).1) h.bel.size), h2, h.hb.only ho (fun k _ hk => h.dis k hk), fun k hk hb => by
    rcases hs k hk with hk | hk
    · exact h.dis k hk hb
    · have := (h.hb.sl k hb).2; omega, h.b1, h.b2, setE_ord h.oa, h.ob, h.ta.set ht, h.tb⟩
end
end Go.Proofs.Ytfmfamnngfanfaa
