/-
  WHO GOES, as mathematics: classes with what is left of each; who is best; a run to its end. And lines of a heap that stand for such classes.
  No statement is proved here.
-/
import Derived.Test.YtfmfamnngfanfaaSharePush
namespace Go.Proofs.Ytfmfamnngfanfaa
open Go.RowKit Go.Sort

/-- A class: the place of its oldest, the sizes from it on. -/
abbrev Cs := Nat × List Int
def cexc (cap : Int) (W : List Int) (k : Nat) (S : List Int) : Int := excW cap W (k : Int) (isum S)
/-- Class k has the greatest excess of all that have one left; it is the least of them. -/
structure Best (cap : Int) (W : List Int) (st : List Cs) (k : Nat) : Prop where
  here : ∃ p S, st[k]? = some (p, S) ∧ S ≠ []
  best : ∀ p S, st[k]? = some (p, S) → ∀ j q T, st[j]? = some (q, T) → T ≠ [] → cexc cap W j T < cexc cap W k S ∨ (cexc cap W j T = cexc cap W k S ∧ k ≤ j)
theorem Best.uniq {cap : Int} {W : List Int} {st : List Cs} {k j : Nat} (h : Best cap W st k) (g : Best cap W st j) : k = j := by
  obtain ⟨p, S, h1, h2⟩ := h.here
  obtain ⟨q, T, g1, g2⟩ := g.here
  have a := h.best p S h1 j q T g1 g2
  have b := g.best q T g1 k p S h1 h2
  omega
/-- From these classes on, while there is so much too much, just these go, one behind the other. -/
inductive Goes (cap : Int) (W : List Int) : List Cs → Int → List (Nat × Nat) → Prop
  | done {st : List Cs} {o : Int} : o ≤ 0 → Goes cap W st o []
  | step {st : List Cs} {o s : Int} {k p : Nat} {T : List Int} {out : List (Nat × Nat)} : 0 < o → Best cap W st k → st[k]? = some (p, s :: T) → Goes cap W (st.set k (p + 1, T)) (o - s) out → Goes cap W st o ((k, p) :: out)
theorem Goes.uniq {cap : Int} {W : List Int} {st : List Cs} {o : Int} {a b : List (Nat × Nat)} (h : Goes cap W st o a) (g : Goes cap W st o b) : a = b := by
  induction h generalizing b with
  | done h0 =>
    cases g with
    | done _ => rfl
    | step g0 _ _ _ => omega
  | step h0 h1 h2 _ ih =>
    cases g with
    | done g0 => omega
    | step g0 g1 g2 g3 =>
      have e := h1.uniq g1
      subst e
      rw [h2] at g2
      injection g2 with g2
      injection g2 with e1 e2
      injection e2 with e2 e3
      subst e1 e2 e3
      rw [ih g3]

/-- A line that stands for what is left of its class. -/
structure LineFor (w : World) (base : Nat) (cap : Int) (W : List Int) (sb : Option Nat) (x : Ln) (S : List Int) : Prop where
  ne : S ≠ []
  is : Is w w.heap.size x.A x.n x.c S
  byt : x.byt = isum S
  exc : x.exc = cexc cap W x.cls S
  inn : ∀ b o, x.A = some ⟨b, o, none⟩ → b < base ∨ some b = sb
structure Lines (w : World) (base : Nat) (cap : Int) (W : List Int) (sb : Option Nat) (st : List Cs) (L : List Ln) : Prop where
  one : ∀ x ∈ L, ∃ S, st[x.cls]? = some (x.plc, S) ∧ LineFor w base cap W sb x S
  all : ∀ k p S, st[k]? = some (p, S) → S ≠ [] → ∃ x ∈ L, x.cls = k
  nd : (L.map (·.cls)).Nodup
section
variable {w w' : World} {base : Nat} {cap : Int} {W : List Int} {sb : Option Nat} {st : List Cs} {L L' : List Ln} {x : Ln} {S : List Int}
theorem Lines.perm (h : Lines w base cap W sb st L) (hp : L'.Perm L) : Lines w base cap W sb st L' :=
  ⟨fun x hx => h.one x (hp.mem_iff.1 hx), fun k p S h1 h2 => by obtain ⟨x, hx, e⟩ := h.all k p S h1 h2; exact ⟨x, hp.mem_iff.2 hx, e⟩, ((hp.map (·.cls)).nodup_iff).2 h.nd⟩
theorem Is.only {A : Option Addr} {n c : Nat} {Q : Nat → Prop} (h : Is w w.heap.size A n c S) (ho : Only Q w w') (hq : ∀ b o, A = some ⟨b, o, none⟩ → b < w.heap.size → ¬ Q b) : Is w' w'.heap.size A n c S :=
  ⟨⟨h.sn.len, h.sn.le, h.sn.max, fun hn => by
    obtain ⟨b, o, e, hb, hc⟩ := h.sn.cell hn
    exact ⟨b, o, e, Nat.lt_of_lt_of_le hb ho.size, fun j y hy => (World.cell?_of_block (a := ⟨b, o + j, none⟩) (ho.block b hb (hq b o e hb))).trans (hc j y hy)⟩⟩, h.rng⟩
theorem LineFor.only {Q : Nat → Prop} (h : LineFor w base cap W sb x S) (ho : Only Q w w') (hq : ∀ b, b < w.heap.size → Q b → base ≤ b ∧ some b ≠ sb) : LineFor w' base cap W sb x S :=
  ⟨h.ne, h.is.only ho (fun b o e hb hQ => by have := hq b hb hQ; rcases h.inn b o e with h1 | h1; omega; exact this.2 h1), h.byt, h.exc, h.inn⟩
theorem Lines.only {Q : Nat → Prop} (h : Lines w base cap W sb st L) (ho : Only Q w w') (hq : ∀ b, b < w.heap.size → Q b → base ≤ b ∧ some b ≠ sb) : Lines w' base cap W sb st L :=
  ⟨fun x hx => by obtain ⟨S, h1, h2⟩ := h.one x hx; exact ⟨S, h1, h2.only ho hq⟩, h.all, h.nd⟩
theorem Lines.none_ (w : World) (base : Nat) (cap : Int) (W : List Int) (sb : Option Nat) : Lines w base cap W sb [] [] := ⟨fun x hx => (by cases hx), fun k p S h => (by simp at h), List.nodup_nil⟩
theorem Lines.lt (h : Lines w base cap W sb st L) : ∀ y ∈ L, y.cls < st.length := fun y hy => by
  obtain ⟨S, h1, _⟩ := h.one y hy
  exact (List.getElem?_eq_some_iff.1 h1).1
/-- A new class comes, with none. -/
theorem Lines.skip (h : Lines w base cap W sb st L) : Lines w base cap W sb (st ++ [(0, [])]) L := by
  refine ⟨fun y hy => ?_, fun k p S h1 h2 => ?_, h.nd⟩
  · obtain ⟨S, h1, h2⟩ := h.one y hy
    exact ⟨S, by rw [List.getElem?_append_left (h.lt y hy)]; exact h1, h2⟩
  · rcases Nat.lt_trichotomy k st.length with hk | hk | hk
    · rw [List.getElem?_append_left hk] at h1; exact h.all k p S h1 h2
    · subst hk; simp at h1; exact absurd h1.2 h2
    · rw [List.getElem?_eq_none (by simp; omega)] at h1; cases h1
/-- A new class comes, with some. -/
theorem Lines.come (h : Lines w base cap W sb st L) (hx : LineFor w base cap W sb x S) (hc : x.cls = st.length) (hp : x.plc = 0) : Lines w base cap W sb (st ++ [(0, S)]) (x :: L) := by
  refine ⟨fun y hy => ?_, fun k p T h1 h2 => ?_, ?_⟩
  · rcases List.mem_cons.1 hy with rfl | hy
    · exact ⟨S, by rw [hc, hp]; simp, hx⟩
    · obtain ⟨S, h1, h2⟩ := h.one y hy
      exact ⟨S, by rw [List.getElem?_append_left (h.lt y hy)]; exact h1, h2⟩
  · rcases Nat.lt_trichotomy k st.length with hk | hk | hk
    · rw [List.getElem?_append_left hk] at h1
      obtain ⟨y, hy, e⟩ := h.all k p T h1 h2
      exact ⟨y, List.mem_cons_of_mem _ hy, e⟩
    · exact ⟨x, List.mem_cons_self, by omega⟩
    · rw [List.getElem?_eq_none (by simp; omega)] at h1; cases h1
  · rw [List.map_cons, List.nodup_cons]
    refine ⟨fun hm => ?_, h.nd⟩
    obtain ⟨y, hy, e⟩ := List.mem_map.1 hm
    have := h.lt y hy
    omega
/-- One goes; none of its class is left. -/
theorem Lines.gone (h : Lines w base cap W sb st (x :: L)) (p : Nat) : Lines w base cap W sb (st.set x.cls (p, [])) L := by
  have hnd := h.nd
  rw [List.map_cons, List.nodup_cons] at hnd
  refine ⟨fun y hy => ?_, fun k q T h1 h2 => ?_, hnd.2⟩
  · obtain ⟨S, h1, h2⟩ := h.one y (List.mem_cons_of_mem _ hy)
    refine ⟨S, ?_, h2⟩
    rw [List.getElem?_set_ne (fun e => hnd.1 (by rw [e]; exact List.mem_map.2 ⟨y, hy, rfl⟩))]
    exact h1
  · by_cases e : x.cls = k
    · subst e
      rw [List.getElem?_set_self (h.lt x List.mem_cons_self)] at h1
      injection h1 with h1
      injection h1 with _ h1
      exact absurd h1.symm h2
    · rw [List.getElem?_set_ne e] at h1
      obtain ⟨y, hy, e2⟩ := h.all k q T h1 h2
      rcases List.mem_cons.1 hy with rfl | hy
      · exact absurd e2 e
      · exact ⟨y, hy, e2⟩
/-- One goes; some of its class are left. -/
theorem Lines.back {y : Ln} (h : Lines w base cap W sb st (x :: L)) (hy : LineFor w base cap W sb y S) (hc : y.cls = x.cls) : Lines w base cap W sb (st.set x.cls (y.plc, S)) (y :: L) := by
  have hnd := h.nd
  rw [List.map_cons, List.nodup_cons] at hnd
  refine ⟨fun z hz => ?_, fun k q T h1 h2 => ?_, ?_⟩
  · rcases List.mem_cons.1 hz with rfl | hz
    · exact ⟨S, by rw [hc, List.getElem?_set_self (h.lt x List.mem_cons_self)], hy⟩
    · obtain ⟨S, h1, h2⟩ := h.one z (List.mem_cons_of_mem _ hz)
      refine ⟨S, ?_, h2⟩
      rw [List.getElem?_set_ne (fun e => hnd.1 (by rw [e]; exact List.mem_map.2 ⟨z, hz, rfl⟩))]
      exact h1
  · by_cases e : x.cls = k
    · exact ⟨y, List.mem_cons_self, by omega⟩
    · rw [List.getElem?_set_ne e] at h1
      obtain ⟨z, hz, e2⟩ := h.all k q T h1 h2
      rcases List.mem_cons.1 hz with rfl | hz
      · exact absurd e2 e
      · exact ⟨z, List.mem_cons_of_mem _ hz, e2⟩
  · rw [List.map_cons, List.nodup_cons, hc]
    exact hnd
/-- Who is on top is best. -/
theorem Lines.best (h : Lines w base cap W sb st L) (hx : x ∈ L) (ht : ∀ y ∈ L, lessL y x = false) : Best cap W st x.cls := by
  obtain ⟨S, h1, h2⟩ := h.one x hx
  refine ⟨⟨x.plc, S, h1, h2.ne⟩, fun p T g1 j q U k1 k2 => ?_⟩
  rw [h1] at g1
  injection g1 with g1
  injection g1 with e1 e2
  subst e1 e2
  obtain ⟨y, hy, e⟩ := h.all j q U k1 k2
  obtain ⟨V, m1, m2⟩ := h.one y hy
  rw [e, k1] at m1
  injection m1 with m1
  injection m1 with e3 e4
  subst e3 e4
  have hl := ht y hy
  unfold lessL at hl
  simp only [Bool.or_eq_false_iff, Bool.and_eq_false_iff, decide_eq_false_iff_not] at hl
  have a1 := h2.exc
  have a2 := m2.exc
  rw [e] at a2
  rw [← a1, ← a2]
  omega
end
end Go.Proofs.Ytfmfamnngfanfaa
