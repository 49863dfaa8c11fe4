/-
  MATHEMATICS of frames: two that may be have the same bytes just if they are alike.
  No statement is proved here.
-/
import Derived.Test.YtlkcnpmgafckoaaDoorFrameEncode
namespace Go.Proofs.YtlkcnpmgafckoaaDoor
open Go.RowKit

theorem it_eq' {a b : It} : a = b ↔ a.N = b.N ∧ a.C = b.C ∧ a.b = b.b := by
  cases a; cases b; simp
theorem fm_eq' {a b : Fm} : a = b ↔ a.kd = b.kd ∧ a.ag = b.ag ∧ a.ep = b.ep ∧ a.ic = b.ic ∧ a.ba = b.ba ∧ a.cu = b.cu ∧ a.li = b.li ∧ a.L = b.L ∧ a.its = b.its := by
  cases a; cases b; simp
structure Fm.Ok (m : Fm) : Prop where
  ep : m.ep < two64
  ic : m.ic < two64
  ba : m.ba < two64
  cu : m.cu < two64
  li : m.li < two64
  L : ∀ q ∈ m.L, q.1 < two64 ∧ q.2 < two64
  its : ∀ x ∈ m.its, x.N < two64
theorem FrAt.ok {w : World} {f : Fv} (h : FrAt w f) : f.m.Ok := ⟨h.ep, h.ic, h.ba, h.cu, h.li, h.rs.lt, fun x hx => by
  obtain ⟨k, hk, rfl⟩ := List.mem_map.1 hx
  exact (h.it.sl k hk).2⟩
theorem num_inj {n n' : Nat} {t t' : List UInt8} (h : n < two64) (h' : n' < two64) (e : num n ++ t = num n' ++ t') : n = n' ∧ t = t' := by
  have h1 := stNum_num n t h
  have h2 := stNum_num n' t' h'
  rw [e, h2] at h1
  simp only [Prod.mk.injEq] at h1
  exact ⟨h1.1.symm, h1.2.1.symm⟩
theorem numsB_cons (x : Nat) (xs : List Nat) (t : List UInt8) : numsB (x :: xs) ++ t = num x ++ (numsB xs ++ t) := by unfold numsB; rw [List.flatMap_cons, List.append_assoc]
theorem numsB_nil (t : List UInt8) : numsB [] ++ t = t := rfl
theorem runsB_cons (r : Rn) (L : List Rn) (t : List UInt8) : runsB (r :: L) ++ t = num r.1 ++ (num r.2 ++ (runsB L ++ t)) := by
  unfold runsB
  rw [List.flatMap_cons, List.append_assoc, numsB_cons, numsB_cons, numsB_nil]
theorem runsB_inj : ∀ (L L' : List Rn) (t t' : List UInt8), L.length = L'.length → (∀ q ∈ L, q.1 < two64 ∧ q.2 < two64) → (∀ q ∈ L', q.1 < two64 ∧ q.2 < two64) → runsB L ++ t = runsB L' ++ t' → L = L' ∧ t = t'
  | [], [], t, t', _, _, _, e => ⟨rfl, e⟩
  | [], r :: L', _, _, hl, _, _, _ => by simp at hl
  | r :: L, [], _, _, hl, _, _, _ => by simp at hl
  | r :: L, r' :: L', t, t', hl, h, h', e => by
    rw [runsB_cons, runsB_cons] at e
    have b := h r List.mem_cons_self
    have b' := h' r' List.mem_cons_self
    obtain ⟨e1, e⟩ := num_inj b.1 b'.1 e
    obtain ⟨e2, e⟩ := num_inj b.2 b'.2 e
    obtain ⟨e3, e4⟩ := runsB_inj L L' t t' (by simpa using hl) (fun q hq => h q (List.mem_cons_of_mem _ hq)) (fun q hq => h' q (List.mem_cons_of_mem _ hq)) e
    refine ⟨?_, e4⟩
    rw [e3]
    congr 1
    exact Prod.ext e1 e2
theorem itsB_cons (x : It) (xs : List It) (t : List UInt8) : itsB (x :: xs) ++ t = itemB x.N x.C x.b ++ (itsB xs ++ t) := by
  unfold itsB
  rw [List.flatMap_cons, List.append_assoc]
  rfl
theorem itsB_inj : ∀ (xs ys : List It) (t t' : List UInt8), xs.length = ys.length → (∀ x ∈ xs, x.ok) → (∀ x ∈ ys, x.ok) → itsB xs ++ t = itsB ys ++ t' → xs = ys ∧ t = t'
  | [], [], t, t', _, _, _, e => ⟨rfl, e⟩
  | [], y :: ys, _, _, hl, _, _, _ => by simp at hl
  | x :: xs, [], _, _, hl, _, _, _ => by simp at hl
  | x :: xs, y :: ys, t, t', hl, h, h', e => by
    rw [itsB_cons, itsB_cons] at e
    have b := h x List.mem_cons_self
    have b' := h' y List.mem_cons_self
    have h1 := stItem_put (t := itsB xs ++ t) b.1 b.2
    have h2 := stItem_put (t := itsB ys ++ t') b'.1 b'.2
    rw [e, h2] at h1
    simp only [Prod.mk.injEq] at h1
    obtain ⟨e1, e2, e3, e4, _⟩ := h1
    obtain ⟨e5, e6⟩ := itsB_inj xs ys t t' (by simpa using hl) (fun q hq => h q (List.mem_cons_of_mem _ hq)) (fun q hq => h' q (List.mem_cons_of_mem _ hq)) e4.symm
    have c := b.2
    have c' := b'.2
    unfold rightB at c c'
    simp at c c'
    refine ⟨?_, e6⟩
    rw [e5]
    congr 1
    exact it_eq'.2 ⟨e1.symm, by omega, e3.symm⟩
theorem closed_inj {p q : List UInt8} (e : closed p = closed q) : p = q := by
  have h1 := opn_closed p
  rw [e, opn_closed q] at h1
  exact (congrArg Prod.fst h1).symm
theorem kind_inj {a b : Nat} (ha : a < 256) (hb : b < 256) (e : UInt8.ofNat a = UInt8.ofNat b) : a = b := by
  have := congrArg UInt8.toNat e
  simp at this
  omega
theorem right_items {m : Fm} (hr : BatchP m) (ho : m.Ok) : ∀ x ∈ m.its, x.ok := fun x hx => by
  obtain ⟨j, hj, rfl⟩ := List.getElem_of_mem hx
  exact ⟨ho.its _ hx, (hr.2.2.2 j _ (List.getElem?_eq_getElem hj)).1⟩
theorem enc_inj {a b : Fm} (ha : RightP a) (hb : RightP b) (oa : a.Ok) (ob : b.Ok) (e : encB a = encB b) : a = b := by
  have e := closed_inj e
  unfold innerB at e
  rw [List.append_assoc, List.append_assoc, List.singleton_append, List.singleton_append, List.cons.injEq] at e
  obtain ⟨e0, e⟩ := e
  have ka : a.kd = 1 ∨ a.kd = 2 ∨ a.kd = 3 ∨ a.kd = 4 := by rcases ha.2.2.2 with h | h | h <;> omega
  have kb : b.kd = 1 ∨ b.kd = 2 ∨ b.kd = 3 ∨ b.kd = 4 := by rcases hb.2.2.2 with h | h | h <;> omega
  have k0 := kind_inj (by omega) (by omega) e0
  rw [numsB_cons, numsB_cons, numsB_cons, numsB_cons, numsB_nil, numsB_nil] at e
  have t16 : ∀ z : Int, 0 ≤ z → z < 16 → z.toNat < two64 := fun z h1 h2 => by unfold two64; omega
  obtain ⟨e1, e⟩ := num_inj (t16 _ ha.1 ha.2.1) (t16 _ hb.1 hb.2.1) e
  obtain ⟨e2, e⟩ := num_inj oa.ep ob.ep e
  have e1' : a.ag = b.ag := by have := ha.1; have := hb.1; omega
  have eq : ∀ t : List UInt8, t = t ++ [] := fun t => (List.append_nil t).symm
  unfold tailB at e
  rcases ha.2.2.2 with ⟨k1, p⟩ | ⟨k1, p⟩ | ⟨k1, p⟩ <;> rcases hb.2.2.2 with ⟨k2, q⟩ | ⟨k2, q⟩ | ⟨k2, q⟩
  all_goals try (exfalso; omega)
  · rw [if_pos k1, if_pos k2] at e
    unfold helloB at e
    rw [eq (numsB [a.ba]), eq (numsB [b.ba]), numsB_cons, numsB_cons] at e
    obtain ⟨e3, _⟩ := num_inj oa.ba ob.ba e
    obtain ⟨_, p2, p3, p4, p5, p6⟩ := p
    obtain ⟨_, q2, q3, q4, q5, q6⟩ := q
    exact fm_eq'.2 ⟨k0, e1', e2, by omega, e3, by omega, by omega, by rw [p6, q6], by rw [p3, q3]⟩
  · rw [if_neg (by omega), if_neg (by omega), if_neg (by omega), if_neg (by omega)] at e
    unfold answerB at e
    rw [numsB_cons, numsB_cons, numsB_cons, numsB_cons, numsB_cons, numsB_cons, numsB_cons, numsB_cons, numsB_nil, numsB_nil] at e
    have la : a.L.length < two64 := by
      rcases p.2.2.2 with h | h
      · rw [h]; unfold two64; simp
      · have := h.1; unfold two64; omega
    have lb : b.L.length < two64 := by
      rcases q.2.2.2 with h | h
      · rw [h]; unfold two64; simp
      · have := h.1; unfold two64; omega
    obtain ⟨e3, e⟩ := num_inj oa.ic ob.ic e
    obtain ⟨e4, e⟩ := num_inj oa.cu ob.cu e
    obtain ⟨e5, e⟩ := num_inj oa.li ob.li e
    obtain ⟨e6, e⟩ := num_inj la lb e
    rw [eq (runsB a.L), eq (runsB b.L)] at e
    obtain ⟨e7, _⟩ := runsB_inj _ _ _ _ e6 oa.L ob.L e
    obtain ⟨p1, p2, _, _⟩ := p
    obtain ⟨q1, q2, _, _⟩ := q
    exact fm_eq'.2 ⟨k0, e1', e2, e3, by omega, e4, e5, e7, by rw [p2, q2]⟩
  · rw [if_neg (show ¬ a.kd = 1 by omega), if_pos k1, if_neg (show ¬ b.kd = 1 by omega), if_pos k2] at e
    unfold batchB at e
    rw [numsB_cons, numsB_cons, numsB_cons, numsB_cons, numsB_cons, numsB_cons, numsB_nil, numsB_nil] at e
    have la : a.its.length < two64 := by have := p.2.2.1; unfold two64; omega
    have lb : b.its.length < two64 := by have := q.2.2.1; unfold two64; omega
    obtain ⟨e3, e⟩ := num_inj oa.ic ob.ic e
    obtain ⟨e4, e⟩ := num_inj oa.ba ob.ba e
    obtain ⟨e6, e⟩ := num_inj la lb e
    rw [eq (itsB a.its), eq (itsB b.its)] at e
    obtain ⟨e7, _⟩ := itsB_inj _ _ _ _ e6 (right_items p oa) (right_items q ob) e
    obtain ⟨_, ⟨p1, p2, p3⟩, _⟩ := p
    obtain ⟨_, ⟨q1, q2, q3⟩, _⟩ := q
    exact fm_eq'.2 ⟨k0, e1', e2, e3, e4, by omega, by omega, by rw [p3, q3], e7⟩
end Go.Proofs.YtlkcnpmgafckoaaDoor
