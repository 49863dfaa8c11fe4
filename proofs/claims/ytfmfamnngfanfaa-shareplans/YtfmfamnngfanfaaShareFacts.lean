/-
  FACTS of who goes: only who has more than his share; no more than must.
  No statement is proved here.
-/
import Derived.Test.YtfmfamnngfanfaaShareBig
namespace Go.Proofs.Ytfmfamnngfanfaa
open Go.RowKit Go.Sort

theorem qcnt_few {R : List Ic} (h : ∀ x ∈ R, x.n ≤ 30) : qcnt R ≤ 30 * R.length := by
  induction R with
  | nil => simp [qcnt]
  | cons x R ih =>
    have a := ih (fun y hy => h y (List.mem_cons_of_mem _ hy))
    have b := h x List.mem_cons_self
    simp only [qcnt, List.length_cons]
    omega
theorem Made.asks {w w' : World} {U : List Nat} {room : Int} {A Aq : Option Addr} {n c nq cq cls sz : Nat} {R : List Ic} (m : Made w U room A n c Aq nq cq R cls sz w') : Asks w' room A n c (wOf U) Aq nq cq R cls sz := by
  have h8 := (right_facts (wOf_right U)).2.1
  have hl := m.wi.len
  have hq := m.qi.len
  have hc := qcnt_few (fun x hx => (m.each x hx).2)
  have hln := m.len
  have hsz := m.szLt
  have hr := m.roomIn
  refine ⟨m.wi, m.qi, wOf_right U, m.len, m.clsLt, by omega, by omega, ?_, by omega⟩
  unfold bndQ
  simp only [Bool.and_eq_true, List.all_eq_true, decide_eq_true_eq]
  refine ⟨fun x hx s hs => ?_, by omega⟩
  have := (m.each x hx).1 s hs
  unfold okS
  simp
  omega
/-- What goes with each state of a plan. -/
structure Fit (cap : Int) (W : List Int) (st : List Cs) (o : Int) : Prop where
  rw_ : rightW W = true
  len : st.length = W.length
  ok : StOk st
  ov : o = ssum st - cap
  cap0 : 0 ≤ cap
theorem Fit.step {cap : Int} {W : List Int} {st : List Cs} {o s : Int} {k p : Nat} {T : List Int} (h : Fit cap W st o) (hk : st[k]? = some (p, s :: T)) : Fit cap W (st.set k (p + 1, T)) (o - s) :=
  ⟨h.rw_, by rw [List.length_set]; exact h.len, h.ok.set hk, by rw [ssum_set hk]; have := h.ov; omega, h.cap0⟩
theorem cexc_is {cap : Int} {W : List Int} {k : Nat} {x : Int} {S : List Int} (h : rightW W = true) (hx : W[k]? = some x) : cexc cap W k S = isum S * isum W - cap * x := by
  have hl := (List.getElem?_eq_some_iff.1 hx).1
  unfold cexc excW
  rw [if_pos ⟨h, by omega, by omega⟩]
  simp [hx]
theorem ssum_take {st : List Cs} {k : Nat} {x : Cs} (h : st[k]? = some x) : ssum (st.take (k + 1)) = ssum (st.take k) + isum x.2 := by
  rw [List.take_add_one, h, ssum_app]
  simp [ssum, isum]
theorem no_more {cap : Int} {W : List Int} {st : List Cs} (hr : rightW W = true) (hl : st.length = W.length) (h : ∀ (j : Nat) (q : Nat) (T : List Int), st[j]? = some (q, T) → cexc cap W j T ≤ 0) : ∀ k, k ≤ st.length → ssum (st.take k) * isum W ≤ cap * isum (W.take k)
  | 0, _ => by simp [ssum, isum]
  | k + 1, hk => by
    have ih := no_more hr hl h k (by omega)
    have h1 : st[k]? = some st[k] := List.getElem?_eq_getElem (by omega)
    have h2 : W[k]? = some W[k] := List.getElem?_eq_getElem (by omega)
    have h3 := h k st[k].1 st[k].2 h1
    rw [cexc_is hr h2] at h3
    rw [ssum_take h1, isum_take h2, Int.add_mul, Int.mul_add]
    omega
theorem Fit.some_more {cap : Int} {W : List Int} {st : List Cs} {o : Int} (h : Fit cap W st o) (ho : 0 < o) : ∃ (j q : Nat) (T : List Int), st[j]? = some (q, T) ∧ T ≠ [] ∧ 0 < cexc cap W j T := by
  have hf := right_facts h.rw_
  have hS : 1 ≤ isum W := by
    obtain ⟨h1, _, h3, h4, _⟩ := hf
    have hx : W[0]? = some W[0] := List.getElem?_eq_getElem (by omega)
    have a := isum_pre h4.nn 1
    have b := isum_take hx
    simp [isum] at b
    have c := h3 _ (List.mem_of_getElem? hx)
    have e : isum (W.take 1) = W[0] := by
      rcases W with _ | ⟨y, W⟩
      · simp at h1
      · simp [isum]
    omega
  apply Classical.byContradiction
  intro hno
  have hall : ∀ (j : Nat) (q : Nat) (T : List Int), st[j]? = some (q, T) → cexc cap W j T ≤ 0 := fun j q T hj => by
    apply Classical.byContradiction
    intro hp
    by_cases hT : T = []
    · subst hT
      obtain ⟨x, hx⟩ : ∃ x, W[j]? = some x := ⟨W[j]'(by have := (List.getElem?_eq_some_iff.1 hj).1; have := h.len; omega), List.getElem?_eq_getElem _⟩
      rw [cexc_is h.rw_ hx] at hp
      have e0 : isum ([] : List Int) = 0 := rfl
      rw [e0] at hp
      have := (hf.2.2.1 x (List.mem_of_getElem? hx)).1
      have := Int.mul_nonneg h.cap0 (show 0 ≤ x by omega)
      omega
    · exact hno ⟨j, q, T, hj, hT, by omega⟩
  have hn := no_more h.rw_ h.len hall st.length (Nat.le_refl _)
  rw [List.take_length, h.len, List.take_length] at hn
  have hov := h.ov
  have hm : (cap + 1) * isum W ≤ ssum st * isum W := Int.mul_le_mul_of_nonneg_right (by omega) (by omega)
  rw [Int.add_mul] at hm
  omega
theorem Best.pos {cap : Int} {W : List Int} {st : List Cs} {o : Int} {k p : Nat} {S : List Int} (hb : Best cap W st k) (h : Fit cap W st o) (ho : 0 < o) (hk : st[k]? = some (p, S)) : 0 < cexc cap W k S := by
  obtain ⟨j, q, T, h1, h2, h3⟩ := h.some_more ho
  have := hb.best p S hk j q T h1 h2
  omega
/-- Who has no more than his share gives none. -/
theorem Goes.calm {cap : Int} {W : List Int} {st : List Cs} {o : Int} {out : List (Nat × Nat)} (h : Goes cap W st o out) (hf : Fit cap W st o) (i : Nat) (hi : ∀ (q : Nat) (T : List Int), st[i]? = some (q, T) → cexc cap W i T ≤ 0) : ∀ v ∈ out, v.1 ≠ i := by
  induction h with
  | done _ => intro v hv; cases hv
  | @step st o s k p T out h0 hb hk hg ih =>
    have hpos := hb.pos hf h0 hk
    have hne : k ≠ i := fun e => by subst e; have := hi _ _ hk; omega
    intro v hv
    rcases List.mem_cons.1 hv with rfl | hv
    · exact hne
    · refine ih (hf.step hk) (fun q U hq => ?_) v hv
      rw [List.getElem?_set_ne hne] at hq
      exact hi q U hq
/-- If nobody has more than his share, nobody goes. -/
theorem Goes.none_ {cap : Int} {W : List Int} {st : List Cs} {o : Int} {out : List (Nat × Nat)} (h : Goes cap W st o out) (hf : Fit cap W st o) (hi : ∀ (i q : Nat) (T : List Int), st[i]? = some (q, T) → cexc cap W i T ≤ 0) : out = [] := by
  cases h with
  | done _ => rfl
  | step h0 hb hk _ =>
    have := hb.pos hf h0 hk
    have := hi _ _ _ hk
    omega
theorem stTo_at {Q : List Ic} {cls : Nat} {size : Int} : ∀ (n k : Nat), k < n → (stTo Q cls size n)[k]? = some (0, szs Q cls size k)
  | 0, k, h => by omega
  | n + 1, k, h => by
    rw [stTo]
    by_cases e : k = n
    · subst e
      rw [List.getElem?_append_right (by rw [stTo_len]; exact Nat.le_refl _), stTo_len]
      simp
    · rw [List.getElem?_append_left (by rw [stTo_len]; omega)]
      exact stTo_at n k (by omega)
theorem Asks.fit {w : World} {cap : Int} {Aw : Option Addr} {nw cw : Nat} {W : List Int} {Aq : Option Addr} {nq cq : Nat} {Q : List Ic} {cls : Nat} {size : Int} (h : Asks w cap Aw nw cw W Aq nq cq Q cls size) : Fit cap W (stTo Q cls size nq) (ssum (stTo Q cls size nq) - cap) :=
  ⟨h.rw_, by rw [stTo_len, h.wi.len, h.len], h.can.stOk, rfl, by have := h.cp; have := h.sz; omega⟩
end Go.Proofs.Ytfmfamnngfanfaa
