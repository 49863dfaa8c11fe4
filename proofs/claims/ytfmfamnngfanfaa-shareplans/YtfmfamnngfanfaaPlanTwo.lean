/-
  THE STATE of the reference's Plan, in its second loop; who is best so far.
  No statement is proved here.
-/
import Derived.Test.YtfmfamnngfanfaaPlanNo
import Derived.Test.YtfmfamnngfanfaaShareFacts
namespace Go.Proofs.Ytfmfamnngfanfaa
open Go.RowKit Go.Sort

def plcs (st : List Cs) : List Int := st.map fun x => (x.1 : Int)
/-- In the midst of the second loop. -/
structure R2 (w wr : World) (B0 : Nat) (lb nl cl : Nat) (cap : Int) (W : List Int) (st0 : List Cs) (o0 : Int) (st : List Cs) (out : List (Nat × Nat)) (Av : Option Addr) (nv cv : Nat) (R : List Ic) : Prop where
  bel : RowKit.Below w.heap.size w wr
  bx : Bx wr w.heap.size (some ⟨lb, 0, none⟩) nl cl R
  rl : R.map (·.L) = st.map (·.2)
  inb : ∀ x ∈ R, ∀ b o, x.A = some ⟨b, o, none⟩ → b < B0
  lbB : lb < B0
  wB : w.heap.size ≤ B0
  went : wr.ownsRow B0 3 1 (.slice (some ⟨B0, 0, none⟩) nl nl) nl (ivs (plcs st))
  own : wr.ownsRow (B0 + 1) 33 2 (.slice Av nv cv) nv (vvs out)
  ok : StOk st
  len : st.length = nl
  cnt : nv + slen st ≤ 1000000
  run : ∀ out2, Goes cap W st (ssum st - cap) out2 → Goes cap W st0 o0 (out ++ out2)
section
variable {w wr w9 : World} {B0 lb nl cl nv cv : Nat} {cap o0 : Int} {W : List Int} {st0 st : List Cs} {out : List (Nat × Nat)} {Av A9 : Option Addr} {R : List Ic}
theorem R2.below (h : R2 w wr B0 lb nl cl cap W st0 o0 st out Av nv cv R) (hb : RowKit.Below wr.heap.size wr w9) : R2 w w9 B0 lb nl cl cap W st0 o0 st out Av nv cv R :=
  ⟨h.bel.trans (hb.mono h.bel.size), h.bx.below hb, h.rl, h.inb, h.lbB, h.wB, own_same h.went (fun b e => hb.block b (h.went.lt b e).2), own_same h.own (fun b e => hb.block b (h.own.lt b e).2), h.ok, h.len, h.cnt, h.run⟩
theorem R2.at_ (h : R2 w wr B0 lb nl cl cap W st0 o0 st out Av nv cv R) {k : Nat} (hk : k < nl) : ∃ x p, R[k]? = some x ∧ st[k]? = some (p, x.L) ∧ wr.cell? ⟨lb, k, none⟩ = some (.slice x.A x.n x.c) ∧ Is wr wr.heap.size x.A x.n x.c x.L ∧ wr.cell? ⟨B0, k, none⟩ = some (.int .i64 (p : Int)) := by
  have hlen := h.bx.len
  have hr : R[k]? = some R[k] := List.getElem?_eq_getElem (by omega)
  have hsl : k < st.length := by have := h.len; omega
  have hs : st[k]? = some st[k] := List.getElem?_eq_getElem hsl
  have hl : R[k].L = st[k].2 := by
    have h1 := congrArg (·[k]?) h.rl
    simp only [List.getElem?_map, hr, hs, Option.map_some, Option.some.injEq] at h1
    exact h1
  refine ⟨R[k], st[k].1, hr, by rw [hs, hl], ?_, h.bx.each _ (List.getElem_mem _), ?_⟩
  · rw [h.bx.own.cellAt k (by omega)]
    simp [icvs, hr, icv]
  · rw [h.went.cellAt k (by omega)]
    simp [ivs, plcs, hs, iv]
/-- One goes. -/
theorem R2.step (h : R2 w wr B0 lb nl cl cap W st0 o0 st out Av nv cv R) {kb p c9 c' : Nat} {s : Int} {T : List Int} {x : Ic} {A' : Option Addr} {o : Obj} (hk : st[kb]? = some (p, s :: T)) (hbest : Best cap W st kb) (ho : 0 < ssum st - cap) (hx : R[kb]? = some x)
    (hown : w9.ownsRow (B0 + 1) 33 2 (.slice A9 (nv + 1) c9) (nv + 1) (vvs out ++ vvs [(kb, p)])) (hg : (wr.alloc o).grownBy w9 (if nv = cv then none else (Value.slice Av nv cv).ownBlock))
    (hA : ∀ b o, A' = some ⟨b, o, none⟩ → ∃ o0, x.A = some ⟨b, o0, none⟩) (hIs : Is wr wr.heap.size A' (x.n - 1) c' T) :
    R2 w ((w9.setCell ⟨B0, kb, none⟩ (.int .i64 ((p : Int) + 1))).setCell ⟨lb, kb, none⟩ (.slice A' (x.n - 1) c')) B0 lb nl cl cap W st0 o0 (st.set kb (p + 1, T)) (out ++ [(kb, p)]) A9 (nv + 1) c9 (R.set kb ⟨A', x.n - 1, c', T⟩) := by
  have hkl : kb < st.length := (List.getElem?_eq_some_iff.1 hk).1
  have hkR : kb < R.length := (List.getElem?_eq_some_iff.1 hx).1
  have hon : Only (fun k => B0 + 1 ≤ k) wr w9 := (Only.of_below (below_box wr o)).trans (Only.of_grown hg (S := fun k => B0 + 1 ≤ k) (fun k e => by split at e; cases e; exact (h.own.lt k e.symm).1)) (fun _ _ k => k)
  have hlt0 := (h.went.lt B0 rfl).2
  have hBx9 := h.bx.only hon (fun k e => by simp [Value.ownBlock] at e; have := h.lbB; omega) (fun y hy b o2 e => by have := h.inb y hy b o2 e; omega)
  have hIs9 := hIs.only hon (fun b o2 e _ => by obtain ⟨o3, e3⟩ := hA b o2 e; have := h.inb x (List.mem_of_getElem? hx) b o3 e3; omega)
  have hw9 := own_same h.went (w' := w9) (fun b e => by simp [Value.ownBlock] at e; subst e; exact hon.block _ hlt0 (by omega))
  have hs1 := hw9.stored kb (.int .i64 ((p : Int) + 1))
  have e1 : (ivs (plcs st)).set kb (.int .i64 ((p : Int) + 1)) = ivs (plcs (st.set kb (p + 1, T))) := by
    unfold ivs plcs
    rw [List.map_set, List.map_set]
    rfl
  rw [e1] at hs1
  have ho1 : Only (fun k => k = B0) w9 (w9.setCell ⟨B0, kb, none⟩ (.int .i64 ((p : Int) + 1))) := Only.setCell _ _ _ _
  have hBx1 := hBx9.only ho1 (fun k e => by simp [Value.ownBlock] at e; have := h.lbB; omega) (fun y hy b o2 e => by have := h.inb y hy b o2 e; omega)
  have hIs1 := hIs9.only ho1 (fun b o2 e _ => by obtain ⟨o3, e3⟩ := hA b o2 e; have := h.inb x (List.mem_of_getElem? hx) b o3 e3; omega)
  have hown1 := own_same hown (w' := w9.setCell ⟨B0, kb, none⟩ (.int .i64 ((p : Int) + 1))) (fun b e => ho1.block b (hown.lt b e).2 (by have := (hown.lt b e).1; omega))
  have hwent1 := hs1.1
  generalize w9.setCell ⟨B0, kb, none⟩ (.int .i64 ((p : Int) + 1)) = w1 at *
  have ho2 : Only (fun k => k = lb) w1 (w1.setCell ⟨lb, kb, none⟩ (.slice A' (x.n - 1) c')) := Only.setCell _ _ _ _
  have hs2 := hBx1.own.stored kb (.slice A' (x.n - 1) c')
  have e2 : (icvs R).set kb (.slice A' (x.n - 1) c') = icvs (R.set kb ⟨A', x.n - 1, c', T⟩) := by
    unfold icvs
    rw [List.map_set]
    rfl
  rw [e2] at hs2
  have hnl : ∀ b, (∃ y ∈ R, ∃ o2, y.A = some ⟨b, o2, none⟩) → b ≠ lb := fun b ⟨y, hy, o2, e⟩ e2 => by
    have := (hBx1.off y hy b o2 e).2
    exact this (by rw [e2]; rfl)
  have hall : ∀ y ∈ R.set kb ⟨A', x.n - 1, c', T⟩, Is w1 w1.heap.size y.A y.n y.c y.L ∧ ∀ b o2, y.A = some ⟨b, o2, none⟩ → ∃ z ∈ R, ∃ o3, z.A = some ⟨b, o3, none⟩ := fun y hy => by
    rcases List.mem_or_eq_of_mem_set hy with hy | rfl
    · exact ⟨hBx1.each y hy, fun b o2 e => ⟨y, hy, o2, e⟩⟩
    · exact ⟨hIs1, fun b o2 e => by obtain ⟨o3, e3⟩ := hA b o2 e; exact ⟨x, List.mem_of_getElem? hx, o3, e3⟩⟩
  have hsz := slen_set (q := p + 1) hk
  have hss := ssum_set (q := p + 1) hk
  refine ⟨h.bel.trans ⟨?_, ?_, ?_, ?_, fun k hk2 => ?_⟩, ⟨hs2.1, fun y hy => (hall y hy).1.only ho2 (fun b o2 e _ => hnl b ((hall y hy).2 b o2 e)), fun y hy b o2 e => ?_⟩, ?_, fun y hy b o2 e => ?_, h.lbB, h.wB, ?_, ?_, h.ok.set hk, by rw [List.length_set]; exact h.len, ?_, fun out2 hg2 => ?_⟩
  · exact ho2.os.trans (ho1.os.trans hon.os)
  · exact ho2.tape.trans (ho1.tape.trans hon.tape)
  · exact ho2.output.trans (ho1.output.trans hon.output)
  · exact Nat.le_trans hon.size (Nat.le_trans ho1.size ho2.size)
  · have h0 := h.wB
    have h1 := h.bx.own.lt lb rfl
    have h2 := hon.size
    have h3 := ho1.size
    exact (ho2.block k (by omega) (by omega)).trans ((ho1.block k (by omega) (by omega)).trans (hon.block k (by omega) (by omega)))
  · obtain ⟨z, hz, o3, e3⟩ := (hall y hy).2 b o2 e
    have h1 := hBx1.off z hz b o3 e3
    exact ⟨Nat.lt_of_lt_of_le h1.1 ho2.size, h1.2⟩
  · rw [List.map_set, List.map_set, h.rl]
  · obtain ⟨z, hz, o3, e3⟩ := (hall y hy).2 b o2 e
    exact h.inb z hz b o3 e3
  · exact own_same hwent1 (fun b e => by simp [Value.ownBlock] at e; subst e; exact ho2.block _ (hwent1.lt B0 rfl).2 (by have := h.lbB; omega))
  · rw [vvs_app]
    exact own_same hown1 (fun b e => ho2.block b (hown1.lt b e).2 (by have := (hown1.lt b e).1; have := h.lbB; omega))
  · have := h.cnt; omega
  · rw [hss] at hg2
    have e3 : ssum st - s - cap = ssum st - cap - s := by omega
    rw [e3] at hg2
    have := h.run ((kb, p) :: out2) (Goes.step ho hbest hk hg2)
    rw [List.append_assoc]
    exact this
end
/-- Who is best of the first k. -/
def BestTo (cap : Int) (W : List Int) (st : List Cs) (k : Nat) (b : Int) : Prop :=
  (b = -1 ∧ ∀ j q T, j < k → st[j]? = some (q, T) → T = []) ∨ ∃ (kb p0 : Nat) (S0 : List Int), b = (kb : Int) ∧ kb < k ∧ st[kb]? = some (p0, S0) ∧ S0 ≠ [] ∧ ∀ (j q : Nat) (T : List Int), j < k → st[j]? = some (q, T) → T ≠ [] → cexc cap W j T < cexc cap W kb S0 ∨ (cexc cap W j T = cexc cap W kb S0 ∧ kb ≤ j)
section
variable {cap b : Int} {W : List Int} {st : List Cs} {k p : Nat} {S : List Int}
theorem BestTo.skip (h : BestTo cap W st k b) (hk : st[k]? = some (p, [])) : BestTo cap W st (k + 1) b := by
  rcases h with ⟨h1, h2⟩ | ⟨kb, p0, S0, h1, h2, h3, h4, h5⟩
  · refine .inl ⟨h1, fun j q T hj hT => ?_⟩
    by_cases e : j = k
    · subst e; rw [hk] at hT; injection hT with hT; injection hT with _ hT; exact hT.symm
    · exact h2 j q T (by omega) hT
  · refine .inr ⟨kb, p0, S0, h1, by omega, h3, h4, fun j q T hj hT hne => ?_⟩
    by_cases e : j = k
    · subst e; rw [hk] at hT; injection hT with hT; injection hT with _ hT; exact absurd hT.symm hne
    · exact h5 j q T (by omega) hT hne
theorem BestTo.first (h : ∀ j q T, j < k → st[j]? = some (q, T) → T = []) (hk : st[k]? = some (p, S)) (hS : S ≠ []) : BestTo cap W st (k + 1) (k : Int) := by
  refine .inr ⟨k, p, S, rfl, by omega, hk, hS, fun j q T hj hT hne => ?_⟩
  by_cases e : j = k
  · subst e; rw [hk] at hT; injection hT with hT; injection hT with _ hT; subst hT; exact .inr ⟨rfl, Nat.le_refl _⟩
  · exact absurd (h j q T (by omega) hT) hne
theorem BestTo.take {kb : Nat} {S0 : List Int} (h5 : ∀ (j q : Nat) (T : List Int), j < k → st[j]? = some (q, T) → T ≠ [] → cexc cap W j T < cexc cap W kb S0 ∨ (cexc cap W j T = cexc cap W kb S0 ∧ kb ≤ j)) (hk : st[k]? = some (p, S)) (hS : S ≠ []) (hl : cexc cap W kb S0 < cexc cap W k S) : BestTo cap W st (k + 1) (k : Int) := by
  refine .inr ⟨k, p, S, rfl, by omega, hk, hS, fun j q T hj hT hne => ?_⟩
  by_cases e : j = k
  · subst e; rw [hk] at hT; injection hT with hT; injection hT with _ hT; subst hT; exact .inr ⟨rfl, Nat.le_refl _⟩
  · have := h5 j q T (by omega) hT hne
    exact .inl (by omega)
theorem BestTo.stay {kb p0 : Nat} {S0 : List Int} (h2 : kb < k) (h3 : st[kb]? = some (p0, S0)) (h4 : S0 ≠ []) (h5 : ∀ (j q : Nat) (T : List Int), j < k → st[j]? = some (q, T) → T ≠ [] → cexc cap W j T < cexc cap W kb S0 ∨ (cexc cap W j T = cexc cap W kb S0 ∧ kb ≤ j)) (hk : st[k]? = some (p, S)) (hl : ¬ cexc cap W kb S0 < cexc cap W k S) : BestTo cap W st (k + 1) (kb : Int) := by
  refine .inr ⟨kb, p0, S0, rfl, by omega, h3, h4, fun j q T hj hT hne => ?_⟩
  by_cases e : j = k
  · subst e; rw [hk] at hT; injection hT with hT; injection hT with _ hT; subst hT
    omega
  · exact h5 j q T (by omega) hT hne
theorem BestTo.best (h : BestTo cap W st st.length b) (hs : 0 < ssum st) : ∃ (kb p0 : Nat) (s : Int) (T : List Int), b = (kb : Int) ∧ kb < st.length ∧ st[kb]? = some (p0, s :: T) ∧ Best cap W st kb := by
  rcases h with ⟨_, h2⟩ | ⟨kb, p0, S0, h1, h2, h3, h4, h5⟩
  · obtain ⟨k, p, S, h3, h4⟩ := ssum_pos hs
    exact absurd (h2 k p S (List.getElem?_eq_some_iff.1 h3).1 h3) h4
  · obtain ⟨s, T, rfl⟩ : ∃ s T, S0 = s :: T := by
      rcases S0 with _ | ⟨s, T⟩
      · exact absurd rfl h4
      · exact ⟨s, T, rfl⟩
    refine ⟨kb, p0, s, T, h1, h2, h3, ⟨⟨p0, _, h3, h4⟩, fun p S hp j q T2 hT hne => ?_⟩⟩
    rw [h3] at hp
    injection hp with hp
    injection hp with _ hp
    subst hp
    exact h5 j q T2 (List.getElem?_eq_some_iff.1 hT).1 hT hne
end
end Go.Proofs.Ytfmfamnngfanfaa
