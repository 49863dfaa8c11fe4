/-
  CONTRACT of share.plan.
  No statement is proved here.
-/
import Derived.Test.YtfmfamnngfanfaaSharePS
namespace Go.Proofs.Ytfmfamnngfanfaa
open Go.RowKit Go.Sort

instance : Inhabited Ic := ⟨⟨none, 0, 0, []⟩⟩
/-- What is queued of class k, with who comes. -/
def szs (Q : List Ic) (cls : Nat) (size : Int) (k : Nat) : List Int := if k = cls then (Q.getD k default).L ++ [size] else (Q.getD k default).L
def stTo (Q : List Ic) (cls : Nat) (size : Int) : Nat → List Cs
  | 0 => []
  | k + 1 => stTo Q cls size k ++ [(0, szs Q cls size k)]
theorem stTo_len (Q : List Ic) (cls : Nat) (size : Int) : ∀ k, (stTo Q cls size k).length = k
  | 0 => rfl
  | k + 1 => by simp [stTo, stTo_len Q cls size k]
theorem bsum_le {S : List Int} (h : ∀ s ∈ S, 0 ≤ s ∧ s ≤ 1048576) (hl : S.length ≤ 100000) : Small S ∧ -281474976710656 ≤ isum S ∧ isum S ≤ 281474976710656 := by
  have := isum_le h
  exact ⟨⟨fun x hx => (h x hx).1, by omega⟩, by omega, by omega⟩
def P1Rel (w : World) (cap : Int) (Aw : Option Addr) (nw cw : Nat) (W : List Int) (Q : List Ic) (cls : Nat) (size : Int) (nq gk : Nat) (vi : Value) (wr : World) : Prop :=
  ∃ (k : Nat) (A : Option Addr) (n c : Nat) (d : Array Ln) (sb : Option Nat), gk + k = nq ∧ vi = .int .i64 (k : Int) ∧ PS w wr w.heap.size cap Aw nw cw W A n c d sb (stTo Q cls size k) ∧ (k ≤ cls → sb = none)
/-- What can be planned. -/
structure Can (w : World) (cap : Int) (Aw : Option Addr) (nw cw : Nat) (W : List Int) (Aq : Option Addr) (nq cq : Nat) (Q : List Ic) (cls : Nat) (size : Int) : Prop where
  wi : Is w w.heap.size Aw nw cw W
  qi : Iss w w.heap.size Aq nq cq Q
  cap : 0 ≤ cap ∧ cap ≤ 1099511627776
  size : 0 ≤ size ∧ size ≤ 1048576
  cls : cls < nq
  nq : nq ≤ 8
  each : ∀ x ∈ Q, (∀ s ∈ x.L, 0 ≤ s ∧ s ≤ 1048576) ∧ x.n ≤ 65536
theorem Can.of {w : World} {cap : Int} {Aw : Option Addr} {nw cw : Nat} {W : List Int} {Aq : Option Addr} {nq cq : Nat} {Q : List Ic} {cls : Nat} {size : Int} (h : Can w cap Aw nw cw W Aq nq cq Q cls size) {k : Nat} {x : Ic} (hx : Q[k]? = some x) :
    (szs Q cls size k = if k = cls then x.L ++ [size] else x.L) ∧ (∀ s ∈ szs Q cls size k, 0 ≤ s ∧ s ≤ 1048576) ∧ (szs Q cls size k).length ≤ 70000 := by
  have e : szs Q cls size k = if k = cls then x.L ++ [size] else x.L := by
    unfold Go.Proofs.Ytfmfamnngfanfaa.szs
    simp [List.getD_eq_getElem?_getD, hx]
  have hm := h.each x (List.mem_of_getElem? hx)
  have hl := (h.qi.each x (List.mem_of_getElem? hx)).len
  rw [e]
  refine ⟨rfl, ?_, ?_⟩
  · split
    · intro s hs
      rcases List.mem_append.1 hs with hs | hs
      · exact hm.1 s hs
      · simp at hs; subst hs; exact h.size
    · exact hm.1
  · split
    · simp; omega
    · omega
theorem int_info : (Try.prog.info? 3).map (fun i => (i.zero, i.size, i.bytes)) = some (some (.int .i64 0), 1, 8) := by kernel_rfl
def NextSt (w wx : World) (base : Nat) (cap : Int) (Aw : Option Addr) (nw cw : Nat) (W : List Int) (A0 : Option Addr) (n0 c0 : Nat) (sb : Option Nat) (st : List Cs) (e : Ending) (w' : World) : Prop :=
  e = .returned (.tuple #[]) ∧ ∃ A n c d, PS w w' base cap Aw nw cw W A n c d sb st ∧ Near wx A0 A ∧ Only (Its (base + 1 + 1) A0 n0 c0) wx w'
theorem isS {w : World} {B : Nat} {A : Option Addr} {n c : Nat} {S : List Int} (h : Is w B A n c S) : S = [] ↔ n = 0 := by
  have := h.len
  constructor
  · rintro rfl; simpa using this.symm
  · intro e; exact List.eq_nil_of_length_eq_zero (by omega)
theorem add_step {w wx : World} {base : Nat} {cap : Int} {Aw : Option Addr} {nw cw : Nat} {W : List Int} {A : Option Addr} {n c : Nat} {d : Array Ln} {sb : Option Nat} {st : List Cs} {A1 : Option Addr} {n1 c1 : Nat} {S : List Int}
    (h : PS w wx base cap Aw nw cw W A n c d sb st) (hi : Is wx wx.heap.size A1 n1 c1 S) (hin : ∀ b o, A1 = some ⟨b, o, none⟩ → S ≠ [] → b < base ∨ some b = sb) (hw : Is wx wx.heap.size Aw nw cw W)
    (hcap : -281474976710656 ≤ cap ∧ cap ≤ 281474976710656) (hS : -281474976710656 ≤ isum S ∧ isum S ≤ 281474976710656) (hst : st.length ≤ 10000) :
    Calls Try.prog 77 #[.agg #[.int .i64 (st.length : Int), .int .i64 0, .slice A1 n1 c1, .int .i64 (isum S), .int .i64 0], .pointer (some ⟨base, 0, none⟩), .pointer (some ⟨base + 1, 0, none⟩), .pointer (some ⟨base + 1 + 1, 0, none⟩)] wx
      (NextSt w wx base cap Aw nw cw W A n c sb (st ++ [(0, S)])) := by
  have e : (Value.agg #[.int .i64 (st.length : Int), .int .i64 0, .slice A1 n1 c1, .int .i64 (isum S), .int .i64 0]) = lnv ⟨st.length, 0, A1, n1, c1, isum S, 0⟩ := rfl
  rw [e]
  have hcnt := h.cnt
  have key : ∀ e w', Added wx base (base + 1 + 1) A n c d (withExc ⟨st.length, 0, A1, n1, c1, isum S, 0⟩ (excW cap W st.length (isum S))) e w' → NextSt w wx base cap Aw nw cw W A n c sb (st ++ [(0, S)]) e w' := by
    rintro e w' ⟨rfl, A', n', c', d', h1, h2, h3, h4, h5, h6⟩
    exact ⟨rfl, A', n', c', d', h.added h1 h2 h3 h4 h5 h6 (fun hne => ⟨hne, hi, rfl, rfl, fun b o e => hin b o e hne⟩) (isS hi) rfl rfl, h5, h6⟩
  by_cases h0 : n1 = 0
  · exact (add_none wx base base (base + 1) (base + 1 + 1) A n c d _ _ h.hp h.heap h0).mono key
  · exact (add_some wx base base (base + 1) (base + 1 + 1) A n c d _ cap Aw nw cw W h.hp h.heap (by omega) (by simp only; omega) h.kc h.wc hw hcap hS).mono key
theorem back_step {w wx : World} {base : Nat} {cap : Int} {Aw : Option Addr} {nw cw : Nat} {W : List Int} {A : Option Addr} {n c : Nat} {d : Array Ln} {sb : Option Nat} {st : List Cs} {A1 : Option Addr} {n1 c1 : Nat} {S : List Int} {k q : Nat} {pv bv : Int}
    (h : PS w wx base cap Aw nw cw W A n c d sb st) (hk : st[k]? = some (q, [])) (hn : n + 1 ≤ st.length) (hi : Is wx wx.heap.size A1 n1 c1 S) (hin : ∀ b o, A1 = some ⟨b, o, none⟩ → S ≠ [] → b < base ∨ some b = sb) (hw : Is wx wx.heap.size Aw nw cw W)
    (hcap : -281474976710656 ≤ cap ∧ cap ≤ 281474976710656) (hS : -281474976710656 ≤ isum S ∧ isum S ≤ 281474976710656) (hst : st.length ≤ 10000) (hpv : pv = (q : Int)) (hbv : bv = isum S) :
    Calls Try.prog 77 #[.agg #[.int .i64 (k : Int), .int .i64 pv, .slice A1 n1 c1, .int .i64 bv, .int .i64 0], .pointer (some ⟨base, 0, none⟩), .pointer (some ⟨base + 1, 0, none⟩), .pointer (some ⟨base + 1 + 1, 0, none⟩)] wx
      (NextSt w wx base cap Aw nw cw W A n c sb (st.set k (q, S))) := by
  subst hpv hbv
  have e : (Value.agg #[.int .i64 (k : Int), .int .i64 (q : Int), .slice A1 n1 c1, .int .i64 (isum S), .int .i64 0]) = lnv ⟨k, q, A1, n1, c1, isum S, 0⟩ := rfl
  rw [e]
  have key : ∀ e w', Added wx base (base + 1 + 1) A n c d (withExc ⟨k, q, A1, n1, c1, isum S, 0⟩ (excW cap W k (isum S))) e w' → NextSt w wx base cap Aw nw cw W A n c sb (st.set k (q, S)) e w' := by
    rintro e w' ⟨rfl, A', n', c', d', h1, h2, h3, h4, h5, h6⟩
    exact ⟨rfl, A', n', c', d', h.backed hk h1 h2 h3 (by omega) h5 h6 (fun hne => ⟨hne, hi, rfl, rfl, fun b o e => hin b o e hne⟩) (isS hi) rfl rfl, h5, h6⟩
  by_cases h0 : n1 = 0
  · exact (add_none wx base base (base + 1) (base + 1 + 1) A n c d _ _ h.hp h.heap h0).mono key
  · exact (add_some wx base base (base + 1) (base + 1 + 1) A n c d _ cap Aw nw cw W h.hp h.heap (by omega) (by simp only; omega) h.kc h.wc hw hcap hS).mono key
theorem stTo_sum {Q : List Ic} {cls : Nat} {size : Int} : ∀ k, k ≤ Q.length → ssum (stTo Q cls size k) = isum (qsum (Q.take k)) + if cls < k then size else 0
  | 0, _ => by simp [stTo, ssum, isum, qsum]
  | k + 1, hk => by
    have ih := stTo_sum (Q := Q) (cls := cls) (size := size) k (by omega)
    have hx : Q[k]? = some Q[k] := List.getElem?_eq_getElem (by omega)
    rw [stTo, ssum_app, ih, qsum_take hx]
    have e : ssum [((0 : Nat), szs Q cls size k)] = isum (szs Q cls size k) := by simp [ssum, isum]
    rw [e]
    unfold szs
    simp only [List.getD_eq_getElem?_getD, hx, Option.getD_some]
    by_cases h1 : k = cls
    · subst h1
      rw [if_pos rfl, if_neg (by omega), if_pos (by omega), isum_app]
      simp [isum]
      omega
    · rw [if_neg h1]
      by_cases h2 : cls < k
      · rw [if_pos h2, if_pos (by omega)]; omega
      · rw [if_neg h2, if_neg (by omega)]; omega
theorem stTo_mem {Q : List Ic} {cls : Nat} {size : Int} : ∀ k x, x ∈ stTo Q cls size k → ∃ j, j < k ∧ x = (0, szs Q cls size j)
  | 0, x, h => by simp [stTo] at h
  | k + 1, x, h => by
    rw [stTo] at h
    rcases List.mem_append.1 h with h | h
    · obtain ⟨j, h1, h2⟩ := stTo_mem k x h
      exact ⟨j, by omega, h2⟩
    · simp at h
      exact ⟨k, by omega, h⟩
section
variable {w : World} {cap : Int} {Aw : Option Addr} {nw cw : Nat} {W : List Int} {Aq : Option Addr} {nq cq : Nat} {Q : List Ic} {cls : Nat} {size : Int}
theorem Can.stOk (h : Can w cap Aw nw cw W Aq nq cq Q cls size) : StOk (stTo Q cls size nq) := by
  have hl := h.qi.len
  refine ⟨fun x hx => ?_, fun x hx => ?_, by rw [stTo_len]; exact h.nq⟩
  · obtain ⟨j, hj, rfl⟩ := stTo_mem _ _ hx
    exact (h.of (List.getElem?_eq_getElem (show j < Q.length by omega))).2.1
  · obtain ⟨j, hj, rfl⟩ := stTo_mem _ _ hx
    have := (h.of (List.getElem?_eq_getElem (show j < Q.length by omega))).2.2
    simp only
    omega
theorem Can.sum (h : Can w cap Aw nw cw W Aq nq cq Q cls size) : ssum (stTo Q cls size nq) = isum (qsum Q) + size ∧ SmallQ Q ∧ 0 ≤ isum (qsum Q) ∧ isum (qsum Q) ≤ 838860800000 := by
  have hl := h.qi.len
  have h1 := stTo_sum (Q := Q) (cls := cls) (size := size) nq (by omega)
  rw [List.take_of_length_le (by omega), if_pos h.cls] at h1
  have h2 : ∀ x ∈ Q, Small x.L := fun x hx => (bsum_le (h.each x hx).1 (by have := (h.qi.each x hx).len; have := (h.each x hx).2; omega)).1
  have h3 := h.stOk.sum
  have h4 : 0 ≤ isum (qsum Q) := isum_nn (fun y hy => by
    obtain ⟨x, hx, rfl⟩ := List.mem_map.1 hy
    exact isum_nn (h2 x hx).nn)
  have := h.size
  exact ⟨h1, ⟨h2, by omega⟩, h4, by omega⟩
end
theorem slen_le : ∀ {st : List Cs}, StOk st → slen st ≤ 100000 * st.length
  | [], _ => by simp [slen]
  | x :: st, h => by
    have a := slen_le (st := st) ⟨fun y hy => h.each y (List.mem_cons_of_mem _ hy), fun y hy => h.plc y (List.mem_cons_of_mem _ hy), by have := h.len; simp at this; omega⟩
    have b := h.plc x List.mem_cons_self
    simp only [slen, List.length_cons]
    omega
def vvs (out : List (Nat × Nat)) : List Value := out.flatMap fun v => [.int .i64 (v.1 : Int), .int .i64 (v.2 : Int)]
theorem vvs_app (a b : List (Nat × Nat)) : vvs (a ++ b) = vvs a ++ vvs b := by unfold vvs; rw [List.flatMap_append]
theorem vvs_len (a : List (Nat × Nat)) : (vvs a).length = a.length * 2 := by
  induction a with
  | nil => rfl
  | cons x a ih => unfold vvs at *; rw [List.flatMap_cons, List.length_append, ih, List.length_cons]; simp; omega
theorem vvs_one (a : List (Nat × Nat)) : ∀ u ∈ vvs a, u.oneCell' = true := by
  intro u hu
  obtain ⟨r, _, h⟩ := List.mem_flatMap.1 hu
  simp only [List.mem_cons, List.not_mem_nil, or_false] at h
  rcases h with rfl | rfl <;> rfl
theorem two_box {w2 w9 : World} {o1 o2 : Obj} {r : Option Nat} (h : ((w2.alloc o1).alloc o2).grownBy w9 r) (hr : ∀ b, r = some b → b < w2.heap.size) : Only (fun b => some b = r) w2 w9 ∧ w9.heap[w2.heap.size]? = some o1 ∧ w2.heap.size < w9.heap.size := by
  have s1 : (w2.alloc o1).heap.size = w2.heap.size + 1 := by simp
  have s2 : ((w2.alloc o1).alloc o2).heap.size = w2.heap.size + 1 + 1 := by simp
  have hz := h.size
  refine ⟨((Only.of_below (below_box w2 o1)).trans (Only.of_below (S := fun b => some b = r) (below_box _ o2)) (fun _ _ h => h)).trans (Only.of_grown h (S := fun b => some b = r) (fun k e => e)) (fun _ _ h => h), ?_, by omega⟩
  rw [h.block w2.heap.size (by omega) (fun e => by have := hr _ e.symm; omega), RowKit.Below.heap_alloc _ _ _ (by omega)]
  exact heap_alloc_new w2 o1
theorem lit_vic (w2 : World) (o1 : Obj) (cl pl : Nat) : Sn ((w2.alloc o1).alloc (.cells #[.int .i64 (cl : Int), .int .i64 (pl : Int)] 34)) (w2.heap.size + 1 + 1) (some ⟨w2.heap.size + 1, 0, none⟩) 1 1 2 (vvs [(cl, pl)]) := by
  have h := lit_sn (w2.alloc o1) 34 (vvs [(cl, pl)]) 1 2 rfl (by unfold maxLen; omega)
  have e : (w2.alloc o1).heap.size = w2.heap.size + 1 := by simp
  rw [e] at h
  exact h
theorem vic_info : (Try.prog.info? 34).map (fun i => (i.zero, i.size, i.bytes)) = some (some (.agg #[.int .i64 0, .int .i64 0]), 2, 16) := by kernel_rfl
/-- In the midst of the second loop. -/
structure P2 (w wr : World) (base : Nat) (cap : Int) (Aw : Option Addr) (nw cw : Nat) (W : List Int) (st0 : List Cs) (o0 : Int) (st : List Cs) (o : Int) (out : List (Nat × Nat)) (Av : Option Addr) (nv cv : Nat) (A : Option Addr) (n c : Nat) (d : Array Ln) (sb : Option Nat) : Prop where
  ps : PS w wr base cap Aw nw cw W A n c d sb st
  ok : StOk st
  ov : o = ssum st - cap
  own : wr.ownsRow base 34 2 (.slice Av nv cv) nv (vvs out)
  cnt : nv + slen st ≤ 1000000
  off : ∀ r, (Value.slice Av nv cv).ownBlock = some r → base + 1 + 1 < r ∧ some r ≠ sb ∧ some r ≠ (Value.slice A n c).ownBlock
  run : ∀ out2, Goes cap W st o out2 → Goes cap W st0 o0 (out ++ out2)
def P2Rel (w : World) (cap : Int) (Aw : Option Addr) (nw cw : Nat) (W : List Int) (st0 : List Cs) (o0 : Int) (gk : Nat) (vv vo : Value) (wr : World) : Prop :=
  ∃ (st : List Cs) (o : Int) (out : List (Nat × Nat)) (Av : Option Addr) (nv cv : Nat) (A : Option Addr) (n c : Nat) (d : Array Ln) (sb : Option Nat), slen st ≤ gk ∧ vv = .slice Av nv cv ∧ vo = .int .i64 o ∧ P2 w wr w.heap.size cap Aw nw cw W st0 o0 st o out Av nv cv A n c d sb
/-- A list of victims is handed back. -/
def SaysV (w : World) (base : Nat) (out : List (Nat × Nat)) (e : Ending) (w' : World) : Prop := ∃ A n c, e = .returned (.slice A n c) ∧ w'.ownsRow base 34 2 (.slice A n c) n (vvs out) ∧ RowKit.Below base w w'
theorem LineFor.at0 {w : World} {base : Nat} {cap : Int} {W : List Int} {sb : Option Nat} {x : Ln} {s : Int} {T : List Int} (h : LineFor w base cap W sb x (s :: T)) : ∃ b o, x.A = some ⟨b, o, none⟩ ∧ w.cell? ⟨b, o, none⟩ = some (.int .i64 s) ∧ x.n = T.length + 1 := by
  have hl := h.is.len
  simp at hl
  obtain ⟨b, o, y, e, hb, hx, hc, _⟩ := h.is.at_ (j := 0) (by omega)
  simp at hx
  subst hx
  exact ⟨b, o, e, hc, hl.symm⟩
theorem box_keep {wx w7 : World} {g N n c : Nat} {A : Option Addr} {v0 v1 v2 v3 : Value} (hN : g < N) (hz : (∀ r, (Value.slice A n c).ownBlock = some r → r ≠ N) ∧ N < wx.heap.size) (ho : Only (Its g A n c) wx w7)
    (h : wx.cell? ⟨N, 0, none⟩ = some v0 ∧ wx.cell? ⟨N, 1, none⟩ = some v1 ∧ wx.cell? ⟨N, 2, none⟩ = some v2 ∧ wx.cell? ⟨N, 3, none⟩ = some v3) :
    w7.cell? ⟨N, 0, none⟩ = some v0 ∧ w7.cell? ⟨N, 1, none⟩ = some v1 ∧ w7.cell? ⟨N, 2, none⟩ = some v2 ∧ w7.cell? ⟨N, 3, none⟩ = some v3 := by
  have hb := ho.block N hz.2 (fun hQ => by
    rcases hQ with e | e
    · omega
    · exact hz.1 N e.symm rfl)
  have k : ∀ i, w7.cell? ⟨N, i, none⟩ = wx.cell? ⟨N, i, none⟩ := fun i => World.cell?_of_block (a := ⟨N, i, none⟩) hb
  exact ⟨(k 0).trans h.1, (k 1).trans h.2.1, (k 2).trans h.2.2.1, (k 3).trans h.2.2.2⟩
theorem round_mid {w w2 w9 : World} {base : Nat} {cap : Int} {Aw : Option Addr} {nw cw : Nat} {W : List Int} {A : Option Addr} {n n0 c : Nat} {d : Array Ln} {sb : Option Nat} {st : List Cs} {x : Ln} {S : List Int} {Av : Option Addr} {nv cv : Nat} {out : List (Nat × Nat)} {o1 o2 : Obj}
    (hps : PS w w2 base cap Aw nw cw W A n c d sb st) (hlf : LineFor w2 base cap W sb x S) (hown : w2.ownsRow base 34 2 (.slice Av nv cv) nv (vvs out)) (hoff : ∀ r, (Value.slice Av nv cv).ownBlock = some r → base + 1 + 1 < r ∧ some r ≠ sb ∧ some r ≠ (Value.slice A n0 c).ownBlock)
    (hg : ((w2.alloc o1).alloc o2).grownBy w9 (if nv = cv then none else (Value.slice Av nv cv).ownBlock)) :
    PS w w9 base cap Aw nw cw W A n c d sb st ∧ LineFor w9 base cap W sb x S ∧ w9.heap[w2.heap.size]? = some o1 ∧ w2.heap.size + 1 < w9.heap.size := by
  have h := two_box hg (fun b hb => by
    split at hb
    · cases hb
    · exact (hown.lt b hb).2)
  have hq : ∀ b, some b = (if nv = cv then none else (Value.slice Av nv cv).ownBlock) → base + 1 + 1 < b ∧ some b ≠ sb ∧ some b ≠ (Value.slice A n c).ownBlock := fun b hb => by
    split at hb
    · cases hb
    · have := hoff b hb.symm
      rw [own_block A n c n0 c]
      exact this
  have hz := hg.size
  simp at hz
  refine ⟨hps.other h.1 (fun b _ hb => hq b hb), hlf.only h.1 (fun b _ hb => ⟨by have := (hq b hb).1; omega, (hq b hb).2.1⟩), h.2.1, by omega⟩
theorem round_end {w wr w2 w9 w7 : World} {base : Nat} {cap : Int} {Aw : Option Addr} {nw cw : Nat} {W : List Int} {st0 st : List Cs} {o0 o s : Int} {out : List (Nat × Nat)} {Av A9 A A7 : Option Addr} {nv cv c9 m c n7 c7 cl pl : Nat} {d d2 d7 : Array Ln} {sb : Option Nat} {T : List Int} {o1 o2 : Obj}
    (h : P2 w wr base cap Aw nw cw W st0 o0 st o out Av nv cv A (m + 1) c d sb) (ho : 0 < o) (hS : st[cl]? = some (pl, s :: T)) (hbest : Best cap W st cl)
    (hps9 : PS w w9.drew base cap Aw nw cw W A m c d2 sb (st.set cl (pl + 1, []))) (hsb : ∀ x, sb = some x → x < w2.heap.size) (hrow : ∀ r, (Value.slice A m c).ownBlock = some r → r < w2.heap.size) (hg : base + 1 + 1 < w2.heap.size) (ho9 : w9.ownsRow base 34 2 (.slice A9 (nv + 1) c9) (nv + 1) (vvs out ++ vvs [(cl, pl)]))
    (hn9 : A9 = Av ∨ ∃ b, A9 = some ⟨b, 0, none⟩ ∧ ((w2.alloc o1).alloc o2).heap.size ≤ b)
    (h7 : PS w w7 base cap Aw nw cw W A7 n7 c7 d7 sb ((st.set cl (pl + 1, [])).set cl (pl + 1, T))) (hn7 : Near w9.drew A A7) (ho7 : Only (Its (base + 1 + 1) A m c) w9.drew w7) :
    P2 w w7 base cap Aw nw cw W st0 o0 (st.set cl (pl + 1, T)) (o - s) (out ++ [(cl, pl)]) A9 (nv + 1) c9 A7 n7 c7 d7 sb := by
  have hoff : ∀ r, (Value.slice A9 (nv + 1) c9).ownBlock = some r → base + 1 + 1 < r ∧ some r ≠ sb ∧ some r ≠ (Value.slice A m c).ownBlock := fun r hr => by
    rcases hn9 with rfl | ⟨b, rfl, hb⟩
    · have := h.off r (by rw [own_block _ nv cv (nv + 1) c9]; exact hr)
      rw [own_block A m c (m + 1) c]
      exact this
    · simp [Value.ownBlock] at hr
      subst hr
      simp at hb
      exact ⟨by omega, fun e => by have := hsb _ e.symm; omega, fun e => by have := hrow _ e.symm; omega⟩
  have hlt9 := ho9.lt
  refine ⟨?_, h.ok.set hS, ?_, ?_, ?_, fun r hr => ?_, fun out2 hg2 => ?_⟩
  · rw [List.set_set] at h7
    exact h7
  · rw [ssum_set hS]
    have := h.ov
    omega
  · rw [vvs_app]
    refine own_same (w := w9) ho9 (fun b hb => ?_)
    have h3 := hoff b hb
    exact (ho7.block b (hlt9 b hb).2 (fun hQ => by
      rcases hQ with e | e
      · omega
      · exact h3.2.2 e))
  · have := slen_set (q := pl + 1) hS
    have := h.cnt
    omega
  · have h3 := hoff r hr
    refine ⟨h3.1, h3.2.1, fun e => ?_⟩
    rcases hn7 with rfl | ⟨b, rfl, hb⟩
    · rw [own_block _ n7 c7 m c] at e
      exact h3.2.2 e
    · simp [Value.ownBlock] at e
      have := (hlt9 r hr).2
      have hb' : w9.heap.size ≤ b := hb
      omega
  · have := h.run ((cl, pl) :: out2) (Goes.step ho hbest hS hg2)
    rw [List.append_assoc]
    exact this
set_option maxRecDepth 100000 in
set_option maxHeartbeats 8000000 in
theorem plan_any (w : World) (cap : Int) (Aw : Option Addr) (nw cw : Nat) (W : List Int) (Aq : Option Addr) (nq cq : Nat) (Q : List Ic) (cls : Nat) (size : Int) (h : Can w cap Aw nw cw W Aq nq cq Q cls size) :
    Calls Try.prog 53 #[.int .i64 cap, .slice Aw nw cw, .slice Aq nq cq, .int .i64 cls, .int .i64 size] w (fun e w' => ∃ out, Goes cap W (stTo Q cls size nq) (ssum (stTo Q cls size nq) - cap) out ∧ SaysV w w.heap.size out e w') := by
  obtain ⟨i0, hi0, hz0, hz1, hz2⟩ := info_parts int_info
  have H := Lib.hid h
  have HQL := Lib.hid h.qi.len
  have hn8 := h.nq
  have hcl := h.cls
  have hsz := h.size
  have hcp := h.cap
  clear h
  go_enter Try.func53, Try.ntmps53
  go_wp2_with fail
  go_loopg [22] nq (fun gk vi wr => P1Rel w cap Aw nw cw W Q cls size nq gk vi wr)
  case atStart =>
    refine ⟨0, none, 0, 0, #[], none, by omega, rfl, ?_, fun _ => rfl⟩
    have b1 := below_box w (.cells #[.int .i64 cap] 3)
    have s1 : (w.alloc (.cells #[.int .i64 cap] 3)).heap.size = w.heap.size + 1 := by simp
    have b2 := below_box (w.alloc (.cells #[.int .i64 cap] 3)) (.cells #[.slice Aw nw cw] 22)
    have s2 : ((w.alloc (.cells #[.int .i64 cap] 3)).alloc (.cells #[.slice Aw nw cw] 22)).heap.size = w.heap.size + 1 + 1 := by simp
    have b3 := below_box ((w.alloc (.cells #[.int .i64 cap] 3)).alloc (.cells #[.slice Aw nw cw] 22)) (.cells #[.slice none 0 0] 150)
    refine ⟨b1.trans ((b2.mono (by omega)).trans (b3.mono (by omega))), ?_, ?_, ⟨cell_last _ _ _ _ 0 s2, ?_, World.ownsRow_nil _ _ _ _, by simp [Value.ownBlock], by omega⟩, fun k h0 hk => absurd hk (by omega), fun k hk => (by simp [Value.ownBlock] at hk), fun s e => (by cases e), Lines.none_ _ _ _ _ _, Nat.le_refl _⟩
    · exact (b3.cell (p := ⟨w.heap.size, 0, none⟩) (by rw [s2]; show w.heap.size < _; omega)).trans ((b2.cell (p := ⟨w.heap.size, 0, none⟩) (by rw [s1]; show w.heap.size < _; omega)).trans (cell_last w _ _ _ 0 rfl))
    · exact (b3.cell (p := ⟨w.heap.size + 1, 0, none⟩) (by rw [s2]; show w.heap.size + 1 < _; omega)).trans (cell_last _ _ _ _ 0 s1)
    · exact frz_block' (i := 0) (by rw [← s2]; exact heap_alloc_new _ _)
  case round =>
    obtain ⟨k, A, n, c, d, sb, hgk, rfl, hps, hsb⟩ := hrel
    have HPS := Lib.hid hps
    have HSB := Lib.hid hsb
    clear hps hsb
    by_cases hlt : k < nq
    · obtain ⟨b, o, x, rfl, hb, hx, hc, hxi⟩ := (H.out.qi.below HPS.out.bel (Nat.le_refl _)).at_ hlt
      have HX := Lib.hid hx
      have HXI := Lib.hid hxi
      clear hx hxi
      by_cases hk : k = cls
      · subst hk
        have hkI : ((k : Int) == (k : Int)) = true := by simp
        obtain ⟨he, hbd, hln⟩ := H.out.of HX.out (k := k)
        rw [if_pos rfl] at he
        obtain ⟨hsm, hb48⟩ := bsum_le hbd (by omega)
        have hxl := HXI.out.len
        have hxc := HXI.out.sn.le
        have hxm : x.n ≤ 65536 := (H.out.each x (List.mem_of_getElem? HX.out)).2
        have hxcI : (x.n : Int) ≤ (x.c : Int) := by omega
        have HE := Lib.hid he
        have HSM := Lib.hid hsm
        have HSTL := Lib.hid (stTo_len Q k size k)
        have HBD := Lib.hid hb48
        have HPS0 : Hid (PS w wr w.heap.size cap Aw nw cw W A n c d none (stTo Q k size k)) := by
          have h := HPS.out
          rw [HSB.out (Nat.le_refl _)] at h
          exact h
        clear HPS
        have hD : DstN (wr.alloc (.cells #[.int .i64 size] 3)) wr.heap.size 3 x.A x.n x.n 1 (ivs x.L) := by
          refine .inl ⟨rfl, ?_⟩
          have h1 := (HXI.out.more HPS0.out.bel.size).sn.take (m := x.n) (d := x.n) (Nat.le_refl _) (Nat.le_refl _) hxc
          rw [Nat.mul_one, List.take_of_length_le (by rw [ivs_len]; omega)] at h1
          exact h1.onA _
        have HD := Lib.hid hD
        clear he hbd hln hsm hb48 hxl hD
        go_wp2_with (at_builtin; refine wpList_append_dstN _ rfl (.tmp 35) (.tmp 37) 22 22 rfl wr.heap.size 3 i0 _ 1 8 Try.underlying22 hi0 hz0 hz1 hz2 rfl x.A x.n x.n (ivs x.L) rfl HD.out _ 1 (ivs [size]) rfl ((lit_sn wr 3 (ivs [size]) 1 1 rfl (by unfold maxLen; omega)).src Try.underlying22 (ivs_one [size])) (by omega) (by omega) (by simp) ?_; intro A3 c3 w3 h1 h2 h3 h4 h5 h6; have HO3 := Lib.hid (h2 (by omega)); have HB3 := Lib.hid h4; clear h1 h2 h3 h4 h5 h6)
        have hb3 : RowKit.Below wr.heap.size wr w3 := (below_box wr _).trans HB3.out
        have hps3 := HPS0.out.below hb3
        obtain ⟨s, cap3, cur3, hv3, hsz3, _⟩ : ∃ s cap cur, Value.slice A3 (x.n + 1) c3 = .slice (some ⟨s, 0, none⟩) (x.n + 1) cap ∧ wr.heap.size ≤ s ∧ w3.heap[s]? = some (.cells cur 3 (0, 0)) := by
          rcases HO3.out.2 with ⟨_, h0⟩ | ⟨s, cap, cur, h1, h2, h3, _⟩
          · omega
          · exact ⟨s, cap, cur, h1, h2, h3⟩
        injection hv3 with hA3 e8 e9
        clear e8 e9
        have hslt := (HO3.out.lt s (by rw [hA3]; rfl)).2
        have hg0 := HPS0.out.hp.lt
        have HPS3 := Lib.hid (hps3.newSb (s := s) (by omega) hslt (fun r hr => by have := (HPS0.out.hp.own.lt r hr).2; omega))
        have HIX : Hid (Is w3 w3.heap.size A3 (x.n + 1) c3 (szs Q k size k)) := by
          show Is _ _ _ _ _ _
          refine ⟨?_, fun y hy => by have := (H.out.of HX.out (k := k)).2.1 y hy; unfold I64; omega⟩
          rw [HE.out, ivs_app]
          exact Sn.of_own HO3.out
        have HIN : Hid (∀ b o, A3 = some ⟨b, o, none⟩ → szs Q k size k ≠ [] → b < w.heap.size ∨ some b = some s) := by
          intro b o e _
          rw [hA3] at e
          injection e with e
          injection e with e
          exact .inr (by rw [e])
        clear hps3 hsz3 hb3 hslt hg0 hA3 HB3 HO3 HD
        refine (sum_any w3 A3 (x.n + 1) c3 _ HIX.out HSM.out).mono ?_
        rintro e w2 ⟨rfl, rfl⟩
        go_wp2_with fail
        have hadd := add_step HPS3.out HIX.out HIN.out (H.out.wi.on HPS3.out.bel (Nat.le_refl _)) (by omega) HBD.out (by rw [HSTL.out]; omega)
        rw [HSTL.out] at hadd
        have HADD := Lib.hid hadd
        clear hadd
        refine HADD.out.mono ?_
        rintro e w4 ⟨rfl, A4, n4, c4, d4, h4, _, _⟩
        have H4 := Lib.hid h4
        clear h4
        go_wp2_with fail
        go_roundg (gk - 1)
        case measure => omega
        case rel => exact ⟨k + 1, A4, n4, c4, d4, some s, by omega, by go_num, H4.out, fun hle => absurd hle (by omega)⟩
      · have hkI : ((k : Int) == (cls : Int)) = false := by simp; omega
        obtain ⟨he, hbd, hln⟩ := H.out.of HX.out (k := k)
        rw [if_neg hk] at he
        obtain ⟨hsm, hb48⟩ := bsum_le hbd (by omega)
        have HE := Lib.hid he
        have HSM := Lib.hid hsm
        have HIX : Hid (Is wr wr.heap.size x.A x.n x.c (szs Q cls size k)) := by
          show Is _ _ _ _ _ _
          rw [he]
          exact HXI.out.more HPS.out.bel.size
        have HIN : Hid (∀ b o, x.A = some ⟨b, o, none⟩ → szs Q cls size k ≠ [] → b < w.heap.size ∨ some b = sb) := by
          intro b o e hne
          obtain ⟨b2, o2, e2, hb2, _⟩ := HXI.out.sn.cell (by have := HXI.out.len; rw [he] at hne; have := List.length_pos_iff.2 hne; omega)
          rw [e] at e2
          injection e2 with e2
          injection e2 with e2
          exact .inl (by omega)
        have HSTL := Lib.hid (stTo_len Q cls size k)
        have HBD := Lib.hid hb48
        clear he hbd hln hsm hb48
        go_wp2_with fail
        refine (sum_any wr x.A x.n x.c _ HIX.out HSM.out).mono ?_
        rintro e w2 ⟨rfl, rfl⟩
        go_wp2_with fail
        have hadd := add_step HPS.out HIX.out HIN.out (H.out.wi.on HPS.out.bel (Nat.le_refl _)) (by omega) HBD.out (by rw [HSTL.out]; omega)
        rw [HSTL.out] at hadd
        have HADD := Lib.hid hadd
        clear hadd
        refine HADD.out.mono ?_
        rintro e w3 ⟨rfl, A3, n3, c3, d3, h3, _, _⟩
        have H3 := Lib.hid h3
        clear h3
        go_wp2_with fail
        go_roundg (gk - 1)
        case measure => omega
        case rel => exact ⟨k + 1, A3, n3, c3, d3, sb, by omega, by go_num, H3.out, fun hle => HSB.out (by omega)⟩
    · obtain rfl : k = nq := by omega
      obtain ⟨hs1, hs2, hs3, hs4⟩ := H.out.sum
      have HS1 := Lib.hid hs1
      have HS2 := Lib.hid hs2
      have hkc := HPS.out.kc
      have HOK := Lib.hid H.out.stOk
      have hq2 := (H.out.qi.below HPS.out.bel (Nat.le_refl _)).more HPS.out.bel.size
      have HQ2 := Lib.hid hq2
      clear hs1 hs2 hq2 HSB
      have w1 : wrap64 (isum (qsum Q) + size) = isum (qsum Q) + size := w64 (by omega)
      have w2 : wrap64 (isum (qsum Q) + size - cap) = ssum (stTo Q cls size k) - cap := by rw [HS1.out]; exact w64 (by omega)
      have HWW : Hid (wrap64 (wrap64 (isum (qsum Q) + size) - cap) = ssum (stTo Q cls size k) - cap) := by show _ = _; rw [w1, w2]
      clear w1 w2 hs3 hs4
      go_wp2_with fail
      go_quiet (first | (go_at_call 80; exact Calls.quiet_of_same ((total_any _ _ k cq Q (HQ2.out.drewN _) HS2.out).mono fun _ _ h => ⟨h.1, h.2.symm⟩)))
      go_wp2_with fail
      rw [HWW.out]
      have hp2 : P2 w (wr.drewN nq) w.heap.size cap Aw nw cw W (stTo Q cls size k) (ssum (stTo Q cls size k) - cap) (stTo Q cls size k) (ssum (stTo Q cls size k) - cap) [] none 0 0 A n c d sb :=
        ⟨HPS.out.below (below_drewN (RowKit.Below.refl _ _) nq), HOK.out, rfl, World.ownsRow_nil _ _ _ _, by have h1 := slen_le HOK.out; have h2 := stTo_len Q cls size k; omega, fun r hr => by simp [Value.ownBlock] at hr, fun out2 h => h⟩
      have HP2 := Lib.hid hp2
      clear hp2 HPS HWW hkc
      generalize wr.drewN nq = wq at *
      generalize hst0 : stTo Q cls size k = st0 at *
      obtain ⟨o0, HO0⟩ : ∃ o0, Hid (o0 = ssum st0 - cap) := ⟨_, rfl⟩
      rw [← HO0.out] at HP2 ⊢
      have HST0 := Lib.hid hst0
      clear hst0 HS1 HS2 HQ2
      go_loopg [15, 16] (slen st0) (fun gk vv vo wr => P2Rel w cap Aw nw cw W st0 o0 gk vv vo wr)
      case atStart => exact ⟨st0, o0, [], none, 0, 0, A, n, c, d, sb, Nat.le_refl _, rfl, rfl, HP2.out⟩
      case round =>
        clear HP2 HOK
        obtain ⟨st, o, out, Av, nv, cv, A, n, c, d, sb, hgk2, rfl, rfl, hp2⟩ := hrel
        have HP2 := Lib.hid hp2
        clear hp2
        by_cases ho : 0 < o
        · have hov := HP2.out.ov
          obtain ⟨k9, p9, S9, hk9, hS9⟩ := ssum_pos (st := st) (by omega)
          obtain ⟨y9, hy9, _⟩ := HP2.out.ps.lns.all k9 p9 S9 hk9 hS9
          have hn1 : 0 < n := by
            have := HP2.out.ps.hp.size
            have h2 := List.length_pos_of_mem hy9
            simp at h2
            omega
          obtain ⟨m, rfl⟩ : ∃ m, n = m + 1 := ⟨n - 1, by omega⟩
          have hcnt := HP2.out.ps.cnt
          have hst8 := HP2.out.ok.len
          clear hk9 hS9 hy9 hov hn1
          go_wp2_with fail
          refine (hpop_any wr w.heap.size (w.heap.size + 1 + 1) A m c d HP2.out.ps.hp HP2.out.ps.heap (by omega)).mono ?_
          rintro e w2 ⟨x, d2, rfl, h2, hh2, hp2, ht2, ho2⟩
          obtain ⟨hps2, S, hS, hlf⟩ := HP2.out.ps.popped h2 hh2 hp2 ho2
          have hbest := HP2.out.ps.lns.best (hp2.mem_iff.2 List.mem_cons_self) ht2
          rcases S with _ | ⟨s, T⟩
          · exact absurd rfl hlf.ne
          obtain ⟨cl, pl, xA, xn, xc, by_, ex⟩ := x
          simp only at hps2 hS hlf hbest
          have HPS2 := Lib.hid hps2
          have HS := Lib.hid hS
          have HLF := Lib.hid hlf
          have HBEST := Lib.hid hbest
          have hown2 : w2.ownsRow w.heap.size 34 2 (.slice Av nv cv) nv (vvs out) := own_same HP2.out.own (fun b hb => ho2.block b (HP2.out.own.lt b hb).2 (fun hQ => by
            have h3 := HP2.out.off b hb
            rcases hQ with rfl | hQ
            · omega
            · exact h3.2.2 (by rw [hQ]; exact own_block _ _ _ _ _)))
          have HOWN2 := Lib.hid hown2
          have hta := assert_line (.int .i64 (cl : Int)) (.int .i64 (pl : Int)) (.slice xA xn xc) (.int .i64 by_) (.int .i64 ex)
          have HZ2 := Lib.hid ho2.size
          clear h2 hh2 hp2 ht2 ho2 hps2 hS hlf hbest hown2
          unfold lnv
          simp only
          obtain ⟨i2, hj0, hj1, hj2, hj3⟩ := info_parts vic_info
          have HLV := Lib.hid (lit_vic w2 (.cells #[.int .i64 (cl : Int), .int .i64 (pl : Int), .slice xA xn xc, .int .i64 by_, .int .i64 ex] 152) cl pl)
          obtain ⟨xb, xo, hxA, _, hxn⟩ := HLF.out.at0
          simp only at hxA hxn
          subst hxA
          have hxnI : (0 : Int) < (xn : Int) := by omega
          have hxn1 : (1 : Int) ≤ (xn : Int) := by omega
          have hxc := HLF.out.is.sn.le
          simp only at hxc
          have hm0 := HP2.out.ok.each _ (List.mem_of_getElem? HS.out)
          have hs0 := hm0 s List.mem_cons_self
          have HT0 : Hid (∀ y ∈ T, 0 ≤ y ∧ y ≤ 1048576) := fun y hy => hm0 y (List.mem_cons_of_mem _ hy)
          have hpl := HP2.out.ok.plc _ (List.mem_of_getElem? HS.out)
          simp only [List.length_cons] at hpl
          have hpl2 : pl ≤ 100000 := by omega
          have HPL := Lib.hid hpl
          have hby := HLF.out.byt
          simp only [isum_cons] at hby
          have HBY : Hid (by_ - s = isum T) := by show _ = _; omega
          have hTs := isum_le HT0.out
          have HBT : Hid (-281474976710656 ≤ isum T ∧ isum T ≤ 281474976710656) := ⟨by omega, by omega⟩
          have hby2 : -281474976710656 ≤ by_ ∧ by_ ≤ 281474976710656 := by omega
          have hos := HP2.out.ok.sum
          have hov := HP2.out.ov
          have ho2 : o ≤ 838860800000 := by omega
          have hxn2 : xn ≤ 100001 := by omega
          have HXN := Lib.hid hxn
          clear hxn hm0 hby hTs hos hov hpl
          have hnv : nv ≤ 1000000 := by have := HP2.out.cnt; omega
          have hbz : w.heap.size ≤ w2.heap.size := HPS2.out.bel.size
          have HOFF := Lib.hid HP2.out.off
          go_wp2_with (at_builtin; refine wpList_append_dstN _ rfl (.tmp 58) (.tmp 64) 26 26 rfl w.heap.size 34 i2 _ 2 16 Try.underlying26 hj0 hj1 hj2 hj3 rfl Av nv cv (vvs out) rfl (.inr ((HOWN2.out.alloc _).alloc _)) _ 1 (vvs [(cl, pl)]) rfl (HLV.out.src Try.underlying26 (vvs_one [(cl, pl)])) (by omega) (by omega) (by simp; omega) ?_; intro A9 c9 w9 h1 h2 h3 h4 h5 h6; have HO9 := Lib.hid (h2 (by omega)); have HN9 := Lib.hid h6; have hmid := round_mid HPS2.out HLF.out HOWN2.out HOFF.out h5; have HPS9 := Lib.hid hmid.1; have HLF9 := Lib.hid hmid.2.1; have HBX9 := Lib.hid hmid.2.2.1; have HZ9 := Lib.hid hmid.2.2.2; have hcN0 := (by rw [cell_of_row w9 _ 0 _ _ _ hmid.2.2.1]; rfl : w9.cell? ⟨w2.heap.size, 0, none⟩ = some (.int .i64 (cl : Int))); have hcN1 := (by rw [cell_of_row w9 _ 1 _ _ _ hmid.2.2.1]; rfl : w9.cell? ⟨w2.heap.size, 1, none⟩ = some (.int .i64 (pl : Int))); have hcN2 := (by rw [cell_of_row w9 _ 2 _ _ _ hmid.2.2.1]; rfl : w9.cell? ⟨w2.heap.size, 2, none⟩ = some (.slice (some ⟨xb, xo, none⟩) xn xc)); have hcN3 := (by rw [cell_of_row w9 _ 3 _ _ _ hmid.2.2.1]; rfl : w9.cell? ⟨w2.heap.size, 3, none⟩ = some (.int .i64 by_)); obtain ⟨xb', xo', hxA', hx0, e3⟩ := hmid.2.1.at0; clear e3; injection hxA' with hxA'; injection hxA' with e1 e2; subst e1 e2; clear h1 h2 h3 h4 h5 h6 hmid)
          have wr1 : IntKind.i64.wrap ((pl : Int) + 1) = (pl : Int) + 1 := IntWalk.i64_in _ (by omega)
          have wr2 : IntKind.i64.wrap (by_ - s) = by_ - s := IntWalk.i64_in _ (by omega)
          obtain ⟨sx, HSX⟩ : ∃ sx, Hid (sx = st.set cl (pl + 1, ([] : List Int))) := ⟨_, rfl⟩
          have HPSD : Hid (PS w w9.drew w.heap.size cap Aw nw cw W A m c d2 sb (st.set cl (pl + 1, []))) := HPS9.out.below (RowKit.Below.refl _ _).drew
          have hclt : cl < st.length := (List.getElem?_eq_some_iff.1 HS.out).1
          have HK0 : Hid ((st.set cl (pl + 1, ([] : List Int)))[cl]? = some (pl + 1, [])) := List.getElem?_set_self hclt
          have HDR := Lib.hid ((HLF9.out.is.drop (m := 1) (by have := HXN.out; simp only; omega)).drewN 1)
          have hNg : w.heap.size + 1 + 1 < w2.heap.size := HPS2.out.hp.lt
          have HZN : Hid ((∀ r, (Value.slice A m c).ownBlock = some r → r ≠ w2.heap.size) ∧ w2.heap.size < w9.drew.heap.size) := ⟨fun r hr => by have := (HPS2.out.hp.own.lt r hr).2; omega, by have := HZ9.out; show _ < w9.heap.size; omega⟩
          go_wp2_with fail
          by_cases hc1 : xc = 1
          · have HDR1 : Hid (Is w9.drew w9.drew.heap.size (some ⟨xb, xo, none⟩) 0 0 T) := by
              have h := HDR.out
              simp only [hc1, if_true, List.drop_succ_cons, List.drop_zero, Nat.sub_self, show xn - 1 = 0 from by omega] at h
              exact h
            subst hc1
            have HC := Lib.hid (back_step (pv := (pl : Int) + 1) (bv := by_ - s) HPSD.out HK0.out (by rw [List.length_set]; omega) HDR1.out (fun b o e _ => by
              injection e with e
              injection e with e1 e2
              subst e1
              exact HLF9.out.inn _ _ rfl) (H.out.wi.on HPSD.out.bel (Nat.le_refl _)) (by omega) HBT.out (by rw [List.length_set]; omega) (by omega) HBY.out)
            refine wp_region_noPanic ?_
            refine wp_region_held_drew (S := (fun w' => w'.cell? ⟨w2.heap.size, 0, none⟩ = some (.int .i64 (cl : Int)) ∧ w'.cell? ⟨w2.heap.size, 1, none⟩ = some (.int .i64 (pl : Int)) ∧ w'.cell? ⟨w2.heap.size, 2, none⟩ = some (.slice (some ⟨xb, xo, none⟩) xn 1) ∧ w'.cell? ⟨w2.heap.size, 3, none⟩ = some (.int .i64 by_))) (by kernel_rfl) ⟨hcN0, hcN1, hcN2, hcN3⟩ (fun hHeld => ?_)
            refine wpAnyH_take (i := 0) (oi := { dst := some 73, op := Op.move (Operand.tmp 12), type := 154, pos := "share.go:117", after := #[], guard := none }) (v := ?_) rfl (by kernel_rfl) (by kernel_rfl) (by kernel_rfl) (fun _ _ _ h => h) (Or.inl ⟨by rfl, ?_⟩) (by assumption) ?_
            rotate_left
            · intro w hSw; (try dsimp only at hSw); first | (go_simp; done) | (go_simp; with_reducible rfl)
            try simp only [Act.put, List.setIfInBounds_toArray, List.set_cons_zero, List.set_cons_succ]
            refine wpAnyH_take (i := 1) (oi := { dst := some 74, op := Op.fieldAddr 152 (Operand.tmp 17) 0, type := 0, pos := "share.go:117", after := #[], guard := none }) (v := ?_) rfl (by kernel_rfl) (by kernel_rfl) (by kernel_rfl) (fun _ _ _ h => h) (Or.inl ⟨by rfl, ?_⟩) (by assumption) ?_
            rotate_left
            · intro w hSw; (try dsimp only at hSw); first | (go_simp; done) | (go_simp; with_reducible rfl)
            try simp only [Act.put, List.setIfInBounds_toArray, List.set_cons_zero, List.set_cons_succ]
            refine wpAnyH_take (i := 2) (oi := { dst := some 75, op := Op.load 3 (Operand.tmp 74), type := 3, pos := "share.go:117", after := #[{ on := 1, ground := Ground.data }], guard := none }) (v := ?_) rfl (by kernel_rfl) (by kernel_rfl) (by kernel_rfl) (fun _ _ _ h => h) (Or.inl ⟨by rfl, ?_⟩) (by assumption) ?_
            rotate_left
            · intro w hSw; (try dsimp only at hSw); first | (go_simp; done) | (go_simp; with_reducible rfl)
            try simp only [Act.put, List.setIfInBounds_toArray, List.set_cons_zero, List.set_cons_succ]
            refine wpAnyH_take (i := 3) (oi := { dst := some 76, op := Op.fieldAddr 152 (Operand.tmp 17) 1, type := 0, pos := "share.go:117", after := #[], guard := none }) (v := ?_) rfl (by kernel_rfl) (by kernel_rfl) (by kernel_rfl) (fun _ _ _ h => h) (Or.inl ⟨by rfl, ?_⟩) (by assumption) ?_
            rotate_left
            · intro w hSw; (try dsimp only at hSw); first | (go_simp; done) | (go_simp; with_reducible rfl)
            try simp only [Act.put, List.setIfInBounds_toArray, List.set_cons_zero, List.set_cons_succ]
            refine wpAnyH_take (i := 4) (oi := { dst := some 77, op := Op.load 3 (Operand.tmp 76), type := 3, pos := "share.go:117", after := #[{ on := 3, ground := Ground.data }], guard := none }) (v := ?_) rfl (by kernel_rfl) (by kernel_rfl) (by kernel_rfl) (fun _ _ _ h => h) (Or.inl ⟨by rfl, ?_⟩) (by assumption) ?_
            rotate_left
            · intro w hSw; (try dsimp only at hSw); first | (go_simp; done) | (go_simp; with_reducible rfl)
            try simp only [Act.put, List.setIfInBounds_toArray, List.set_cons_zero, List.set_cons_succ]
            refine wpAnyH_take (i := 5) (oi := { dst := some 78, op := Op.binOp BinOp.add 3 (Operand.tmp 77) (Operand.const (Value.int IntKind.i64 1)) 3, type := 3, pos := "share.go:117", after := #[{ on := 4, ground := Ground.data }], guard := none }) (v := ?_) rfl (by kernel_rfl) (by kernel_rfl) (by kernel_rfl) (fun _ _ _ h => h) (Or.inl ⟨by rfl, ?_⟩) (by assumption) ?_
            rotate_left
            · intro w hSw; (try dsimp only at hSw); first | (go_simp; done) | (go_simp; with_reducible rfl)
            try simp only [Act.put, List.setIfInBounds_toArray, List.set_cons_zero, List.set_cons_succ]
            refine wpAnyH_take (i := 6) (oi := { dst := some 79, op := Op.fieldAddr 152 (Operand.tmp 17) 2, type := 0, pos := "share.go:117", after := #[], guard := none }) (v := ?_) rfl (by kernel_rfl) (by kernel_rfl) (by kernel_rfl) (fun _ _ _ h => h) (Or.inl ⟨by rfl, ?_⟩) (by assumption) ?_
            rotate_left
            · intro w hSw; (try dsimp only at hSw); first | (go_simp; done) | (go_simp; with_reducible rfl)
            try simp only [Act.put, List.setIfInBounds_toArray, List.set_cons_zero, List.set_cons_succ]
            refine wpAnyH_take (i := 7) (oi := { dst := some 80, op := Op.load 22 (Operand.tmp 79), type := 22, pos := "share.go:117", after := #[{ on := 6, ground := Ground.data }], guard := none }) (v := ?_) rfl (by kernel_rfl) (by kernel_rfl) (by kernel_rfl) (fun _ _ _ h => h) (Or.inl ⟨by rfl, ?_⟩) (by assumption) ?_
            rotate_left
            · intro w hSw; (try dsimp only at hSw); first | (go_simp; done) | (go_simp; with_reducible rfl)
            try simp only [Act.put, List.setIfInBounds_toArray, List.set_cons_zero, List.set_cons_succ]
            refine wpAnyH_take (i := 8) (oi := { dst := some 81, op := Op.slice 22 (Operand.tmp 80) (some (Operand.const (Value.int IntKind.i64 1))) none none, type := 22, pos := "share.go:117", after := #[{ on := 7, ground := Ground.data }], guard := none }) (v := ?_) rfl (by kernel_rfl) (by kernel_rfl) (by kernel_rfl) (fun _ _ _ h => h) (Or.inl ⟨by rfl, ?_⟩) (by assumption) ?_
            rotate_left
            · intro w hSw; (try dsimp only at hSw); first | (go_simp; done) | (go_simp; with_reducible rfl)
            try simp only [Act.put, List.setIfInBounds_toArray, List.set_cons_zero, List.set_cons_succ]
            refine wpAnyH_take (i := 9) (oi := { dst := some 82, op := Op.fieldAddr 152 (Operand.tmp 17) 3, type := 0, pos := "share.go:117", after := #[], guard := none }) (v := ?_) rfl (by kernel_rfl) (by kernel_rfl) (by kernel_rfl) (fun _ _ _ h => h) (Or.inl ⟨by rfl, ?_⟩) (by assumption) ?_
            rotate_left
            · intro w hSw; (try dsimp only at hSw); first | (go_simp; done) | (go_simp; with_reducible rfl)
            try simp only [Act.put, List.setIfInBounds_toArray, List.set_cons_zero, List.set_cons_succ]
            refine wpAnyH_take (i := 10) (oi := { dst := some 83, op := Op.load 3 (Operand.tmp 82), type := 3, pos := "share.go:117", after := #[{ on := 9, ground := Ground.data }], guard := none }) (v := ?_) rfl (by kernel_rfl) (by kernel_rfl) (by kernel_rfl) (fun _ _ _ h => h) (Or.inl ⟨by rfl, ?_⟩) (by assumption) ?_
            rotate_left
            · intro w hSw; (try dsimp only at hSw); first | (go_simp; done) | (go_simp; with_reducible rfl)
            try simp only [Act.put, List.setIfInBounds_toArray, List.set_cons_zero, List.set_cons_succ]
            refine wpAnyH_take (i := 11) (oi := { dst := some 84, op := Op.move (Operand.tmp 18), type := 3, pos := "share.go:117", after := #[], guard := none }) (v := ?_) rfl (by kernel_rfl) (by kernel_rfl) (by kernel_rfl) (fun _ _ _ h => h) (Or.inl ⟨by rfl, ?_⟩) (by assumption) ?_
            rotate_left
            · intro w hSw; (try dsimp only at hSw); first | (go_simp; done) | (go_simp; with_reducible rfl)
            try simp only [Act.put, List.setIfInBounds_toArray, List.set_cons_zero, List.set_cons_succ]
            refine wpAnyH_take (i := 12) (oi := { dst := some 85, op := Op.binOp BinOp.sub 3 (Operand.tmp 83) (Operand.tmp 84) 3, type := 3, pos := "share.go:117", after := #[{ on := 10, ground := Ground.data }, { on := 11, ground := Ground.data }], guard := none }) (v := ?_) rfl (by kernel_rfl) (by kernel_rfl) (by kernel_rfl) (fun _ _ _ h => h) (Or.inl ⟨by rfl, ?_⟩) (by assumption) ?_
            rotate_left
            · intro w hSw; (try dsimp only at hSw); first | (go_simp; done) | (go_simp; with_reducible rfl)
            try simp only [Act.put, List.setIfInBounds_toArray, List.set_cons_zero, List.set_cons_succ]
            refine wpAnyH_take (i := 13) (oi := { dst := some 86, op := Op.build 152 #[(0, Operand.tmp 75), (1, Operand.tmp 78), (2, Operand.tmp 81), (3, Operand.tmp 85)], type := 152, pos := "share.go:117", after := #[{ on := 2, ground := Ground.data }, { on := 5, ground := Ground.data }, { on := 8, ground := Ground.data }, { on := 12, ground := Ground.data }], guard := none }) (v := ?_) rfl (by kernel_rfl) (by kernel_rfl) (by kernel_rfl) (fun _ _ _ h => h) (Or.inl ⟨by rfl, ?_⟩) (by assumption) ?_
            rotate_left
            · intro w hSw; (try dsimp only at hSw); first | (go_simp; done) | (go_simp; with_reducible rfl)
            try simp only [Act.put, List.setIfInBounds_toArray, List.set_cons_zero, List.set_cons_succ]
            refine wpAnyH_ready (rs := [14]) (by kernel_rfl) (by simp) ?_
            refine (AllReadyH.cons (o := { dst := some 87, op := Op.call { callee := Callee.value (Operand.tmp 73), args := #[Operand.tmp 86], argTypes := #[152] }, type := 0, pos := "share.go:117", after := #[{ on := 0, ground := Ground.data }, { on := 13, ground := Ground.data }], guard := none }) rfl (fun K hK => ?_) AllReadyH.nil)
            go_simp
            with_reducible refine HC.out.mono ?_
            rintro e w7 ⟨rfl, A7, n7, c7, d7, h7, hn7, ho7⟩
            have H7 := Lib.hid h7
            have HN7 := Lib.hid hn7
            have HO7 := Lib.hid ho7
            have hKeep := box_keep hNg HZN.out ho7 hHeld
            clear h7 hn7 ho7
            go_wp2_with fail
            clear hHeld
            refine hK.out _ _ hKeep (fun hHeld => ?_)
            clear hK K
            try simp only [Act.put, List.setIfInBounds_toArray, List.set_cons_zero, List.set_cons_succ]
            refine wpAnyH_done (by kernel_rfl) ?_ _
            refine NoPanic.normal ?_
            skip
            go_wp2_with fail
            go_roundg (gk - 1)
            case measure => have := slen_set (q := pl + 1) HS.out; omega
            case rel =>
              exact ⟨st.set cl (pl + 1, T), o - s, out ++ [(cl, pl)], A9, nv + 1, c9, A7, n7, c7, d7, sb, by have := slen_set (q := pl + 1) HS.out; omega, rfl, rfl,
                round_end HP2.out ho HS.out HBEST.out HPSD.out (fun x e => (HPS2.out.sbk x e).2) (fun r hr => (HPS2.out.hp.own.lt r hr).2) hNg HO9.out HN9.out H7.out HN7.out HO7.out⟩
          · have HDR1 : Hid (Is w9.drew w9.drew.heap.size (some ⟨xb, xo + 1, none⟩) (xn - 1) (xc - 1) T) := by
              have h := HDR.out
              simp only [if_neg hc1, List.drop_succ_cons, List.drop_zero, Option.map_some, add_plain, Nat.mul_one] at h
              exact h
            have HC := Lib.hid (back_step (pv := (pl : Int) + 1) (bv := by_ - s) HPSD.out HK0.out (by rw [List.length_set]; omega) HDR1.out (fun b o e _ => by
              injection e with e
              injection e with e1 e2
              subst e1
              exact HLF9.out.inn _ _ rfl) (H.out.wi.on HPSD.out.bel (Nat.le_refl _)) (by omega) HBT.out (by rw [List.length_set]; omega) (by omega) HBY.out)
            refine wp_region_noPanic ?_
            refine wp_region_held_drew (S := (fun w' => w'.cell? ⟨w2.heap.size, 0, none⟩ = some (.int .i64 (cl : Int)) ∧ w'.cell? ⟨w2.heap.size, 1, none⟩ = some (.int .i64 (pl : Int)) ∧ w'.cell? ⟨w2.heap.size, 2, none⟩ = some (.slice (some ⟨xb, xo, none⟩) xn xc) ∧ w'.cell? ⟨w2.heap.size, 3, none⟩ = some (.int .i64 by_))) (by kernel_rfl) ⟨hcN0, hcN1, hcN2, hcN3⟩ (fun hHeld => ?_)
            refine wpAnyH_take (i := 0) (oi := { dst := some 73, op := Op.move (Operand.tmp 12), type := 154, pos := "share.go:117", after := #[], guard := none }) (v := ?_) rfl (by kernel_rfl) (by kernel_rfl) (by kernel_rfl) (fun _ _ _ h => h) (Or.inl ⟨by rfl, ?_⟩) (by assumption) ?_
            rotate_left
            · intro w hSw; (try dsimp only at hSw); first | (go_simp; done) | (go_simp; with_reducible rfl)
            try simp only [Act.put, List.setIfInBounds_toArray, List.set_cons_zero, List.set_cons_succ]
            refine wpAnyH_take (i := 1) (oi := { dst := some 74, op := Op.fieldAddr 152 (Operand.tmp 17) 0, type := 0, pos := "share.go:117", after := #[], guard := none }) (v := ?_) rfl (by kernel_rfl) (by kernel_rfl) (by kernel_rfl) (fun _ _ _ h => h) (Or.inl ⟨by rfl, ?_⟩) (by assumption) ?_
            rotate_left
            · intro w hSw; (try dsimp only at hSw); first | (go_simp; done) | (go_simp; with_reducible rfl)
            try simp only [Act.put, List.setIfInBounds_toArray, List.set_cons_zero, List.set_cons_succ]
            refine wpAnyH_take (i := 2) (oi := { dst := some 75, op := Op.load 3 (Operand.tmp 74), type := 3, pos := "share.go:117", after := #[{ on := 1, ground := Ground.data }], guard := none }) (v := ?_) rfl (by kernel_rfl) (by kernel_rfl) (by kernel_rfl) (fun _ _ _ h => h) (Or.inl ⟨by rfl, ?_⟩) (by assumption) ?_
            rotate_left
            · intro w hSw; (try dsimp only at hSw); first | (go_simp; done) | (go_simp; with_reducible rfl)
            try simp only [Act.put, List.setIfInBounds_toArray, List.set_cons_zero, List.set_cons_succ]
            refine wpAnyH_take (i := 3) (oi := { dst := some 76, op := Op.fieldAddr 152 (Operand.tmp 17) 1, type := 0, pos := "share.go:117", after := #[], guard := none }) (v := ?_) rfl (by kernel_rfl) (by kernel_rfl) (by kernel_rfl) (fun _ _ _ h => h) (Or.inl ⟨by rfl, ?_⟩) (by assumption) ?_
            rotate_left
            · intro w hSw; (try dsimp only at hSw); first | (go_simp; done) | (go_simp; with_reducible rfl)
            try simp only [Act.put, List.setIfInBounds_toArray, List.set_cons_zero, List.set_cons_succ]
            refine wpAnyH_take (i := 4) (oi := { dst := some 77, op := Op.load 3 (Operand.tmp 76), type := 3, pos := "share.go:117", after := #[{ on := 3, ground := Ground.data }], guard := none }) (v := ?_) rfl (by kernel_rfl) (by kernel_rfl) (by kernel_rfl) (fun _ _ _ h => h) (Or.inl ⟨by rfl, ?_⟩) (by assumption) ?_
            rotate_left
            · intro w hSw; (try dsimp only at hSw); first | (go_simp; done) | (go_simp; with_reducible rfl)
            try simp only [Act.put, List.setIfInBounds_toArray, List.set_cons_zero, List.set_cons_succ]
            refine wpAnyH_take (i := 5) (oi := { dst := some 78, op := Op.binOp BinOp.add 3 (Operand.tmp 77) (Operand.const (Value.int IntKind.i64 1)) 3, type := 3, pos := "share.go:117", after := #[{ on := 4, ground := Ground.data }], guard := none }) (v := ?_) rfl (by kernel_rfl) (by kernel_rfl) (by kernel_rfl) (fun _ _ _ h => h) (Or.inl ⟨by rfl, ?_⟩) (by assumption) ?_
            rotate_left
            · intro w hSw; (try dsimp only at hSw); first | (go_simp; done) | (go_simp; with_reducible rfl)
            try simp only [Act.put, List.setIfInBounds_toArray, List.set_cons_zero, List.set_cons_succ]
            refine wpAnyH_take (i := 6) (oi := { dst := some 79, op := Op.fieldAddr 152 (Operand.tmp 17) 2, type := 0, pos := "share.go:117", after := #[], guard := none }) (v := ?_) rfl (by kernel_rfl) (by kernel_rfl) (by kernel_rfl) (fun _ _ _ h => h) (Or.inl ⟨by rfl, ?_⟩) (by assumption) ?_
            rotate_left
            · intro w hSw; (try dsimp only at hSw); first | (go_simp; done) | (go_simp; with_reducible rfl)
            try simp only [Act.put, List.setIfInBounds_toArray, List.set_cons_zero, List.set_cons_succ]
            refine wpAnyH_take (i := 7) (oi := { dst := some 80, op := Op.load 22 (Operand.tmp 79), type := 22, pos := "share.go:117", after := #[{ on := 6, ground := Ground.data }], guard := none }) (v := ?_) rfl (by kernel_rfl) (by kernel_rfl) (by kernel_rfl) (fun _ _ _ h => h) (Or.inl ⟨by rfl, ?_⟩) (by assumption) ?_
            rotate_left
            · intro w hSw; (try dsimp only at hSw); first | (go_simp; done) | (go_simp; with_reducible rfl)
            try simp only [Act.put, List.setIfInBounds_toArray, List.set_cons_zero, List.set_cons_succ]
            refine wpAnyH_take (i := 8) (oi := { dst := some 81, op := Op.slice 22 (Operand.tmp 80) (some (Operand.const (Value.int IntKind.i64 1))) none none, type := 22, pos := "share.go:117", after := #[{ on := 7, ground := Ground.data }], guard := none }) (v := ?_) rfl (by kernel_rfl) (by kernel_rfl) (by kernel_rfl) (fun _ _ _ h => h) (Or.inl ⟨by rfl, ?_⟩) (by assumption) ?_
            rotate_left
            · intro w hSw; (try dsimp only at hSw); first | (go_simp; done) | (go_simp; with_reducible rfl)
            try simp only [Act.put, List.setIfInBounds_toArray, List.set_cons_zero, List.set_cons_succ]
            refine wpAnyH_take (i := 9) (oi := { dst := some 82, op := Op.fieldAddr 152 (Operand.tmp 17) 3, type := 0, pos := "share.go:117", after := #[], guard := none }) (v := ?_) rfl (by kernel_rfl) (by kernel_rfl) (by kernel_rfl) (fun _ _ _ h => h) (Or.inl ⟨by rfl, ?_⟩) (by assumption) ?_
            rotate_left
            · intro w hSw; (try dsimp only at hSw); first | (go_simp; done) | (go_simp; with_reducible rfl)
            try simp only [Act.put, List.setIfInBounds_toArray, List.set_cons_zero, List.set_cons_succ]
            refine wpAnyH_take (i := 10) (oi := { dst := some 83, op := Op.load 3 (Operand.tmp 82), type := 3, pos := "share.go:117", after := #[{ on := 9, ground := Ground.data }], guard := none }) (v := ?_) rfl (by kernel_rfl) (by kernel_rfl) (by kernel_rfl) (fun _ _ _ h => h) (Or.inl ⟨by rfl, ?_⟩) (by assumption) ?_
            rotate_left
            · intro w hSw; (try dsimp only at hSw); first | (go_simp; done) | (go_simp; with_reducible rfl)
            try simp only [Act.put, List.setIfInBounds_toArray, List.set_cons_zero, List.set_cons_succ]
            refine wpAnyH_take (i := 11) (oi := { dst := some 84, op := Op.move (Operand.tmp 18), type := 3, pos := "share.go:117", after := #[], guard := none }) (v := ?_) rfl (by kernel_rfl) (by kernel_rfl) (by kernel_rfl) (fun _ _ _ h => h) (Or.inl ⟨by rfl, ?_⟩) (by assumption) ?_
            rotate_left
            · intro w hSw; (try dsimp only at hSw); first | (go_simp; done) | (go_simp; with_reducible rfl)
            try simp only [Act.put, List.setIfInBounds_toArray, List.set_cons_zero, List.set_cons_succ]
            refine wpAnyH_take (i := 12) (oi := { dst := some 85, op := Op.binOp BinOp.sub 3 (Operand.tmp 83) (Operand.tmp 84) 3, type := 3, pos := "share.go:117", after := #[{ on := 10, ground := Ground.data }, { on := 11, ground := Ground.data }], guard := none }) (v := ?_) rfl (by kernel_rfl) (by kernel_rfl) (by kernel_rfl) (fun _ _ _ h => h) (Or.inl ⟨by rfl, ?_⟩) (by assumption) ?_
            rotate_left
            · intro w hSw; (try dsimp only at hSw); first | (go_simp; done) | (go_simp; with_reducible rfl)
            try simp only [Act.put, List.setIfInBounds_toArray, List.set_cons_zero, List.set_cons_succ]
            refine wpAnyH_take (i := 13) (oi := { dst := some 86, op := Op.build 152 #[(0, Operand.tmp 75), (1, Operand.tmp 78), (2, Operand.tmp 81), (3, Operand.tmp 85)], type := 152, pos := "share.go:117", after := #[{ on := 2, ground := Ground.data }, { on := 5, ground := Ground.data }, { on := 8, ground := Ground.data }, { on := 12, ground := Ground.data }], guard := none }) (v := ?_) rfl (by kernel_rfl) (by kernel_rfl) (by kernel_rfl) (fun _ _ _ h => h) (Or.inl ⟨by rfl, ?_⟩) (by assumption) ?_
            rotate_left
            · intro w hSw; (try dsimp only at hSw); first | (go_simp; done) | (go_simp; with_reducible rfl)
            try simp only [Act.put, List.setIfInBounds_toArray, List.set_cons_zero, List.set_cons_succ]
            refine wpAnyH_ready (rs := [14]) (by kernel_rfl) (by simp) ?_
            refine (AllReadyH.cons (o := { dst := some 87, op := Op.call { callee := Callee.value (Operand.tmp 73), args := #[Operand.tmp 86], argTypes := #[152] }, type := 0, pos := "share.go:117", after := #[{ on := 0, ground := Ground.data }, { on := 13, ground := Ground.data }], guard := none }) rfl (fun K hK => ?_) AllReadyH.nil)
            go_simp
            with_reducible refine HC.out.mono ?_
            rintro e w7 ⟨rfl, A7, n7, c7, d7, h7, hn7, ho7⟩
            have H7 := Lib.hid h7
            have HN7 := Lib.hid hn7
            have HO7 := Lib.hid ho7
            have hKeep := box_keep hNg HZN.out ho7 hHeld
            clear h7 hn7 ho7
            go_wp2_with fail
            clear hHeld
            refine hK.out _ _ hKeep (fun hHeld => ?_)
            clear hK K
            try simp only [Act.put, List.setIfInBounds_toArray, List.set_cons_zero, List.set_cons_succ]
            refine wpAnyH_done (by kernel_rfl) ?_ _
            refine NoPanic.normal ?_
            skip
            go_wp2_with fail
            go_roundg (gk - 1)
            case measure => have := slen_set (q := pl + 1) HS.out; omega
            case rel =>
              exact ⟨st.set cl (pl + 1, T), o - s, out ++ [(cl, pl)], A9, nv + 1, c9, A7, n7, c7, d7, sb, by have := slen_set (q := pl + 1) HS.out; omega, rfl, rfl,
                round_end HP2.out ho HS.out HBEST.out HPSD.out (fun x e => (HPS2.out.sbk x e).2) (fun r hr => (HPS2.out.hp.own.lt r hr).2) hNg HO9.out HN9.out H7.out HN7.out HO7.out⟩
        · have HGO := Lib.hid (HP2.out.run [] (Goes.done (by omega)))
          go_wp2_with fail
          go_ret
          refine ⟨out, ?_, Av, nv, cv, rfl, HP2.out.own, HP2.out.ps.bel⟩
          have h1 := HGO.out
          rw [List.append_nil] at h1
          rw [HST0.out, ← HO0.out]
          exact h1
end Go.Proofs.Ytfmfamnngfanfaa
