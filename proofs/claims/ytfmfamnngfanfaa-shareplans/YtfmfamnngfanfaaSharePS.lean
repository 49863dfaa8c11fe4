/-
  THE STATE of share.plan: its heap, what its lines stand for; what stays.
  No statement is proved here.
-/
import Derived.Test.YtfmfamnngfanfaaShareAdd
namespace Go.Proofs.Ytfmfamnngfanfaa
open Go.RowKit Go.Sort

/-! ### what is left of all classes -/
def ssum (st : List Cs) : Int := isum (st.map fun x => isum x.2)
def slen : List Cs → Nat
  | [] => 0
  | x :: st => x.2.length + slen st
theorem ssum_cons (x : Cs) (st : List Cs) : ssum (x :: st) = isum x.2 + ssum st := rfl
theorem ssum_app (a b : List Cs) : ssum (a ++ b) = ssum a + ssum b := by unfold ssum; rw [List.map_append, isum_app]
theorem ssum_set {st : List Cs} {k p q : Nat} {s : Int} {T : List Int} (h : st[k]? = some (p, s :: T)) : ssum (st.set k (q, T)) = ssum st - s := by
  induction st generalizing k with
  | nil => simp at h
  | cons x st ih =>
    rcases k with _ | k
    · simp at h
      subst h
      rw [List.set_cons_zero, ssum_cons, ssum_cons, isum_cons]
      simp only
      omega
    · rw [List.set_cons_succ, ssum_cons, ssum_cons, ih (by simpa using h)]
      omega
theorem slen_set {st : List Cs} {k p q : Nat} {s : Int} {T : List Int} (h : st[k]? = some (p, s :: T)) : slen (st.set k (q, T)) + 1 = slen st := by
  induction st generalizing k with
  | nil => simp at h
  | cons x st ih =>
    rcases k with _ | k
    · simp at h
      subst h
      simp only [List.set_cons_zero, slen, List.length_cons]
      omega
    · have := ih (k := k) (by simpa using h)
      simp only [List.set_cons_succ, slen]
      omega
theorem ssum_pos {st : List Cs} (h : 0 < ssum st) : ∃ (k p : Nat) (S : List Int), st[k]? = some (p, S) ∧ S ≠ [] := by
  induction st with
  | nil => simp [ssum, isum] at h
  | cons x st ih =>
    obtain ⟨p, S⟩ := x
    rcases S with _ | ⟨s, T⟩
    · rw [ssum_cons] at h
      have : isum ([] : List Int) = 0 := rfl
      simp only at h
      obtain ⟨k, q, S, h1, h2⟩ := ih (by omega)
      exact ⟨k + 1, q, S, by simpa using h1, h2⟩
    · exact ⟨0, p, s :: T, rfl, by simp⟩
/-- Classes whose numbers may be reckoned with. -/
structure StOk (st : List Cs) : Prop where
  each : ∀ x ∈ st, ∀ s ∈ x.2, 0 ≤ s ∧ s ≤ 1048576
  plc : ∀ x ∈ st, x.1 + x.2.length ≤ 100000
  len : st.length ≤ 8
theorem isum_le {S : List Int} (h : ∀ s ∈ S, 0 ≤ s ∧ s ≤ 1048576) : 0 ≤ isum S ∧ isum S ≤ 1048576 * S.length := by
  induction S with
  | nil => simp [isum]
  | cons x S ih =>
    have a := ih (fun y hy => h y (List.mem_cons_of_mem _ hy))
    have b := h x List.mem_cons_self
    rw [isum_cons, List.length_cons]
    omega
theorem StOk.one {st : List Cs} (h : StOk st) {x : Cs} (hx : x ∈ st) : 0 ≤ isum x.2 ∧ isum x.2 ≤ 104857600000 := by
  have a := isum_le (h.each x hx)
  have b := h.plc x hx
  omega
theorem ssum_le : ∀ {st : List Cs}, (∀ x ∈ st, 0 ≤ isum x.2 ∧ isum x.2 ≤ 104857600000) → 0 ≤ ssum st ∧ ssum st ≤ 104857600000 * st.length
  | [], _ => by simp [ssum, isum]
  | x :: st, h => by
    have a := ssum_le (st := st) (fun y hy => h y (List.mem_cons_of_mem _ hy))
    have b := h x List.mem_cons_self
    rw [ssum_cons, List.length_cons]
    omega
theorem StOk.sum {st : List Cs} (h : StOk st) : 0 ≤ ssum st ∧ ssum st ≤ 838860800000 := by
  have a := ssum_le (fun x hx => h.one (x := x) hx)
  have b := h.len
  omega
theorem StOk.set {st : List Cs} (h : StOk st) {k p : Nat} {s : Int} {T : List Int} (hk : st[k]? = some (p, s :: T)) : StOk (st.set k (p + 1, T)) := by
  have hm := List.mem_of_getElem? hk
  have a := h.each _ hm
  have b := h.plc _ hm
  refine ⟨fun x hx => ?_, fun x hx => ?_, by rw [List.length_set]; exact h.len⟩
  · rcases List.mem_or_eq_of_mem_set hx with hx | rfl
    · exact h.each x hx
    · exact fun s hs => a s (List.mem_cons_of_mem _ hs)
  · rcases List.mem_or_eq_of_mem_set hx with hx | rfl
    · exact h.plc x hx
    · simp only [List.length_cons] at b ⊢
      omega

/-! ### the state -/
theorem Lines.fill {w : World} {base : Nat} {cap : Int} {W : List Int} {sb : Option Nat} {st : List Cs} {L : List Ln} {y : Ln} {S : List Int} {k q : Nat} (h : Lines w base cap W sb st L) (hk : st[k]? = some (q, [])) (hy : LineFor w base cap W sb y S) (hc : y.cls = k) : Lines w base cap W sb (st.set k (y.plc, S)) (y :: L) := by
  have hlt : k < st.length := (List.getElem?_eq_some_iff.1 hk).1
  have hno : ∀ z ∈ L, z.cls ≠ k := fun z hz e => by
    obtain ⟨T, h1, h2⟩ := h.one z hz
    rw [e, hk] at h1
    injection h1 with h1
    injection h1 with _ h1
    exact h2.ne h1.symm
  refine ⟨fun z hz => ?_, fun j p T h1 h2 => ?_, ?_⟩
  · rcases List.mem_cons.1 hz with rfl | hz
    · exact ⟨S, by rw [hc, List.getElem?_set_self hlt], hy⟩
    · obtain ⟨T, h1, h2⟩ := h.one z hz
      exact ⟨T, by rw [List.getElem?_set_ne (fun e => hno z hz e.symm)]; exact h1, h2⟩
  · by_cases e : k = j
    · exact ⟨y, List.mem_cons_self, by omega⟩
    · rw [List.getElem?_set_ne e] at h1
      obtain ⟨z, hz, e2⟩ := h.all j p T h1 h2
      exact ⟨z, List.mem_cons_of_mem _ hz, e2⟩
  · rw [List.map_cons, List.nodup_cons]
    refine ⟨fun hm => ?_, h.nd⟩
    obtain ⟨z, hz, e⟩ := List.mem_map.1 hm
    exact hno z hz (by omega)
structure PS (w wr : World) (base : Nat) (cap : Int) (Aw : Option Addr) (nw cw : Nat) (W : List Int) (A : Option Addr) (n c : Nat) (d : Array Ln) (sb : Option Nat) (st : List Cs) : Prop where
  bel : RowKit.Below base w wr
  kc : wr.cell? ⟨base, 0, none⟩ = some (.int .i64 cap)
  wc : wr.cell? ⟨base + 1, 0, none⟩ = some (.slice Aw nw cw)
  hp : Hp wr base (base + 1 + 1) A n c d
  heap : Heap lessL d n
  row : ∀ k, (Value.slice A n c).ownBlock = some k → base + 1 + 1 < k ∧ some k ≠ sb
  sbk : ∀ s, sb = some s → base + 1 + 1 < s ∧ s < wr.heap.size
  lns : Lines wr base cap W sb st d.toList
  cnt : n ≤ st.length
section
variable {w wr w2 : World} {base : Nat} {cap : Int} {Aw : Option Addr} {nw cw : Nat} {W : List Int} {A A2 : Option Addr} {n c n2 c2 : Nat} {d d2 : Array Ln} {sb : Option Nat} {st : List Cs}
theorem PS.its (h : PS w wr base cap Aw nw cw W A n c d sb st) : ∀ b, b < wr.heap.size → Its (base + 1 + 1) A n c b → base ≤ b ∧ some b ≠ sb := fun b _ hb => by
  rcases hb with rfl | hb
  · exact ⟨by omega, fun e => by have := (h.sbk _ e.symm).1; omega⟩
  · have := h.row b hb.symm
    exact ⟨by omega, this.2⟩
/-- Blocks that are neither the heap's nor a line's stay, or turn, as they like. -/
theorem PS.other {Q : Nat → Prop} (h : PS w wr base cap Aw nw cw W A n c d sb st) (ho : Only Q wr w2) (hq : ∀ b, b < wr.heap.size → Q b → base + 1 + 1 < b ∧ some b ≠ sb ∧ some b ≠ (Value.slice A n c).ownBlock) : PS w w2 base cap Aw nw cw W A n c d sb st := by
  have hg := h.hp.lt
  have keep : ∀ b, b < wr.heap.size → (b ≤ base + 1 + 1 ∨ some b = (Value.slice A n c).ownBlock) → w2.heap[b]? = wr.heap[b]? := fun b hb hs => ho.block b hb (fun hQ => by
    have := hq b hb hQ
    rcases hs with hs | hs
    · omega
    · exact this.2.2 hs)
  have hcell : ∀ b, b ≤ base + 1 + 1 → w2.cell? ⟨b, 0, none⟩ = wr.cell? ⟨b, 0, none⟩ := fun b hb => World.cell?_of_block (a := ⟨b, 0, none⟩) (keep b (by omega) (.inl hb))
  refine ⟨h.bel.trans ⟨ho.os, ho.tape, ho.output, ho.size, fun b hb => ?_⟩, (hcell _ (by omega)).trans h.kc, (hcell _ (by omega)).trans h.wc, ⟨(hcell _ (Nat.le_refl _)).trans h.hp.cell, ?_, ?_, h.hp.off, h.hp.gb⟩, h.heap, h.row, fun s e => ⟨(h.sbk s e).1, Nat.lt_of_lt_of_le (h.sbk s e).2 ho.size⟩, h.lns.only ho (fun b hb hQ => ?_), h.cnt⟩
  · by_cases hbz : b < wr.heap.size
    · exact ho.block b hbz (fun hQ => by have := (hq b hbz hQ).1; omega)
    · have := h.hp.lt; omega
  · exact (World.frozen?_of_block (a := ⟨base + 1 + 1, 0, none⟩) (keep _ hg (.inl (Nat.le_refl _)))).trans h.hp.frz
  · exact own_same h.hp.own (fun r hr => keep r (h.hp.own.lt r hr).2 (.inr hr.symm))
  · have := hq b hb hQ
    exact ⟨by omega, this.2.1⟩
theorem PS.below (h : PS w wr base cap Aw nw cw W A n c d sb st) (hb : RowKit.Below wr.heap.size wr w2) : PS w w2 base cap Aw nw cw W A n c d sb st :=
  h.other (Only.of_below (S := fun _ => False) hb) (fun _ _ h => h.elim)
/-- The heap itself has turned. -/
theorem PS.moved (h : PS w wr base cap Aw nw cw W A n c d sb st) (hp2 : Hp w2 base (base + 1 + 1) A2 n2 c2 d2) (hh2 : Heap lessL d2 n2) (hn : Near wr A A2) (ho : Only (Its (base + 1 + 1) A n c) wr w2) {st2 : List Cs} (hl : Lines w2 base cap W sb st d.toList → Lines w2 base cap W sb st2 d2.toList) (hc : n2 ≤ st2.length) :
    PS w w2 base cap Aw nw cw W A2 n2 c2 d2 sb st2 := by
  have hg := h.hp.lt
  have hits := h.its
  have low : ∀ b, b < base + 1 + 1 → w2.heap[b]? = wr.heap[b]? := fun b hb => ho.block b (by omega) (fun hQ => by
    rcases hQ with rfl | hQ
    · omega
    · have := (h.row b hQ.symm).1; omega)
  refine ⟨h.bel.trans ⟨ho.os, ho.tape, ho.output, ho.size, fun b hb => low b (by omega)⟩, (World.cell?_of_block (a := ⟨base, 0, none⟩) (low _ (by show base < base + 1 + 1; omega))).trans h.kc, (World.cell?_of_block (a := ⟨base + 1, 0, none⟩) (low _ (by show base + 1 < base + 1 + 1; omega))).trans h.wc, hp2, hh2, fun k hk => ?_, fun s e => ⟨(h.sbk s e).1, Nat.lt_of_lt_of_le (h.sbk s e).2 ho.size⟩, hl (h.lns.only ho hits), hc⟩
  rcases hn with rfl | ⟨b, rfl, hb⟩
  · exact h.row k (by rw [own_block _ n c n2 c2]; exact hk)
  · simp [Value.ownBlock] at hk
    subst hk
    exact ⟨by omega, fun e => by have := (h.sbk _ e.symm).2; omega⟩
/-- The row that is made for the class that grows. -/
theorem PS.newSb (h : PS w wr base cap Aw nw cw W A n c d none st) {s : Nat} (h1 : base + 1 + 1 < s) (h2 : s < wr.heap.size) (h3 : ∀ k, (Value.slice A n c).ownBlock = some k → k ≠ s) : PS w wr base cap Aw nw cw W A n c d (some s) st :=
  ⟨h.bel, h.kc, h.wc, h.hp, h.heap, fun k hk => ⟨(h.row k hk).1, fun e => h3 k hk (by injection e)⟩, fun t e => by injection e with e; subst e; exact ⟨h1, h2⟩, ⟨fun x hx => by
    obtain ⟨S, k1, k2⟩ := h.lns.one x hx
    exact ⟨S, k1, ⟨k2.ne, k2.is, k2.byt, k2.exc, fun b o e => by rcases k2.inn b o e with k | k; exact .inl k; cases k⟩⟩, h.lns.all, h.lns.nd⟩, h.cnt⟩
/-- Behind a class that was handed to the heap. -/
theorem PS.added (h : PS w wr base cap Aw nw cw W A n c d sb st) {x : Ln} {S : List Int} (hp2 : Hp w2 base (base + 1 + 1) A2 n2 c2 d2) (hh2 : Heap lessL d2 n2) (hperm : d2.toList.Perm (if x.n = 0 then d.toList else x :: d.toList)) (hn2 : n2 ≤ n + 1) (hn : Near wr A A2) (ho : Only (Its (base + 1 + 1) A n c) wr w2)
    (hx : S ≠ [] → LineFor wr base cap W sb x S) (h0 : S = [] ↔ x.n = 0) (hc : x.cls = st.length) (hp : x.plc = 0) : PS w w2 base cap Aw nw cw W A2 n2 c2 d2 sb (st ++ [(0, S)]) := by
  refine h.moved hp2 hh2 hn ho (fun hl => ?_) (by have := h.cnt; simp; omega)
  by_cases e : S = []
  · rw [if_pos (h0.1 e)] at hperm
    subst e
    exact hl.skip.perm hperm
  · rw [if_neg (fun k => e (h0.2 k))] at hperm
    exact (hl.come ((hx e).only ho h.its) hc hp).perm hperm
/-- One was taken off the heap. -/
theorem PS.popped (h : PS w wr base cap Aw nw cw W A (n + 1) c d sb st) {x : Ln} (hp2 : Hp w2 base (base + 1 + 1) A n c d2) (hh2 : Heap lessL d2 n) (hperm : d.toList.Perm (x :: d2.toList)) (ho : Only (Its (base + 1 + 1) A n c) wr w2) :
    PS w w2 base cap Aw nw cw W A n c d2 sb (st.set x.cls (x.plc + 1, [])) ∧ ∃ S, st[x.cls]? = some (x.plc, S) ∧ LineFor w2 base cap W sb x S := by
  have ho' : Only (Its (base + 1 + 1) A (n + 1) c) wr w2 := ho.mono (fun i _ hi => by
    rcases hi with rfl | hi
    · exact .inl rfl
    · exact .inr (by rw [own_block _ _ _ n c]; exact hi))
  refine ⟨h.moved hp2 hh2 (.inl rfl) ho' (fun hl => (hl.perm hperm.symm).gone _) (by have := h.cnt; simp; omega), ?_⟩
  have hl := (h.lns.only ho' h.its).perm hperm.symm
  exact hl.one x List.mem_cons_self
/-- What is left of its class was handed back. -/
theorem PS.backed (h : PS w wr base cap Aw nw cw W A n c d sb st) {x : Ln} {S : List Int} {k q : Nat} (hk : st[k]? = some (q, [])) (hp2 : Hp w2 base (base + 1 + 1) A2 n2 c2 d2) (hh2 : Heap lessL d2 n2) (hperm : d2.toList.Perm (if x.n = 0 then d.toList else x :: d.toList)) (hn2 : n2 ≤ st.length) (hn : Near wr A A2) (ho : Only (Its (base + 1 + 1) A n c) wr w2)
    (hx : S ≠ [] → LineFor wr base cap W sb x S) (h0 : S = [] ↔ x.n = 0) (hc : x.cls = k) (hp : x.plc = q) : PS w w2 base cap Aw nw cw W A2 n2 c2 d2 sb (st.set k (q, S)) := by
  refine h.moved hp2 hh2 hn ho (fun hl => ?_) (by simpa using hn2)
  by_cases e : S = []
  · rw [if_pos (h0.1 e)] at hperm
    subst e
    have e2 : st.set k (q, []) = st := by
      apply List.ext_getElem?
      intro j
      by_cases ej : k = j
      · subst ej
        rw [List.getElem?_set_self (List.getElem?_eq_some_iff.1 hk).1, hk]
      · rw [List.getElem?_set_ne ej]
    rw [e2]
    exact hl.perm hperm
  · rw [if_neg (fun k => e (h0.2 k))] at hperm
    subst hp
    exact (hl.fill hk ((hx e).only ho h.its) hc).perm hperm
end
end Go.Proofs.Ytfmfamnngfanfaa
