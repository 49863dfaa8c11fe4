/-
  TEXTS OF EARLIER ROUNDS, laid together: part 8.
  No statement is proved here.
-/
import Derived.Test.YtbnhemmklbbnmaaBdLot7
import Derived.Maps.RangeWalk
import Derived.Sort.MapsRangeIn

/-! ## MapWalk -/
namespace Go.Proofs.Ytbnhemmklbbnmaa
open Go Go.Maps Go.RowKit Go.ChangeMaps

/-- A walk (block r) over the map in block b: these numbers have come; no more than cnt are left. -/
structure Rg (P : Program) (t : TypeId) (w : World) (b r n : Nat) (f : Nat → Option Value) (cnt : Nat) (ss : List Nat) : Prop where
  ex : ∃ (D : DataW Value) (left : Lit → Bool), w.ranges P t asIs b r n D left cnt ∧ (∀ k : Nat, Maps.has D (kl k) = (f k).isSome ∧ ∀ v, f k = some v → ∀ z, D.atKey (kl k) z = .held v) ∧ ∀ k, k ∈ ss ↔ (f k).isSome = true ∧ left (kl k) = false
  nd : ss.Nodup
  len : ss.length + cnt ≤ n
section
variable {P : Program} {t e : TypeId} {w w' : World} {b r n cnt : Nat} {f : Nat → Option Value} {ss : List Nat}
theorem Rg.kept {row : Option Nat} (h : Rg P t w b r n f cnt ss) (hg : w.grownBy w' row) (hb : some b ≠ row) (hr : some r ≠ row) : Rg P t w' b r n f cnt ss := by
  obtain ⟨D, left, h1, h2⟩ := h.ex
  exact ⟨⟨D, left, h1.kept hg hb hr, h2⟩, h.nd, h.len⟩
theorem Rg.only {S : Nat → Prop} (h : Rg P t w b r n f cnt ss) (ho : Only S w w') (hb : ¬ S b) (hr : ¬ S r) : Rg P t w' b r n f cnt ss := by
  obtain ⟨D, left, h1, h2⟩ := h.ex
  have e1 := ho.block b h1.owns.lt hb
  have e2 := ho.block r h1.lt hr
  obtain ⟨es, clock, since, seen, c0, hb', F, hs, hD, hr', rest⟩ := h1
  exact ⟨⟨D, left, ⟨es, clock, since, seen, c0, e1.trans hb', F, hs, hD, e2.trans hr', rest⟩, h2⟩, h.nd, h.len⟩
theorem Rg.lt (h : Rg P t w b r n f cnt ss) : r < w.heap.size ∧ b < w.heap.size := by
  obtain ⟨D, left, h1, _⟩ := h.ex
  exact ⟨h1.lt, h1.owns.lt⟩
theorem Rg.start {D : DataW Value} (h : w.ranges P t asIs b r n D (Maps.has D) n) (hf : ∀ k : Nat, Maps.has D (kl k) = (f k).isSome ∧ ∀ v, f k = some v → ∀ z, D.atKey (kl k) z = .held v) : Rg P t w b r n f n [] :=
  ⟨⟨D, _, h, hf, fun k => by
    constructor
    · intro hk; cases hk
    · rintro ⟨h1, h2⟩
      rw [(hf k).1, h1] at h2
      cases h2⟩, List.nodup_nil, by simp⟩
theorem kl_same (x y : Nat) : (kl x).sameKey (kl y) = decide (x = y) := by
  unfold kl Lit.sameKey
  simp
  omega
theorem Rg.step {D : DataW Value} {left : Lit → Bool} {x : Nat} {v : Value} {cnt' : Nat} (hl : w'.ranges P t asIs b r n D (fun z => left z && !z.sameKey (kl x)) cnt') (hf : ∀ k : Nat, Maps.has D (kl k) = (f k).isSome ∧ ∀ v, f k = some v → ∀ z, D.atKey (kl k) z = .held v)
    (hss : ∀ k, k ∈ ss ↔ (f k).isSome = true ∧ left (kl k) = false) (hx : left (kl x) = true) (hat : ∀ z, D.atKey (kl x) z = .held v) (hc : cnt' < cnt) (hnd : ss.Nodup) (hlen : ss.length + cnt ≤ n) : Rg P t w' b r n f cnt' (ss ++ [x]) ∧ f x = some v ∧ x ∉ ss := by
  have hfx : (f x).isSome = true := by rw [← (hf x).1]; exact has_true_of_atKey hat
  obtain ⟨u, hu⟩ := Option.isSome_iff_exists.1 hfx
  have huv : u = v := by
    have h1 := (hf x).2 u hu (.held u)
    rw [hat] at h1
    injection h1 with h1
    exact h1.symm
  have hxs : x ∉ ss := fun hin => by
    have := ((hss x).1 hin).2
    rw [hx] at this
    cases this
  refine ⟨⟨⟨D, _, hl, hf, fun k => ?_⟩, ?_, by simp; omega⟩, by rw [hu, huv], hxs⟩
  · rw [List.mem_append, List.mem_singleton, hss k, kl_same]
    by_cases e : k = x
    · subst e
      simp [hfx]
    · simp [e]
  · rw [List.nodup_append]
    exact ⟨hnd, by simp, fun a ha c hc e => by rw [List.mem_singleton] at hc; subst hc e; exact hxs ha⟩
theorem inv64 (ht : P.underlying t = some (.int .u64)) (key : Value) (q : Lit) (h : keyOf P t key = some q) : ∃ x : Nat, key = (fun x : Nat => Value.int .u64 (x : Int)) x := by
  obtain ⟨x, rfl, _, hw⟩ := Maps.keyOf_int_inv ht h
  have h2 := bounds_u64 hw
  exact ⟨x.toNat, by show _ = Value.int .u64 (x.toNat : Int); rw [Int.toNat_of_nonneg h2.1]⟩
theorem inv64' (ht : P.underlying t = some (.int .u64)) {x : Nat} {q : Lit} (h : keyOf P t (.int .u64 (x : Int)) = some q) : q = kl x ∧ x < 18446744073709551616 := by
  obtain ⟨y, e, rfl, hw⟩ := Maps.keyOf_int_inv ht h
  injection e with _ e
  subst e
  have h2 := bounds_u64 hw
  exact ⟨rfl, by omega⟩
variable {ops : Array Oper} {rest : List Oper} {o : Oper} {a : Act} {Q : Exit → Act → World → Prop}
theorem wpList_mvRange (hg : o.guard = none) (m : Operand) (mt : TypeId) (hop : o.op = Op.range mt m) (K : Keyed P t) (ht : P.underlying mt = some (.map t e)) (b n : Nat) (f : Nat → Option Value) (hm : a.eval m = .map (some b)) (h : Mv P t w b n f)
    (hK : ∀ w', Rg P t w' b w.heap.size n f n [] → RowKit.Below w.heap.size w w' → w'.heap.size = w.heap.size + 1 → wpList P ops Q rest (a.put o.dst (.pointer (some ⟨w.heap.size, 0, none⟩))) w') : wpList P ops Q (o :: rest) a w := by
  obtain ⟨D, h1, h2, h3, h4⟩ := h.ex
  refine wpList_range_own w hg m mt hop t e K ht asIs b n D hm h1 fun w' r1 r2 r3 => hK w' (Rg.start (h3 ▸ r1) h4) ⟨r2.os, r2.tape, r2.output, r2.size, fun k hk => r2.block k hk (by simp)⟩ r3
theorem wpList_mvNext (hg : o.guard = none) (it : Operand) (hop : o.op = Op.next it false) (K : Keyed P t) (ht : P.underlying t = some (.int .u64)) (b r n : Nat) (f : Nat → Option Value) (cnt : Nat) (ss : List Nat) (hit : a.eval it = .pointer (some ⟨r, 0, none⟩)) (h : Rg P t w b r n f cnt ss)
    (hDone : (∀ k, k ∈ ss ↔ (f k).isSome = true) → wpList P ops Q rest (a.put o.dst (.tuple #[.bool false])) w)
    (hMore : ∀ (x : Nat) (v : Value) (w' : World) (cnt' : Nat), x < 18446744073709551616 → f x = some v → x ∉ ss → Rg P t w' b r n f cnt' (ss ++ [x]) → cnt' < cnt → w.grownBy w' (some r) → w'.heap.size = w.heap.size →
      (Instr.entry (.pointer (some ⟨r, 0, none⟩))).run P w' = .ok (.tuple #[.int .u64 (x : Int), v]) w' → wpList P ops Q rest (a.put o.dst (.tuple #[.bool true, .int .u64 (x : Int), v])) w') : wpList P ops Q (o :: rest) a w := by
  obtain ⟨D, left, h1, h2, h3⟩ := h.ex
  refine wpList_next_ranges w hg it hop t K asIs (fun x : Nat => Value.int .u64 (x : Int)) id (inv64 ht) (fun v _ _ => ⟨v, rfl⟩) b r n D left cnt hit h1 (fun _ hl => hDone fun k => by rw [h3 k, hl]; simp) ?_
  intro x c q y w' cnt' hkey hlk hv hat hrg hlt hgr hsz hen
  obtain ⟨rfl, hx⟩ := inv64' ht hkey
  have hy : y.1 = DataW.held c := by unfold asIs at hv; injection hv with hv; rw [← hv]; rfl
  obtain ⟨s1, s2, s3⟩ := Rg.step (v := c) hrg h2 h3 hlk (fun z => by rw [hat, hy]) hlt h.nd h.len
  exact hMore x c w' cnt' hx s2 s3 s1 hlt hgr hsz hen
variable {F : Fence} {nF : Nat}
theorem wpListIn_mvRange (hg : o.guard = none) (m : Operand) (mt : TypeId) (hop : o.op = Op.range mt m) (K : Keyed P t) (ht : P.underlying mt = some (.map t e)) (b n : Nat) (f : Nat → Option Value) (hm : a.eval m = .map (some b)) (h : Mv P t w b n f)
    (hK : ∀ w', Rg P t w' b w.heap.size n f n [] → w.grownBy w' none → w'.heap.size = w.heap.size + 1 → wpListIn F nF P ops Q rest (a.put o.dst (.pointer (some ⟨w.heap.size, 0, none⟩))) w') : wpListIn F nF P ops Q (o :: rest) a w := by
  obtain ⟨D, h1, h2, h3, h4⟩ := h.ex
  refine wpListIn_range_own w hg m mt hop t e K ht asIs b n D hm h1 fun w' r1 r2 r3 => hK w' (Rg.start (h3 ▸ r1) h4) r2 r3
theorem wpListIn_mvNext (hg : o.guard = none) (it : Operand) (hop : o.op = Op.next it false) (K : Keyed P t) (ht : P.underlying t = some (.int .u64)) (b r n : Nat) (f : Nat → Option Value) (cnt : Nat) (ss : List Nat) (hit : a.eval it = .pointer (some ⟨r, 0, none⟩)) (h : Rg P t w b r n f cnt ss)
    (hDone : (∀ k, k ∈ ss ↔ (f k).isSome = true) → wpListIn F nF P ops Q rest (a.put o.dst (.tuple #[.bool false])) w)
    (hMore : ∀ (x : Nat) (v : Value) (w' : World) (cnt' : Nat), x < 18446744073709551616 → f x = some v → x ∉ ss → Rg P t w' b r n f cnt' (ss ++ [x]) → cnt' < cnt → w.grownBy w' (some r) → w'.heap.size = w.heap.size →
      (Instr.entry (.pointer (some ⟨r, 0, none⟩))).run P w' = .ok (.tuple #[.int .u64 (x : Int), v]) w' → wpListIn F nF P ops Q rest (a.put o.dst (.tuple #[.bool true, .int .u64 (x : Int), v])) w') : wpListIn F nF P ops Q (o :: rest) a w := by
  obtain ⟨D, left, h1, h2, h3⟩ := h.ex
  refine wpListIn_next_ranges w hg it hop t K asIs (fun x : Nat => Value.int .u64 (x : Int)) id (inv64 ht) (fun v _ _ => ⟨v, rfl⟩) b r n D left cnt hit h1 (fun _ hl => hDone fun k => by rw [h3 k, hl]; simp) ?_
  intro x c q y w' cnt' hkey hlk hv hat hrg hlt hgr hsz hen
  obtain ⟨rfl, hx⟩ := inv64' ht hkey
  have hy : y.1 = DataW.held c := by unfold asIs at hv; injection hv with hv; rw [← hv]; rfl
  obtain ⟨s1, s2, s3⟩ := Rg.step (v := c) hrg h2 h3 hlk (fun z => by rw [hat, hy]) hlt h.nd h.len
  exact hMore x c w' cnt' hx s2 s3 s1 hlt hgr hsz hen
end
end Go.Proofs.Ytbnhemmklbbnmaa
