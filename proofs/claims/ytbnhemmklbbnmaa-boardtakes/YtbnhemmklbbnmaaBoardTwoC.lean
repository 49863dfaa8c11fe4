/-
  TWO BOARDS apart; taking in parts; sets that are made run by run.
  No statement is proved here.
-/
import Derived.Test.YtbnhemmklbbnmaaLawBOnceC
import Derived.Test.YtbnhemmklbbnmaaRunsFactsC
import Derived.Test.YtbnhemmklbbnmaaBdLot11
namespace Go.Proofs.Ytbnhemmklbbnmaa
open Go.RowKit Go.Sort Go.Maps

theorem takeV_cons (P : Nat → Bool) (g : Gw) (V : List Gw) : takeV P (g :: V) = if (g.2.2.filter P).isEmpty then takeV P V else (g.1, g.2.1, g.2.2.filter P) :: takeV P V := by
  unfold takeV
  rw [List.map_cons, List.filter_cons]
  cases (g.2.2.filter P).isEmpty <;> simp
theorem takeV_takeV (P Q : Nat → Bool) : ∀ (V : List Gw), takeV Q (takeV P V) = takeV (fun x => P x && Q x) V
  | [] => rfl
  | g :: V => by
    have e : (g.2.2.filter P).filter Q = g.2.2.filter (fun x => P x && Q x) := by rw [List.filter_filter]; exact List.filter_congr fun x _ => Bool.and_comm _ _
    rw [takeV_cons, takeV_cons]
    cases h : (g.2.2.filter P).isEmpty
    · rw [if_neg (by simp), takeV_cons, takeV_takeV P Q V]
      simp only [e]
    · rw [if_pos rfl, takeV_takeV P Q V]
      rw [List.isEmpty_iff] at h
      rw [h] at e
      rw [← e]
      simp
theorem takeV_congr {P Q : Nat → Bool} (h : ∀ x, P x = Q x) (V : List Gw) : takeV P V = takeV Q V := by rw [funext h]
theorem takeV_nums (P : Nat → Bool) (V : List Gw) : ((takeV P V).map (·.1)).Sublist (V.map (·.1)) := by
  unfold takeV
  refine (List.filter_sublist.map _).trans ?_
  rw [List.map_map]
  exact List.Sublist.refl _
theorem takeP_parts {R R1 R2 : List Rn} (h : ∀ x, inR R x = (inR R1 x || inR R2 x)) (p : Pb) : takeP R2 (takeP R1 p) = takeP R p := by
  have hP : ∀ x, ((!inR R1 x) && (!inR R2 x)) = !inR R x := fun x => by rw [h x, Bool.not_or]
  unfold takeP
  simp only
  rw [takeV_takeV, takeV_congr hP, List.filter_filter]
  congr 1
  · unfold takeEV
    rw [List.filter_filter]
    refine List.filter_congr fun e _ => ?_
    by_cases h1 : e.1 ∈ (takeV (fun x => !inR R x) p.V).map (·.1)
    · have h2 : e.1 ∈ (takeV (fun x => !inR R1 x) p.V).map (·.1) := by
        rw [← takeV_congr hP, ← takeV_takeV] at h1
        exact (takeV_nums _ _).subset h1
      rw [decide_eq_true h1, decide_eq_true h2]
      rfl
    · rw [decide_eq_false h1]
      rfl
  · refine List.filter_congr fun x _ => ?_
    rw [Bool.and_comm]
    exact hP x
theorem inR_below {L : List Rn} (h : Okl L) {v : Nat} (hv : v < two64) (x : Nat) : inR (belowL L v) x = (inR L x && decide (x < v)) := by
  rw [Bool.eq_iff_iff, inR_iff, below_mem h hv, Bool.and_eq_true, inR_iff, decide_eq_true_iff]
theorem inR_from {L : List Rn} (h : Okl L) {v : Nat} (hv : v < two64) (x : Nat) : inR (fromL L v) x = (inR L x && decide (v ≤ x)) := by
  rw [Bool.eq_iff_iff, inR_iff, from_mem h hv, Bool.and_eq_true, inR_iff, decide_eq_true_iff]
theorem below_from {L : List Rn} (h : Okl L) {v : Nat} (hv : v < two64) (x : Nat) : inR L x = (inR (belowL L v) x || inR (fromL L v) x) := by
  rw [inR_below h hv, inR_from h hv]
  cases inR L x
  · rfl
  · by_cases e : x < v
    · simp [e]
    · simp [e]
      omega
/-- What is taken at once is what is taken in two parts. -/
theorem gone_parts {fl : List Nat} (hi : Inc fl) {L : List Rn} (h : Okl L) {v : Nat} (hv : v < two64) : fl.filter (inR L) = fl.filter (inR (belowL L v)) ++ (fl.filter (fun x => !inR (belowL L v) x)).filter (inR (fromL L v)) := by
  refine inc_ext (inc_filter hi _) ?_ fun x => ?_
  · unfold Inc
    rw [List.pairwise_append]
    refine ⟨inc_filter hi _, inc_filter (inc_filter hi _) _, fun a ha b hb => ?_⟩
    have h1 := (List.mem_filter.1 ha).2
    have h2 := (List.mem_filter.1 hb).2
    rw [inR_below h hv] at h1
    rw [inR_from h hv] at h2
    simp only [Bool.and_eq_true, decide_eq_true_iff] at h1 h2
    omega
  · rw [List.mem_append, List.mem_filter, List.mem_filter, List.mem_filter, List.mem_filter, below_from h hv x]
    cases inR (belowL L v) x <;> cases inR (fromL L v) x <;> simp
theorem due_ne {p : Pb} (h : Pok p) (now : Int) : ∀ l ∈ dueRows now p, l ≠ [] := fun l hl e => by
  unfold dueRows at hl
  obtain ⟨q, hq, rfl⟩ := List.mem_map.1 hl
  have hq2 : q ∈ ids p.E := by
    unfold ids dueE at hq
    obtain ⟨x, hx, rfl⟩ := List.mem_map.1 hq
    exact List.mem_map.2 ⟨x, (List.takeWhile_sublist _).subset hx, rfl⟩
  obtain ⟨g, hg, rfl⟩ := List.mem_map.1 (h.ie.subset hq2)
  rw [memV_of h.nd hg] at e
  have h1 : (sortN g.2.2).length = g.2.2.length := (List.mergeSort_perm _ _).length_eq
  rw [e] at h1
  exact h.me g hg (List.eq_nil_of_length_eq_zero h1.symm)
/-- A set, run by run. -/
def spans (L : List Rn) : List Rn := L.foldl (fun s r => spanL s r.1 r.2) []
theorem spans_snoc (L : List Rn) (r : Rn) : spans (L ++ [r]) = spanL (spans L) r.1 r.2 := by unfold spans; rw [List.foldl_append]; rfl
theorem spans_go : ∀ (L s : List Rn), Okl s → (∀ q ∈ L, q.1 < two64 ∧ q.2 < two64) → Okl (L.foldl (fun s r => spanL s r.1 r.2) s)
  | [], _, hs, _ => hs
  | r :: L, _, hs, h => spans_go L _ (span_ok hs (h r List.mem_cons_self).1 (h r List.mem_cons_self).2) fun q hq => h q (List.mem_cons_of_mem _ hq)
theorem spans_ok {L : List Rn} (h : ∀ q ∈ L, q.1 < two64 ∧ q.2 < two64) : Okl (spans L) := spans_go L [] Okl.nil h
theorem spans_len {L : List Rn} (h : ∀ q ∈ L, q.1 < two64 ∧ q.2 < two64) : ∀ k, (spans (L.take k)).length ≤ k
  | 0 => by simp [spans]
  | k + 1 => by
    have ih := spans_len h k
    rw [List.take_add_one]
    cases e : L[k]? with
    | none => simp; omega
    | some r =>
      have hr := h r (List.mem_of_getElem? e)
      show (spans (L.take k ++ [r])).length ≤ k + 1
      rw [spans_snoc]
      have := span_len (spans_ok (fun q hq => h q (List.mem_of_mem_take hq)) : Okl (spans (L.take k))) hr.1 hr.2
      omega
/-- Two boards apart, and blocks that neither has. -/
structure TB (w0 : World) (f m ba bda bb bdb : Nat) (Sa Sb : Nat → Prop) (p q : Pb) (K : List Nat) (w : World) : Prop where
  a : Bp w Sa ba bda f m p
  b : Bp w Sb bb bdb f m q
  ap : ∀ k, Sa k → ¬ Sb k
  la : w0.heap.size ≤ ba
  lb : w0.heap.size ≤ bb
  bel : RowKit.Below w0.heap.size w0 w
  kk : ∀ k ∈ K, k < w.heap.size ∧ ¬ Sa k ∧ ¬ Sb k
section
variable {w0 w w' : World} {f m ba bda bb bdb : Nat} {Sa Sb S' : Nat → Prop} {p q p' : Pb} {K : List Nat}
theorem TB.stepA (h : TB w0 f m ba bda bb bdb Sa Sb p q K w) (hb : Bp w' S' ba bda f m p') (ho : Only Sa w w') (hs : ∀ k, S' k → Sa k ∨ w.heap.size ≤ k) : TB w0 f m ba bda bb bdb S' Sb p' q K w' ∧ ∀ k ∈ K, w'.heap[k]? = w.heap[k]? :=
  ⟨⟨hb, h.b.only ho (fun k _ => h.ap k), fun k h1 h2 => (hs k h1).elim (fun e => h.ap k e h2) (fun e => by have := (h.b.lo k h2).2; omega), h.la, h.lb, h.bel.trans (h.a.toBelow ho h.la), fun k hk => ⟨Nat.lt_of_lt_of_le (h.kk k hk).1 ho.size, fun e => (hs k e).elim (h.kk k hk).2.1 (fun e => by have := (h.kk k hk).1; omega), (h.kk k hk).2.2⟩⟩,
    fun k hk => ho.block k (h.kk k hk).1 (h.kk k hk).2.1⟩
theorem TB.stepB (h : TB w0 f m ba bda bb bdb Sa Sb p q K w) (hb : Bp w' S' bb bdb f m p') (ho : Only Sb w w') (hs : ∀ k, S' k → Sb k ∨ w.heap.size ≤ k) : TB w0 f m ba bda bb bdb Sa S' p p' K w' ∧ ∀ k ∈ K, w'.heap[k]? = w.heap[k]? :=
  ⟨⟨h.a.only ho (fun k _ h1 h2 => h.ap k h2 h1), hb, fun k h1 h2 => (hs k h2).elim (h.ap k h1) (fun e => by have := (h.a.lo k h1).2; omega), h.la, h.lb, h.bel.trans (h.b.toBelow ho h.lb), fun k hk => ⟨Nat.lt_of_lt_of_le (h.kk k hk).1 ho.size, (h.kk k hk).2.1, fun e => (hs k e).elim (h.kk k hk).2.2 (fun e => by have := (h.kk k hk).1; omega)⟩⟩,
    fun k hk => ho.block k (h.kk k hk).1 (h.kk k hk).2.2⟩
theorem TB.next (h : TB w0 f m ba bda bb bdb Sa Sb p q K w) (hb : RowKit.Below w.heap.size w w') : TB w0 f m ba bda bb bdb Sa Sb p q K w' :=
  ⟨h.a.below hb, h.b.below hb, h.ap, h.la, h.lb, h.bel.trans (hb.mono h.bel.size), fun k hk => ⟨Nat.lt_of_lt_of_le (h.kk k hk).1 hb.size, (h.kk k hk).2⟩⟩
theorem TB.lt (h : TB w0 f m ba bda bb bdb Sa Sb p q K w) : (∀ k, Sa k → k < w.heap.size) ∧ ∀ k, Sb k → k < w.heap.size := ⟨fun k hk => (h.a.lo k hk).2, fun k hk => (h.b.lo k hk).2⟩
/-- Blocks that were made behind w. -/
theorem TB.add (h : TB w0 f m ba bda bb bdb Sa Sb p q K w) (hb : RowKit.Below w.heap.size w w') {k : Nat} (h1 : w.heap.size ≤ k) (h2 : k < w'.heap.size) : TB w0 f m ba bda bb bdb Sa Sb p q (k :: K) w' := by
  have h3 := h.next hb
  refine ⟨h3.a, h3.b, h3.ap, h3.la, h3.lb, h3.bel, fun x hx => ?_⟩
  rcases List.mem_cons.1 hx with rfl | hx
  · exact ⟨h2, fun e => by have := h.lt.1 x e; omega, fun e => by have := h.lt.2 x e; omega⟩
  · exact h3.kk x hx
/-- A block that was made by the first board's call. -/
theorem TB.put (h : TB w0 f m ba bda bb bdb Sa Sb p q K w) {k : Nat} (h1 : k < w.heap.size) (h2 : ¬ Sa k) (h3 : ¬ Sb k) : TB w0 f m ba bda bb bdb Sa Sb p q (k :: K) w :=
  ⟨h.a, h.b, h.ap, h.la, h.lb, h.bel, fun x hx => by
    rcases List.mem_cons.1 hx with rfl | hx
    · exact ⟨h1, h2, h3⟩
    · exact h.kk x hx⟩
/-- A box of the two's others is written to. -/
theorem TB.store (h : TB w0 f m ba bda bb bdb Sa Sb p q K w) {k : Nat} (hk : k ∈ K) (h0 : w0.heap.size ≤ k) (o : Nat) (v : Value) : TB w0 f m ba bda bb bdb Sa Sb p q K (w.setCell ⟨k, o, none⟩ v) := by
  have ho := Only.setCell w k o v
  refine ⟨h.a.only ho (fun x _ e hx => (h.kk k hk).2.1 (e ▸ hx)), h.b.only ho (fun x _ e hx => (h.kk k hk).2.2 (e ▸ hx)), h.ap, h.la, h.lb, h.bel.trans (ho.toBelow2 (fun x e => by rw [e]; exact h0) h.bel.size), fun x hx => ?_⟩
  rw [World.size_setCell]
  exact h.kk x hx
theorem St.same {A : Option Addr} {n c : Nat} {L : List Rn} (h : St w w.heap.size A n c L) (hz : w.heap.size ≤ w'.heap.size) (hb : ∀ b o, A = some ⟨b, o, none⟩ → w'.heap[b]? = w.heap[b]?) : St w' w'.heap.size A n c L := by
  refine ⟨⟨⟨h.rs.sn.len, h.rs.sn.le, h.rs.sn.max, fun hn => ?_⟩, h.rs.lt⟩, fun b o e => Nat.lt_of_lt_of_le (h.lies b o e) hz⟩
  obtain ⟨b, o, e, hbl, hc⟩ := h.rs.sn.cell hn
  exact ⟨b, o, e, Nat.lt_of_lt_of_le hbl hz, fun j x hx => (World.cell?_of_block (a := ⟨b, o + j, none⟩) (hb b o e)).trans (hc j x hx)⟩
def blk (A : Option Addr) : List Nat := match A with
  | some ⟨b, _, none⟩ => [b]
  | _ => []
theorem blk_mem {A : Option Addr} {b : Nat} : b ∈ blk A ↔ ∃ o, A = some ⟨b, o, none⟩ := by
  unfold blk
  split
  · rename_i a o
    rw [List.mem_singleton]
    constructor
    · rintro rfl; exact ⟨o, rfl⟩
    · rintro ⟨o', e⟩; injection e with e; injection e with e; exact e.symm
  · rename_i h
    constructor
    · intro h1; cases h1
    · rintro ⟨o, rfl⟩; exact absurd rfl (h b o)
theorem own_mem {v : Value} {b : Nat} : b ∈ v.ownBlock.toList ↔ v.ownBlock = some b := by
  cases v.ownBlock with
  | none => simp
  | some x => simp; exact eq_comm
theorem TB.puts (h : TB w0 f m ba bda bb bdb Sa Sb p q K w) {L : List Nat} (hL : ∀ k ∈ L, k < w.heap.size ∧ ¬ Sa k ∧ ¬ Sb k) : TB w0 f m ba bda bb bdb Sa Sb p q (L ++ K) w :=
  ⟨h.a, h.b, h.ap, h.la, h.lb, h.bel, fun x hx => (List.mem_append.1 hx).elim (hL x) (h.kk x)⟩
/-- Blocks that were made behind w. -/
theorem TB.adds (h : TB w0 f m ba bda bb bdb Sa Sb p q K w) (hb : RowKit.Below w.heap.size w w') {L : List Nat} (hL : ∀ k ∈ L, w.heap.size ≤ k ∧ k < w'.heap.size) : TB w0 f m ba bda bb bdb Sa Sb p q (L ++ K) w' :=
  (h.next hb).puts fun k hk => ⟨(hL k hk).2, fun e => by have := h.lt.1 k e; have := (hL k hk).1; omega, fun e => by have := h.lt.2 k e; have := (hL k hk).1; omega⟩
theorem span_far (w : World) (A : Option Addr) (n c f t s9 : Nat) (L : List Rn) (h : St w w.heap.size A n c L) (hf : f < two64) (ht : t < two64) (hn : n ≤ 500) (hA : ∀ b o, A = some ⟨b, o, none⟩ → s9 ≤ b) (hs : s9 ≤ w.heap.size) :
    Calls Try.prog 13 #[.agg #[.slice A n c], .int .u64 (f : Int), .int .u64 (t : Int)] w fun e w' => ∃ A' n' c', e = .returned (.agg #[.slice A' n' c']) ∧ St w' w'.heap.size A' n' c' (spanL L f t) ∧ (∀ b o, A' = some ⟨b, o, none⟩ → s9 ≤ b) ∧ RowKit.Below w.heap.size w w' := by
  by_cases hft : t < f
  · refine (span_same w A n c f t hft).mono ?_
    rintro e w' ⟨rfl, hb⟩
    rw [show spanL L f t = L from by unfold spanL; rw [if_pos hft]]
    exact ⟨A, n, c, rfl, h.on hb (Nat.le_refl _), hA, hb⟩
  · refine (span_grow w A n c f t L h.rs hf ht hn hft).mono ?_
    rintro e w' ⟨A', n', c', rfl, hs', hp, hb⟩
    exact ⟨A', n', c', rfl, hs', fun b o e => (hp b o e).elim (fun h => absurd h (by omega)) (fun h => by omega), hb⟩
end
end Go.Proofs.Ytbnhemmklbbnmaa
