/-
  WORDS of our own for slices of whatever elements, k cells each: 'Sn' (a slice value reads as these cells), 'DstN' (what one may append to without touching what was there), and one law for append onto such.
  No statement is proved here; it holds for every program.
-/
import Derived.Test.YthhmgbeigeagdaaWords
namespace Go.Proofs.Ythhmgbeigeagdaa
open Go.RowKit

/-- THE SLICE (A, n, c), of elements of k cells, READS, in w, AS THE CELLS xs, below block B. -/
structure Sn (w : World) (B : Nat) (A : Option Addr) (n c k : Nat) (xs : List Value) : Prop where
  len : xs.length = n * k
  le : n ≤ c
  max : c ≤ maxLen
  cell : 0 < n * k → ∃ b o, A = some ⟨b, o, none⟩ ∧ b < B ∧ ∀ (j : Nat) (x : Value), xs[j]? = some x → w.cell? ⟨b, o + j, none⟩ = some x

section
variable {w w' : World} {B B' : Nat} {A : Option Addr} {n c k : Nat} {xs : List Value}
theorem Sn.keep (h : Sn w B A n c k xs) (hk : ∀ b o, b < B → w'.cell? ⟨b, o, none⟩ = w.cell? ⟨b, o, none⟩) : Sn w' B A n c k xs :=
  ⟨h.len, h.le, h.max, fun hn => by
    obtain ⟨b, o, e, hb, hc⟩ := h.cell hn
    exact ⟨b, o, e, hb, fun j x hx => (hk b _ hb).trans (hc j x hx)⟩⟩
theorem Sn.more (h : Sn w B A n c k xs) (hB : B ≤ B') : Sn w B' A n c k xs :=
  ⟨h.len, h.le, h.max, fun hn => by
    obtain ⟨b, o, e, hb, hc⟩ := h.cell hn
    exact ⟨b, o, e, by omega, hc⟩⟩
theorem Sn.below (h : Sn w B A n c k xs) (hb : Below B' w w') (hB : B ≤ B') : Sn w' B A n c k xs :=
  h.keep fun b o hp => hb.cell (p := ⟨b, o, none⟩) (by show b < B'; omega)
theorem Sn.on (h : Sn w B A n c k xs) (hb : Below w.heap.size w w') (hB : B ≤ w.heap.size) : Sn w' w'.heap.size A n c k xs := (h.below hb hB).more (Nat.le_trans hB hb.size)
theorem Sn.drewN (h : Sn w B A n c k xs) (q : Nat) : Sn (w.drewN q) B A n c k xs := ⟨h.len, h.le, h.max, h.cell⟩
theorem Sn.drew (h : Sn w B A n c k xs) : Sn w.drew B A n c k xs := ⟨h.len, h.le, h.max, h.cell⟩
theorem Sn.alloc (h : Sn w B A n c k xs) (hB : B ≤ w.heap.size) (o : Obj) : Sn (w.alloc o) B A n c k xs :=
  h.keep fun b p hb => World.cell?_alloc_lt w o ⟨b, p, none⟩ (by show b < w.heap.size; omega)
theorem Sn.setCell (h : Sn w B A n c k xs) {p : Addr} (hB : B ≤ p.block) (u : Value) : Sn (w.setCell p u) B A n c k xs :=
  h.keep fun b o hb => World.cell?_setCell_other w p ⟨b, o, none⟩ u (fun e => by subst e; simp at hB; omega)
theorem Sn.onA (h : Sn w w.heap.size A n c k xs) (o : Obj) : Sn (w.alloc o) (w.alloc o).heap.size A n c k xs := (h.alloc (Nat.le_refl _) o).more (by simp)
theorem Sn.onD (h : Sn w w.heap.size A n c k xs) (q : Nat) : Sn (w.drewN q) (w.drewN q).heap.size A n c k xs := ⟨h.len, h.le, h.max, h.cell⟩
theorem Sn.nil_ (w : World) (B : Nat) (A : Option Addr) (c k : Nat) (hc : c ≤ maxLen) : Sn w B A 0 c k [] := ⟨by simp, Nat.zero_le _, hc, fun h => absurd h (by simp)⟩
theorem Sn.past {row : Option Nat} (h : Sn w B A n c k xs) (hg : w.grownBy w' row) (hB : B ≤ w.heap.size) (hr : ∀ g, row = some g → B ≤ g) : Sn w' B A n c k xs :=
  h.keep fun b o hb => World.cell?_of_block (a := ⟨b, o, none⟩) (hg.block b (by show b < _; omega) (fun e => by have := hr b e.symm; omega))
theorem Sn.of_own {base : Nat} {e : TypeId} (h : w.ownsRow base e k (.slice A n c) n xs) : Sn w w.heap.size A n c k xs := by
  rcases h.2 with ⟨hv, hn⟩ | ⟨g, cap, cur, hv, hb, hh, hnc, hcm, hs, ht⟩
  · injection hv with e1 e2 e3
    subst e1 e2 e3
    exact ⟨h.1, Nat.le_refl _, Nat.zero_le _, fun hp => absurd hp (by simp)⟩
  · injection hv with e1 e2 e3
    subst e1 e3
    refine ⟨h.1, hnc, hcm, fun hp => ⟨g, 0, rfl, (Array.getElem?_eq_some_iff.1 hh).1, fun j x hx => ?_⟩⟩
    have := h.cells (g := g) rfl j x hx
    rwa [add_plain] at this
theorem Sn.firstCells {P : Program} (h : Sn w B A n c k xs) : (Builtin.firstCells k n (.slice A n c)).run P w = .ok xs.toArray w := by
  rcases Nat.eq_zero_or_pos (n * k) with h0 | h0
  · have hx : xs = [] := List.eq_nil_of_length_eq_zero (by rw [h.len]; exact h0)
    subst hx
    rcases A with _ | a
    · simp [Builtin.firstCells]
    · exact run_firstCells_some w k n a n c [] (by simpa using h0.symm) (fun j v hv => by simp at hv)
  · obtain ⟨b, o, rfl, hb, hc⟩ := h.cell h0
    refine run_firstCells_some w k n _ n c xs h.len (fun j v hv => ?_)
    rw [add_plain]
    exact hc j v hv
theorem Sn.src {P : Program} {tx e' : TypeId} (hk : P.underlying tx = some (.slice e')) (h : Sn w B A n c k xs) (h1 : ∀ u ∈ xs, u.oneCell' = true) : Src P k tx (.slice A n c) n xs w :=
  ⟨.inl ⟨e', hk⟩, fun _ => rfl, h.firstCells, h.drew.firstCells, h.len, h1⟩
/-- The first m of a slice: 's[:m]', 's[:m:d]'. -/
theorem Sn.take (h : Sn w B A n c k xs) {m d : Nat} (hm : m ≤ n) (hmd : m ≤ d) (hd : d ≤ c) : Sn w B A m d k (xs.take (m * k)) :=
  ⟨by rw [List.length_take, h.len]; have := Nat.mul_le_mul_right k hm; omega, hmd, Nat.le_trans hd h.max, fun hp => by
    obtain ⟨b, o, e, hb, hc⟩ := h.cell (Nat.lt_of_lt_of_le hp (Nat.mul_le_mul_right k hm))
    refine ⟨b, o, e, hb, fun j x hx => hc j x ?_⟩
    rw [List.getElem?_take] at hx
    split at hx
    · exact hx
    · cases hx⟩
/-- What is behind the first m: 's[m:]'. -/
theorem Sn.drop (h : Sn w B A n c k xs) {m : Nat} (hm : m ≤ n) : Sn w B (if c = m then A else A.map (·.add (m * k))) (n - m) (c - m) k (xs.drop (m * k)) :=
  ⟨by rw [List.length_drop, h.len, Nat.sub_mul], by have := h.le; omega, by have := h.max; omega, fun hp => by
    have hnm : m < n := by
      rcases Nat.lt_or_ge m n with h1 | h1
      · exact h1
      · rw [Nat.sub_eq_zero_of_le h1, Nat.zero_mul] at hp; omega
    obtain ⟨b, o, e, hb, hc⟩ := h.cell (Nat.lt_of_lt_of_le hp (Nat.mul_le_mul_right k (Nat.sub_le n m)))
    subst e
    have := h.le
    rw [if_neg (by omega)]
    refine ⟨b, o + m * k, by simp [add_plain], hb, fun j x hx => ?_⟩
    rw [Nat.add_assoc]
    exact hc _ x (by rw [← hx, List.getElem?_drop])⟩
/-- Cell t of element j. -/
theorem Sn.at_ (h : Sn w B A n c k xs) {j t : Nat} (hj : j < n) (ht : t < k) : ∃ b o x, A = some ⟨b, o, none⟩ ∧ b < B ∧ xs[j * k + t]? = some x ∧ w.cell? ⟨b, o + (j * k + t), none⟩ = some x := by
  have hlt : j * k + t < n * k := by
    have := Nat.mul_le_mul_right k (show j + 1 ≤ n from hj)
    rw [Nat.add_mul, Nat.one_mul] at this
    omega
  obtain ⟨b, o, e, hb, hc⟩ := h.cell (by omega)
  have hl : j * k + t < xs.length := by rw [h.len]; exact hlt
  exact ⟨b, o, xs[j * k + t], e, hb, List.getElem?_eq_getElem hl, hc _ _ (List.getElem?_eq_getElem hl)⟩
end

/-- A row that was just laid out. -/
theorem lit_sn (w : World) (t : TypeId) (xs : List Value) (n k : Nat) (hk : xs.length = n * k) (hm : n ≤ maxLen) : Sn (w.alloc (.cells xs.toArray t)) (w.heap.size + 1) (some ⟨w.heap.size, 0, none⟩) n n k xs :=
  ⟨hk, Nat.le_refl _, hm, fun _ => ⟨w.heap.size, 0, rfl, by omega, fun j x hx => by
    have h := cell_of_row (w.alloc (.cells xs.toArray t)) w.heap.size j xs.toArray t (0, 0) (heap_alloc_new w _)
    rw [Nat.zero_add, h, List.getElem?_toArray, hx]⟩⟩

/-- WHAT ONE MAY APPEND TO without touching blocks below 'base': a slice without spare room, or a row of one's own. -/
def DstN (w : World) (base : Nat) (e : TypeId) (A : Option Addr) (n c k : Nat) (xs : List Value) : Prop :=
  (n = c ∧ Sn w w.heap.size A n c k xs) ∨ w.ownsRow base e k (.slice A n c) n xs
theorem DstN.sn {w : World} {base : Nat} {e : TypeId} {A : Option Addr} {n c k : Nat} {xs : List Value} (h : DstN w base e A n c k xs) : Sn w w.heap.size A n c k xs := by
  rcases h with ⟨_, h⟩ | h
  · exact h
  · exact Sn.of_own h
theorem DstN.alloc {w : World} {base : Nat} {e : TypeId} {A : Option Addr} {n c k : Nat} {xs : List Value} (h : DstN w base e A n c k xs) (o : Obj) : DstN (w.alloc o) base e A n c k xs := by
  rcases h with ⟨hn, h⟩ | h
  · exact .inl ⟨hn, h.onA o⟩
  · exact .inr (h.alloc o)
theorem DstN.drewN {w : World} {base : Nat} {e : TypeId} {A : Option Addr} {n c k : Nat} {xs : List Value} (h : DstN w base e A n c k xs) (q : Nat) : DstN (w.drewN q) base e A n c k xs := by
  rcases h with ⟨hn, h⟩ | h
  · exact .inl ⟨hn, h.drewN q⟩
  · exact .inr h

section
variable {P : Program} (w : World)
/-- ONE LAW FOR APPEND. -/
theorem run_append_dstN (base : Nat) (t tx ty e : TypeId) (i : TypeInfo) (z : Value) (k bytes : Nat) (ht : P.underlying t = some (.slice e)) (hi : P.info? e = some i) (hz : i.zero = some z) (hsize : i.size = k) (hby : i.bytes = bytes) (hzc : z.cells.size = k)
    (A : Option Addr) (n c : Nat) (l : List Value) (hd : DstN w base e A n c k l) (x : Value) (m : Nat) (news : List Value) (hs : Src P k tx x m news w)
    (hbytes : (n + m) * bytes ≤ 140737488355328) (h63 : n + m ≤ 140737488355328) (hbase : base ≤ w.heap.size) :
    ∃ A' c' w', (Builtin.append_ #[t, tx] ty #[.slice A n c, x]).run P w = .ok (.slice A' (n + m) c') w' ∧ DstN w' base e A' (n + m) c' k (l ++ news) ∧
      (0 < m → w'.ownsRow base e k (.slice A' (n + m) c') (n + m) (l ++ news)) ∧ (w.ownsRow base e k (.slice A n c) n l → w'.ownsRow base e k (.slice A' (n + m) c') (n + m) (l ++ news)) ∧
      Below base w w' ∧ w.grownBy w' (if n = c then none else (Value.slice A n c).ownBlock) ∧ (A' = A ∨ ∃ b, A' = some ⟨b, 0, none⟩ ∧ w.heap.size ≤ b) := by
  have hml : news.length = m * k := hs.newsLen
  have hsn := hd.sn
  have h63' : n + m ≤ maxLen := by simp only [maxLen]; omega
  have hll : (l ++ news).length = (n + m) * k := by rw [List.length_append, hsn.len, hml, Nat.add_mul]
  have hnil : m = 0 → news = [] := fun h0 => List.eq_nil_of_length_eq_zero (by rw [hml, h0, Nat.zero_mul])
  by_cases hroom : n + m ≤ c
  · rcases hd with ⟨hn, h⟩ | hown
    · have hm0 : m = 0 := by omega
      have hnews := hnil hm0
      subst hm0 hnews
      have hcells := hs.cells
      have hle : n ≤ c := by omega
      refine ⟨A, c, w, ?_, .inl ⟨hn, by simpa using h⟩, fun h => absurd h (Nat.lt_irrefl _), fun h => by simpa using h, Below.refl _ _, ⟨rfl, rfl, rfl, Nat.le_refl _, fun _ _ _ => rfl⟩, .inl rfl⟩
      rcases A with _ | a
      · rcases hs.kind with ⟨e', hk⟩ | hk <;> simp [Builtin.append_, run_underlying ht, run_underlying hk, sizeOf, typeInfo, hi, hs.len, hle, hsize, hcells]
      · rcases hs.kind with ⟨e', hk⟩ | hk <;> simp [Builtin.append_, run_underlying ht, run_underlying hk, sizeOf, typeInfo, hi, hs.len, hle, hsize, hcells, storeCells]
    · rcases hown.2 with ⟨hv, hn⟩ | ⟨g, cap, cur, hv, hbg, hg, hnc, hcm, hcs, htake⟩
      · injection hv with e1 e2 e3
        subst e1 e3
        have hn0 : n = 0 := hn
        have hm0 : m = 0 := by omega
        have hnews := hnil hm0
        subst hn0 hm0 hnews
        have hcells := hs.cells
        refine ⟨none, 0, w, ?_, .inr (by simpa using hown), fun h => absurd h (Nat.lt_irrefl _), fun h => by simpa using h, Below.refl _ _, ⟨rfl, rfl, rfl, Nat.le_refl _, fun _ _ _ => rfl⟩, .inl rfl⟩
        rcases hs.kind with ⟨e', hk⟩ | hk <;> simp [Builtin.append_, run_underlying ht, run_underlying hk, sizeOf, typeInfo, hi, hs.len, hsize, hcells]
      · injection hv with e1 e2 e3
        subst e1 e3
        have hck : (n + m) * k ≤ c * k := Nat.mul_le_mul_right k hroom
        have hnk : n * k + m * k ≤ cur.size := by rw [hcs, ← Nat.add_mul]; exact hck
        have hcell : ∀ j, j < cur.size → (w.cell? ⟨g, j, none⟩).isSome = true := fun j hj => by
          rw [cell_of_row w g j cur e (0, 0) hg]
          simp [Array.getElem?_eq_getElem hj]
        have hfr : ∀ j, w.frozen? ⟨g, j, none⟩ = false := fun j => hown.frozenAt j
        have hr := run_append_room_src (P := P) w t tx ty e i ht hi g 0 n c x m news (by rw [hsize]; exact hs) hroom
          (fun j hj => by rw [hml] at hj; exact hcell _ (by rw [hsize]; omega)) (fun j _ => hfr _)
        have hst := run_storeCells_at P g (n * k) e news 0 cur w hg (by omega) hs.one
        have hst2 := run_storeCells_cells (P := P) g (n * k) news 0 w (fun j hj => by rw [hml] at hj; exact hcell _ (by omega)) (fun j _ => hfr _) hs.one
        rw [hst2] at hst
        injection hst with _ hw
        simp only [Nat.add_zero] at hw
        rw [hsize, Nat.zero_add, hw] at hr
        have hnew : (w.setRow g (cur.toList.take (n * k) ++ news ++ cur.toList.drop (n * k + news.length)).toArray).ownsRow base e k (.slice (some ⟨g, 0, none⟩) (n + m) c) (n + m) (l ++ news) := by
          refine ⟨hll, .inr ⟨g, c, _, rfl, hbg, setRow_heap w g cur _ e _ hg, hroom, hcm, ?_, ?_⟩⟩
          · simp only [List.size_toArray, List.length_append, List.length_take, List.length_drop, Array.length_toList, hml]
            omega
          · rw [htake, ← hll]
            exact List.take_left
        refine ⟨_, _, _, hr, .inr hnew, fun _ => hnew, fun _ => hnew, ⟨rfl, rfl, rfl, by simp, fun q hq => setRow_other w g q _ (by omega)⟩, ⟨rfl, rfl, rfl, by simp, fun q hq hne => ?_⟩, .inl rfl⟩
        by_cases hnc' : n = c
        · have hm0 : m = 0 := by omega
          have hnews := hnil hm0
          by_cases hqg : q = g
          · subst hqg
            rw [setRow_heap w q cur _ e _ hg, hg]
            congr 2
            apply Array.ext'
            subst hnews
            simp [List.take_append_drop]
          · exact setRow_other w g q _ hqg
        · rw [if_neg hnc'] at hne
          exact setRow_other w g q _ (fun e => hne (by simp [Value.ownBlock, e]))
  · have hg : c < n + m := by omega
    have hr := run_append_grow_src (P := P) w t tx ty e i z ht hi hz A n c l (by rw [hsize]; exact hsn.drew.firstCells) x m news (by rw [hsize]; exact hs) hg
      (by simp only [maxLen] at h63'; omega) (by rw [hby]; exact growslice_fits hg hbytes)
    have hge := grownCap_ge w (n + m) c e
    have hcm : grownCap w (n + m) c e ≤ maxLen := grownCap_le_maxLen w (n + m) c e h63'
    have hnew : (w.drew.alloc (.cells ((l ++ news).toArray ++ Builtin.zeroCells z.cells (grownCap w (n + m) c e - (n + m))) e)).ownsRow base e k
        (.slice (some ⟨w.heap.size, 0, none⟩) (n + m) (grownCap w (n + m) c e)) (n + m) (l ++ news) := by
      refine ⟨hll, .inr ⟨w.heap.size, _, _, rfl, hbase, heap_alloc_new w.drew _, hge, hcm, ?_, ?_⟩⟩
      · simp only [Array.size_append, List.size_toArray, size_zeroCells, hll, hzc]
        rw [← Nat.add_mul, Nat.add_sub_cancel' hge]
      · rw [Array.toList_append, ← hll]
        exact List.take_left
    refine ⟨_, _, _, hr, .inr hnew, fun _ => hnew, fun _ => hnew, ((Below.refl _ _).drew).alloc hbase _, ⟨rfl, rfl, rfl, by simp, fun q hq _ => Below.heap_alloc w.drew _ q hq⟩, .inr ⟨_, rfl, Nat.le_refl _⟩⟩

/-- The same, at an operation of a walk. -/
theorem wpList_append_dstN {ops : Array Oper} {rest : List Oper} {o : Oper} {a : Act} {Q : Exit → Act → World → Prop} (hgd : o.guard = none) (s x : Operand) (t tx : TypeId)
    (ho : o.op = .call { callee := .builtin .append, args := #[s, x], argTypes := #[t, tx] })
    (base : Nat) (e : TypeId) (i : TypeInfo) (z : Value) (k bytes : Nat) (ht : P.underlying t = some (.slice e)) (hi : P.info? e = some i) (hz : i.zero = some z) (hsize : i.size = k) (hby : i.bytes = bytes) (hzc : z.cells.size = k)
    (A : Option Addr) (n c : Nat) (l : List Value) (hs : a.eval s = .slice A n c) (hd : DstN w base e A n c k l) (v : Value) (m : Nat) (news : List Value) (hx : a.eval x = v) (hsrc : Src P k tx v m news w)
    (hbytes : (n + m) * bytes ≤ 140737488355328) (h63 : n + m ≤ 140737488355328) (hbase : base ≤ w.heap.size)
    (h : ∀ A' c' w', DstN w' base e A' (n + m) c' k (l ++ news) → (0 < m → w'.ownsRow base e k (.slice A' (n + m) c') (n + m) (l ++ news)) →
      (w.ownsRow base e k (.slice A n c) n l → w'.ownsRow base e k (.slice A' (n + m) c') (n + m) (l ++ news)) → Below base w w' → w.grownBy w' (if n = c then none else (Value.slice A n c).ownBlock) → (A' = A ∨ ∃ b, A' = some ⟨b, 0, none⟩ ∧ w.heap.size ≤ b) →
      wpList P ops Q rest (a.put o.dst (.slice A' (n + m) c')) w') : wpList P ops Q (o :: rest) a w := by
  refine wpList_plain hgd fun _ hK => ?_
  obtain ⟨A', c', w', hr, h2, h3, h4, h5, h6, h7⟩ := run_append_dstN (P := P) w base t tx o.type e i z k bytes ht hi hz hsize hby hzc A n c l hd v m news hsrc hbytes h63 hbase
  unfold Oper.wp execOp
  simp only [ho, resolve, invoke, builtin, Sem.run_bind, Sem.run_pure, Result.andThen_ok, List.map_toArray, List.map_cons, List.map_nil, hs, hx, hr]
  exact hK _ _ (h A' c' w' h2 h3 h4 h5 h6 h7)
/-- An append whose run is known. -/
theorem wpList_append_run {ops : Array Oper} {rest : List Oper} {o : Oper} {a : Act} {Q : Exit → Act → World → Prop} (hgd : o.guard = none) (s x : Operand) (t tx : TypeId)
    (ho : o.op = .call { callee := .builtin .append, args := #[s, x], argTypes := #[t, tx] }) (v0 v1 v : Value) (w' : World) (hs : a.eval s = v0) (hx : a.eval x = v1)
    (hr : (Builtin.append_ #[t, tx] o.type #[v0, v1]).run P w = .ok v w') (h : wpList P ops Q rest (a.put o.dst v) w') : wpList P ops Q (o :: rest) a w := by
  refine wpList_plain hgd fun _ hK => ?_
  unfold Oper.wp execOp
  simp only [ho, resolve, invoke, builtin, Sem.run_bind, Sem.run_pure, Result.andThen_ok, List.map_toArray, List.map_cons, List.map_nil, hs, hx, hr]
  exact hK _ _ h
end
end Go.Proofs.Ythhmgbeigeagdaa
