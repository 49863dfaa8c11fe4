/-
  WORDS of our own for byte slices: 'Sl' (a slice value reads as bytes), 'Dst' (what one may append to without touching what was there), and one law for append onto such.
  No statement is proved here; it holds for every program.
-/
import Derived.WalkKit
import Derived.Below
import Derived.Lib.Hide
import Derived.Laws.OwnMore
import Derived.Deep.AppendLies
import Derived.Deep.AppendSrc
import Derived.Deep.Draws
import Derived.OwnWalk
import Derived.OpenShut
namespace Go.Proofs.Ythhmgbeigeagdaa
open Go.RowKit

/-- A byte as a cell; bytes as cells. -/
def cb (b : UInt8) : Value := .int .u8 (b.toNat : Int)
def cbs (l : List UInt8) : List Value := l.map cb
theorem cbs_len (l : List UInt8) : (cbs l).length = l.length := by simp [cbs]
theorem cbs_app (l m : List UInt8) : cbs (l ++ m) = cbs l ++ cbs m := by simp [cbs]
theorem cbs_at (l : List UInt8) (j : Nat) : (cbs l)[j]? = (l[j]?).map cb := by simp [cbs]
theorem cbs_one (l : List UInt8) : ∀ u ∈ cbs l, u.oneCell' = true := by
  intro u hu
  obtain ⟨b, _, rfl⟩ := List.mem_map.1 hu
  rfl

theorem add_plain (b o j : Nat) : (⟨b, o, none⟩ : Addr).add j = ⟨b, o + j, none⟩ := by
  unfold Addr.add
  split
  · subst_vars; rfl
  · rfl

/-- THE SLICE (A, n, c) READS, in w, AS THE BYTES l, below block B. -/
structure Sl (w : World) (B : Nat) (A : Option Addr) (n c : Nat) (l : List UInt8) : Prop where
  len : l.length = n
  le : n ≤ c
  max : c ≤ maxLen
  cell : 0 < n → ∃ b o, A = some ⟨b, o, none⟩ ∧ b < B ∧ ∀ (j : Nat) (x : UInt8), l[j]? = some x → w.cell? ⟨b, o + j, none⟩ = some (cb x)

section
variable {w w' : World} {B B' : Nat} {A : Option Addr} {n c : Nat} {l : List UInt8}

theorem Sl.keep (h : Sl w B A n c l) (hk : ∀ b o, b < B → w'.cell? ⟨b, o, none⟩ = w.cell? ⟨b, o, none⟩) : Sl w' B A n c l :=
  ⟨h.len, h.le, h.max, fun hn => by
    obtain ⟨b, o, e, hb, hc⟩ := h.cell hn
    exact ⟨b, o, e, hb, fun j x hx => (hk b _ hb).trans (hc j x hx)⟩⟩
theorem Sl.more (h : Sl w B A n c l) (hB : B ≤ B') : Sl w B' A n c l :=
  ⟨h.len, h.le, h.max, fun hn => by
    obtain ⟨b, o, e, hb, hc⟩ := h.cell hn
    exact ⟨b, o, e, by omega, hc⟩⟩
theorem Sl.below (h : Sl w B A n c l) (hb : Below B' w w') (hB : B ≤ B') : Sl w' B A n c l :=
  h.keep fun b o hp => hb.cell (p := ⟨b, o, none⟩) (by show b < B'; omega)
theorem Sl.on (h : Sl w B A n c l) (hb : Below w.heap.size w w') (hB : B ≤ w.heap.size) : Sl w' w'.heap.size A n c l :=
  (h.below hb hB).more (Nat.le_trans hB hb.size)
theorem Sl.drewN (h : Sl w B A n c l) (k : Nat) : Sl (w.drewN k) B A n c l := ⟨h.len, h.le, h.max, h.cell⟩
theorem Sl.drew (h : Sl w B A n c l) : Sl w.drew B A n c l := ⟨h.len, h.le, h.max, h.cell⟩
theorem Sl.alloc (h : Sl w B A n c l) (hB : B ≤ w.heap.size) (o : Obj) : Sl (w.alloc o) B A n c l :=
  h.keep fun b p hb => World.cell?_alloc_lt w o ⟨b, p, none⟩ (by show b < w.heap.size; omega)
theorem Sl.setCell (h : Sl w B A n c l) {p : Addr} (hB : B ≤ p.block) (u : Value) : Sl (w.setCell p u) B A n c l :=
  h.keep fun b o hb => World.cell?_setCell_other w p ⟨b, o, none⟩ u (fun e => by subst e; simp at hB; omega)
theorem Sl.nil_ (w : World) (B : Nat) (A : Option Addr) (c : Nat) (hc : c ≤ maxLen) : Sl w B A 0 c [] := ⟨rfl, Nat.zero_le _, hc, fun h => absurd h (Nat.lt_irrefl _)⟩
theorem Sl.at_ {k : Nat} (h : Sl w B A n c l) (hk : k < n) : ∃ b o x, A = some ⟨b, o, none⟩ ∧ b < B ∧ l[k]? = some x ∧ w.cell? ⟨b, o + k, none⟩ = some (.int .u8 (x.toNat : Int)) := by
  obtain ⟨b, o, e, hb, hc⟩ := h.cell (by omega)
  have hl : k < l.length := by have := h.len; omega
  exact ⟨b, o, l[k], e, hb, List.getElem?_eq_getElem hl, hc k _ (List.getElem?_eq_getElem hl)⟩
theorem Sl.of_own {base : Nat} {e : TypeId} (h : w.ownsRow base e 1 (.slice A n c) n (cbs l)) : Sl w w.heap.size A n c l := by
  have hl : l.length = n := by simpa [cbs_len] using h.1
  rcases h.2 with ⟨hv, hn⟩ | ⟨g, cap, cur, hv, hb, hh, hnc, hcm, hs, ht⟩
  · injection hv with e1 e2 e3
    subst e1 e2 e3
    exact ⟨hl, Nat.le_refl _, Nat.zero_le _, fun hp => absurd hp (by omega)⟩
  · injection hv with e1 e2 e3
    subst e1 e3
    refine ⟨hl, hnc, hcm, fun hp => ⟨g, 0, rfl, (Array.getElem?_eq_some_iff.1 hh).1, fun j x hx => ?_⟩⟩
    have := h.cells (g := g) rfl j (cb x) (by rw [cbs_at, hx]; rfl)
    rwa [add_plain] at this
theorem Sl.firstCells {P : Program} (h : Sl w B A n c l) : (Builtin.firstCells 1 n (.slice A n c)).run P w = .ok (cbs l).toArray w := by
  rcases Nat.eq_zero_or_pos n with h0 | h0
  · subst h0
    have : l = [] := List.eq_nil_of_length_eq_zero h.len
    subst this
    rcases A with _ | a
    · exact run_firstCells_none w 1 0 0 c
    · exact run_firstCells_some w 1 0 a 0 c [] rfl (fun j v hv => by simp at hv)
  · obtain ⟨b, o, rfl, hb, hc⟩ := h.cell h0
    refine run_firstCells_some w 1 n _ n c (cbs l) (by rw [cbs_len, h.len, Nat.mul_one]) (fun j v hv => ?_)
    rw [cbs_at] at hv
    obtain ⟨x, hx, rfl⟩ := Option.map_eq_some_iff.1 hv
    rw [add_plain]
    exact hc j x hx
theorem Sl.src {P : Program} {tx e' : TypeId} (hk : P.underlying tx = some (.slice e')) (h : Sl w B A n c l) : Src P 1 tx (.slice A n c) n (cbs l) w :=
  ⟨.inl ⟨e', hk⟩, fun _ => rfl, h.firstCells, h.drew.firstCells, by rw [cbs_len, h.len, Nat.mul_one], cbs_one l⟩
/-- The first k of a slice: 's[:k]', 's[:k:m]'. -/
theorem Sl.take (h : Sl w B A n c l) {k m : Nat} (hk : k ≤ n) (hkm : k ≤ m) (hm : m ≤ c) : Sl w B A k m (l.take k) :=
  ⟨by rw [List.length_take, h.len]; omega, hkm, Nat.le_trans hm h.max, fun hp => by
    obtain ⟨b, o, e, hb, hc⟩ := h.cell (by omega)
    refine ⟨b, o, e, hb, fun j x hx => hc j x ?_⟩
    rw [List.getElem?_take] at hx
    split at hx
    · exact hx
    · cases hx⟩
/-- What is behind the first k: 's[k:]'. -/
theorem Sl.drop (h : Sl w B A n c l) {k : Nat} (hk : k ≤ n) : Sl w B (if c = k then A else A.map (·.add k)) (n - k) (c - k) (l.drop k) :=
  ⟨by rw [List.length_drop, h.len], by have := h.le; omega, by have := h.max; omega, fun hp => by
    obtain ⟨b, o, e, hb, hc⟩ := h.cell (by omega)
    subst e
    have := h.le
    rw [if_neg (by omega)]
    refine ⟨b, o + k, by simp [add_plain], hb, fun j x hx => ?_⟩
    rw [Nat.add_assoc]
    exact hc _ x (by rw [← hx, List.getElem?_drop])⟩
end

/-- A row that was just laid out. -/
theorem lit_sl (w : World) (t : TypeId) (l : List UInt8) (k : Nat) (hk : l.length = k) (hm : k ≤ maxLen) : Sl (w.alloc (.cells (cbs l).toArray t)) (w.heap.size + 1) (some ⟨w.heap.size, 0, none⟩) k k l :=
  ⟨hk, Nat.le_refl _, hm, fun _ => ⟨w.heap.size, 0, rfl, by omega, fun j x hx => by
    have h := cell_of_row (w.alloc (.cells (cbs l).toArray t)) w.heap.size j (cbs l).toArray t (0, 0) (heap_alloc_new w _)
    rw [Nat.zero_add, h, List.getElem?_toArray, cbs_at, hx]
    rfl⟩⟩
theorem lit_slf (w : World) (t : TypeId) (fr : Nat × Nat) (l : List UInt8) (k : Nat) (hk : l.length = k) (hm : k ≤ maxLen) : Sl (w.alloc (.cells (cbs l).toArray t fr)) (w.heap.size + 1) (some ⟨w.heap.size, 0, none⟩) k k l :=
  ⟨hk, Nat.le_refl _, hm, fun _ => ⟨w.heap.size, 0, rfl, by omega, fun j x hx => by
    have h := cell_of_row (w.alloc (.cells (cbs l).toArray t fr)) w.heap.size j (cbs l).toArray t fr (heap_alloc_new w _)
    rw [Nat.zero_add, h, List.getElem?_toArray, cbs_at, hx]
    rfl⟩⟩
theorem lit_own (w : World) (t : TypeId) (l : List UInt8) (k : Nat) (hk : l.length = k) (hm : k ≤ maxLen) : (w.alloc (.cells (cbs l).toArray t)).ownsRow w.heap.size t 1 (.slice (some ⟨w.heap.size, 0, none⟩) k k) k (cbs l) :=
  ⟨by rw [cbs_len, hk, Nat.mul_one], .inr ⟨w.heap.size, k, _, rfl, Nat.le_refl _, heap_alloc_new w _, Nat.le_refl _, hm, by simp [cbs_len, hk], by
    rw [List.take_of_length_le (by simp [cbs_len, hk])]⟩⟩

theorem Sl.onA {w : World} {A : Option Addr} {n c : Nat} {l : List UInt8} (h : Sl w w.heap.size A n c l) (o : Obj) : Sl (w.alloc o) (w.alloc o).heap.size A n c l := (h.alloc (Nat.le_refl _) o).more (by simp)
theorem Sl.onD {w : World} {A : Option Addr} {n c : Nat} {l : List UInt8} (h : Sl w w.heap.size A n c l) (k : Nat) : Sl (w.drewN k) (w.drewN k).heap.size A n c l := ⟨h.len, h.le, h.max, h.cell⟩
theorem below_drewN {B : Nat} {a w : World} (h : Below B a w) (n : Nat) : Below B a (w.drewN n) := ⟨h.os, h.tape, h.output, h.size, h.block⟩

/-- A slice of bytes that came in reads as bytes. -/
theorem sl_of_row {w : World} {a : Option Addr} {len cap : Nat} {zs : List Int}
    (h : (a = none ∧ len = 0 ∧ cap = 0 ∧ zs = []) ∨ ∃ x, a = some x ∧ len ≤ cap ∧ cap ≤ maxLen ∧ zs.length = cap ∧ (∀ i, i < zs.length → w.cell? (x.add i) = some (.int .u8 (zs.getD i 0))) ∧ ∀ n ∈ zs, (Lit.int .u8 n).wf = true) :
    ∃ l, Sl w w.heap.size a len cap l := by
  rcases h with ⟨rfl, rfl, rfl, rfl⟩ | ⟨x, rfl, hle, hm, hz, hc, hw⟩
  · exact ⟨[], Sl.nil_ w _ none 0 (Nat.zero_le _)⟩
  · refine ⟨(zs.take len).map fun z => UInt8.ofNat z.toNat, by rw [List.length_map, List.length_take]; omega, hle, hm, fun hp => ?_⟩
    obtain ⟨b, o, spot⟩ := x
    have h0 := hc 0 (by omega)
    have hspot : spot = none := by simpa [Addr.add] using World.cell?_spot h0
    subst hspot
    have hb := World.block_lt_of_cell? w _ h0
    refine ⟨b, o, rfl, by simpa [Addr.add] using hb, fun j y hy => ?_⟩
    rw [List.getElem?_map, List.getElem?_take] at hy
    by_cases hj : j < len
    · rw [if_pos hj, List.getElem?_eq_getElem (by omega)] at hy
      simp only [Option.map_some, Option.some.injEq] at hy
      have h1 := hc j (by omega)
      rw [add_plain] at h1
      rw [h1]
      have h2 := bounds_u8 (hw _ (List.getElem_mem (l := zs) (n := j) (by omega)))
      congr 1
      unfold cb
      congr 1
      rw [← hy, List.getD_eq_getElem?_getD, List.getElem?_eq_getElem (by omega)]
      simp
      omega
    · rw [if_neg hj] at hy
      simp at hy

/-- WHAT ONE MAY APPEND TO without touching blocks below 'base': a slice without spare room, or a row of one's own. -/
def Dst (w : World) (base : Nat) (e : TypeId) (A : Option Addr) (n c : Nat) (l : List UInt8) : Prop :=
  (n = c ∧ Sl w w.heap.size A n c l) ∨ w.ownsRow base e 1 (.slice A n c) n (cbs l)

theorem Dst.sl {w : World} {base : Nat} {e : TypeId} {A : Option Addr} {n c : Nat} {l : List UInt8} (h : Dst w base e A n c l) : Sl w w.heap.size A n c l := by
  rcases h with ⟨_, h⟩ | h
  · exact h
  · exact Sl.of_own h
theorem Dst.alloc {w : World} {base : Nat} {e : TypeId} {A : Option Addr} {n c : Nat} {l : List UInt8} (h : Dst w base e A n c l) (o : Obj) : Dst (w.alloc o) base e A n c l := by
  rcases h with ⟨hn, h⟩ | h
  · exact .inl ⟨hn, (h.alloc (Nat.le_refl _) o).more (by simp)⟩
  · exact .inr (h.alloc o)
theorem Dst.drewN {w : World} {base : Nat} {e : TypeId} {A : Option Addr} {n c : Nat} {l : List UInt8} (h : Dst w base e A n c l) (k : Nat) : Dst (w.drewN k) base e A n c l := by
  rcases h with ⟨hn, h⟩ | h
  · exact .inl ⟨hn, h.drewN k⟩
  · exact .inr h

section
variable {P : Program} (w : World)

/-- ONE LAW FOR APPEND. -/
theorem run_append_dst (base : Nat) (t tx ty e : TypeId) (i : TypeInfo) (ht : P.underlying t = some (.slice e)) (hi : P.info? e = some i) (hz : i.zero = some (.int .u8 0)) (hsize : i.size = 1) (hby : i.bytes = 1)
    (A : Option Addr) (n c : Nat) (l : List UInt8) (hd : Dst w base e A n c l) (x : Value) (m : Nat) (news : List UInt8) (hs : Src P 1 tx x m (cbs news) w)
    (hbytes : n + m ≤ 140737488355328) (hbase : base ≤ w.heap.size) :
    ∃ A' c' w', (Builtin.append_ #[t, tx] ty #[.slice A n c, x]).run P w = .ok (.slice A' (n + m) c') w' ∧ Dst w' base e A' (n + m) c' (l ++ news) ∧
      (0 < m → w'.ownsRow base e 1 (.slice A' (n + m) c') (n + m) (cbs (l ++ news))) ∧ (w.ownsRow base e 1 (.slice A n c) n (cbs l) → w'.ownsRow base e 1 (.slice A' (n + m) c') (n + m) (cbs (l ++ news))) ∧
      Below base w w' ∧ w.grownBy w' (if n = c then none else (Value.slice A n c).ownBlock) := by
  have hm : news.length = m := by have := hs.newsLen; rw [cbs_len] at this; omega
  have hsl := hd.sl
  have h63 : n + m ≤ maxLen := by simp only [maxLen]; omega
  have hll : (cbs (l ++ news)).length = (n + m) * 1 := by rw [cbs_len, List.length_append, hsl.len, hm, Nat.mul_one]
  by_cases hroom : n + m ≤ c
  · -- there is room
    rcases hd with ⟨hn, h⟩ | hown
    · have hm0 : m = 0 := by omega
      subst hm0
      have hnews : news = [] := List.eq_nil_of_length_eq_zero hm
      subst hnews
      have hcells := hs.cells
      have hle : n ≤ c := by omega
      refine ⟨A, c, w, ?_, .inl ⟨hn, by simpa using h⟩, fun h => absurd h (Nat.lt_irrefl _), fun h => by simpa using h, Below.refl _ _, ⟨rfl, rfl, rfl, Nat.le_refl _, fun _ _ _ => rfl⟩⟩
      rcases A with _ | a
      · rcases hs.kind with ⟨e', hk⟩ | hk <;> simp [Builtin.append_, run_underlying ht, run_underlying hk, sizeOf, typeInfo, hi, hs.len, hle, hsize, hcells, cbs]
      · rcases hs.kind with ⟨e', hk⟩ | hk <;> simp [Builtin.append_, run_underlying ht, run_underlying hk, sizeOf, typeInfo, hi, hs.len, hle, hsize, hcells, cbs, storeCells]
    · rcases hown.2 with ⟨hv, hn⟩ | ⟨g, cap, cur, hv, hbg, hg, hnc, hcm, hcs, htake⟩
      · injection hv with e1 e2 e3
        subst e1 e3
        have hn0 : n = 0 := hn
        have hm0 : m = 0 := by omega
        subst hn0 hm0
        have hnews : news = [] := List.eq_nil_of_length_eq_zero hm
        subst hnews
        have hcells := hs.cells
        refine ⟨none, 0, w, ?_, .inr (by simpa using hown), fun h => absurd h (Nat.lt_irrefl _), fun h => by simpa using h, Below.refl _ _, ⟨rfl, rfl, rfl, Nat.le_refl _, fun _ _ _ => rfl⟩⟩
        rcases hs.kind with ⟨e', hk⟩ | hk <;> simp [Builtin.append_, run_underlying ht, run_underlying hk, sizeOf, typeInfo, hi, hs.len, hsize, hcells, cbs]
      · injection hv with e1 e2 e3
        subst e1 e3
        have hcell : ∀ j, j < c → (w.cell? ⟨g, j, none⟩).isSome = true := fun j hj => by
          rw [cell_of_row w g j cur e (0, 0) hg]
          simp [Array.getElem?_eq_getElem (show j < cur.size by omega)]
        have hfr : ∀ j, w.frozen? ⟨g, j, none⟩ = false := fun j => hown.frozenAt j
        have hr := run_append_room_src (P := P) w t tx ty e i ht hi g 0 n c x m (cbs news) (by rw [hsize]; exact hs) hroom
          (fun j hj => by rw [cbs_len, hm] at hj; exact hcell _ (by rw [hsize]; omega)) (fun j _ => hfr _)
        have hst := run_storeCells_at P g n e (cbs news) 0 cur w hg (by rw [cbs_len]; omega) (cbs_one news)
        have hst2 := run_storeCells_cells (P := P) g n (cbs news) 0 w (fun j hj => by rw [cbs_len, hm] at hj; exact hcell _ (by omega)) (fun j _ => hfr _) (cbs_one news)
        rw [hst2] at hst
        injection hst with _ hw
        simp only [Nat.add_zero] at hw
        rw [hsize, Nat.mul_one, Nat.zero_add, hw] at hr
        have hnew : (w.setRow g (cur.toList.take n ++ cbs news ++ cur.toList.drop (n + (cbs news).length)).toArray).ownsRow base e 1 (.slice (some ⟨g, 0, none⟩) (n + m) c) (n + m) (cbs (l ++ news)) := by
          refine ⟨hll, .inr ⟨g, c, _, rfl, hbg, setRow_heap w g cur _ e _ hg, hroom, hcm, ?_, ?_⟩⟩
          · simp only [List.size_toArray, List.length_append, List.length_take, List.length_drop, Array.length_toList, cbs_len, hm]
            omega
          · rw [Nat.mul_one] at htake
            rw [htake, ← hll, cbs_app]
            exact List.take_left
        refine ⟨_, _, _, hr, .inr hnew, fun _ => hnew, fun _ => hnew, ⟨rfl, rfl, rfl, by simp, fun k hk => setRow_other w g k _ (by omega)⟩, ⟨rfl, rfl, rfl, by simp, fun k hk hne => ?_⟩⟩
        by_cases hnc' : n = c
        · have : news = [] := List.eq_nil_of_length_eq_zero (by omega)
          by_cases hkg : k = g
          · subst hkg
            rw [setRow_heap w k cur _ e _ hg, hg]
            have hcl : cur.toList.length = c := by simp; omega
            congr 2
            apply Array.ext'
            subst this
            simp [cbs, List.take_append_drop]
          · exact setRow_other w g k _ hkg
        · rw [if_neg hnc'] at hne
          exact setRow_other w g k _ (fun e => hne (by simp [Value.ownBlock, e]))
  · -- there is none: a new row
    have hg : c < n + m := by omega
    have hr := run_append_grow_src (P := P) w t tx ty e i (.int .u8 0) ht hi hz A n c (cbs l) (by rw [hsize]; exact hsl.drew.firstCells) x m (cbs news) (by rw [hsize]; exact hs) hg
      (by simp only [maxLen] at h63; omega) (by rw [hby]; exact growslice_fits hg (by omega))
    have hge := grownCap_ge w (n + m) c e
    have hcm : grownCap w (n + m) c e ≤ maxLen := grownCap_le_maxLen w (n + m) c e h63
    have hnew : (w.drew.alloc (.cells ((cbs l ++ cbs news).toArray ++ Builtin.zeroCells (Value.int .u8 0).cells (grownCap w (n + m) c e - (n + m))) e)).ownsRow base e 1
        (.slice (some ⟨w.heap.size, 0, none⟩) (n + m) (grownCap w (n + m) c e)) (n + m) (cbs (l ++ news)) := by
      refine ⟨hll, .inr ⟨w.heap.size, _, _, rfl, hbase, heap_alloc_new w.drew _, hge, hcm, ?_, ?_⟩⟩
      · have h1 : (Value.int .u8 0).cells.size = 1 := rfl
        simp only [Array.size_append, List.size_toArray, size_zeroCells, List.length_append, cbs_len, hsl.len, hm, h1]
        omega
      · rw [Array.toList_append, ← cbs_app, ← hll]
        exact List.take_left
    refine ⟨_, _, _, hr, .inr hnew, fun _ => hnew, fun _ => hnew, ((Below.refl _ _).drew).alloc hbase _, ⟨rfl, rfl, rfl, by simp, fun k hk _ => Below.heap_alloc w.drew _ k hk⟩⟩

/-- The same, at an operation of a walk. -/
theorem wpList_append_dst {ops : Array Oper} {rest : List Oper} {o : Oper} {a : Act} {Q : Exit → Act → World → Prop} (hgd : o.guard = none) (s x : Operand) (t tx : TypeId)
    (ho : o.op = .call { callee := .builtin .append, args := #[s, x], argTypes := #[t, tx] })
    (base : Nat) (e : TypeId) (i : TypeInfo) (ht : P.underlying t = some (.slice e)) (hi : P.info? e = some i) (hz : i.zero = some (.int .u8 0)) (hsize : i.size = 1) (hby : i.bytes = 1)
    (A : Option Addr) (n c : Nat) (l : List UInt8) (hs : a.eval s = .slice A n c) (hd : Dst w base e A n c l) (v : Value) (m : Nat) (news : List UInt8) (hx : a.eval x = v) (hsrc : Src P 1 tx v m (cbs news) w)
    (hbytes : n + m ≤ 140737488355328) (hbase : base ≤ w.heap.size)
    (h : ∀ A' c' w', Dst w' base e A' (n + m) c' (l ++ news) → (0 < m → w'.ownsRow base e 1 (.slice A' (n + m) c') (n + m) (cbs (l ++ news))) →
      (w.ownsRow base e 1 (.slice A n c) n (cbs l) → w'.ownsRow base e 1 (.slice A' (n + m) c') (n + m) (cbs (l ++ news))) → Below base w w' → w.grownBy w' (if n = c then none else (Value.slice A n c).ownBlock) →
      wpList P ops Q rest (a.put o.dst (.slice A' (n + m) c')) w') : wpList P ops Q (o :: rest) a w := by
  refine wpList_plain hgd fun _ hK => ?_
  obtain ⟨A', c', w', hr, h2, h3, h4, h5, h6⟩ := run_append_dst (P := P) w base t tx o.type e i ht hi hz hsize hby A n c l hd v m news hsrc hbytes hbase
  unfold Oper.wp execOp
  simp only [ho, resolve, invoke, builtin, Sem.run_bind, Sem.run_pure, Result.andThen_ok, List.map_toArray, List.map_cons, List.map_nil, hs, hx, hr]
  exact hK _ _ (h A' c' w' h2 h3 h4 h5 h6)

/-- The same, at a step of a region that draws its order. -/
theorem step_append_dst {ops : Array Oper} {o : Oper} {a : Act} {K : Act → World → Prop} {Q : Exit → Act → World → Prop} {E : Prop} (hgd : o.guard = none) (s x : Operand) (t tx : TypeId)
    (ho : o.op = .call { callee := .builtin .append, args := #[s, x], argTypes := #[t, tx] })
    (base : Nat) (e : TypeId) (i : TypeInfo) (ht : P.underlying t = some (.slice e)) (hi : P.info? e = some i) (hz : i.zero = some (.int .u8 0)) (hsize : i.size = 1) (hby : i.bytes = 1)
    (A : Option Addr) (n c : Nat) (l : List UInt8) (hs : a.eval s = .slice A n c) (hd : Dst w base e A n c l) (v : Value) (m : Nat) (news : List UInt8) (hx : a.eval x = v) (hsrc : Src P 1 tx v m (cbs news) w)
    (hbytes : n + m ≤ 140737488355328) (hbase : base ≤ w.heap.size)
    (h : ∀ A' c' w', Dst w' base e A' (n + m) c' (l ++ news) → (0 < m → w'.ownsRow base e 1 (.slice A' (n + m) c') (n + m) (cbs (l ++ news))) →
      (w.ownsRow base e 1 (.slice A n c) n (cbs l) → w'.ownsRow base e 1 (.slice A' (n + m) c') (n + m) (cbs (l ++ news))) → Below base w w' → w.grownBy w' (if n = c then none else (Value.slice A n c).ownBlock) →
      K (a.put o.dst (.slice A' (n + m) c')) w') : if Region.wanted o (yielded ops a.tmps) = true then Oper.wp P o a w K Q else E := by
  have hw : Region.wanted o (yielded ops a.tmps) = true := by simp [Region.wanted, hgd]
  rw [if_pos hw]
  obtain ⟨A', c', w', hr, h2, h3, h4, h5, h6⟩ := run_append_dst (P := P) w base t tx o.type e i ht hi hz hsize hby A n c l hd v m news hsrc hbytes hbase
  unfold Oper.wp execOp
  simp only [ho, resolve, invoke, builtin, Sem.run_bind, Sem.run_pure, Result.andThen_ok, List.map_toArray, List.map_cons, List.map_nil, hs, hx, hr]
  exact h A' c' w' h2 h3 h4 h5 h6
end
/-- True is handed back, and nothing that was there has turned. -/
def Yes (w : World) (e : Ending) (w' : World) : Prop := e = .returned (.bool true) ∧ Below w.heap.size w w'
theorem take_snoc {l : List UInt8} {j : Nat} {x : UInt8} (h : l[j]? = some x) : l.take (j + 1) = l.take j ++ [x] := by
  rw [List.take_add_one, h]; rfl
end Go.Proofs.Ythhmgbeigeagdaa
