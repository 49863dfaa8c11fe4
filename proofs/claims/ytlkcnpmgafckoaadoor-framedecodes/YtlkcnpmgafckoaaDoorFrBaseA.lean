/-
  WORDS AND CONTRACTS of layers 1, 2 and 4, of the reference too: texts of earlier rounds, laid together.
  No statement is proved here.
-/
import Derived.WalkKit
import Derived.Below
import Derived.Lib.Hide
import Derived.Laws.OwnMore
import Derived.Deep.AppendLies
import Derived.Deep.AppendSrc
import Derived.Deep.Draws
import Derived.OwnWalk
import Derived.OpenShut
import Derived.Deep.RegionHeld3
import Derived.Test.YtlkcnpmgafckoaaDoorRows
import Derived.Deep.QuietTactic
import Derived.BigQuiet
import Derived.Deep.LoopGhost
import Derived.WalkSpells
import Derived.Laws.BytesArg
import GoSem.Claim
import Derived.Laws.BitsAllLaws
import Derived.Lib.SlBytesConst
import Derived.Laws.BitsLemmas
import Derived.StillTailTactics

/-! ## Words -/
namespace Go.Proofs.YtlkcnpmgafckoaaDoor
open Go.RowKit

/-- A byte as a cell; bytes as cells. -/
def cb (b : UInt8) : Value := .int .u8 (b.toNat : Int)
def cbs (l : List UInt8) : List Value := l.map cb
theorem cbs_len (l : List UInt8) : (cbs l).length = l.length := by simp [cbs]
theorem cbs_app (l m : List UInt8) : cbs (l ++ m) = cbs l ++ cbs m := by simp [cbs]
theorem cbs_at (l : List UInt8) (j : Nat) : (cbs l)[j]? = (l[j]?).map cb := by simp [cbs]
theorem cbs_one (l : List UInt8) : ∀ u ∈ cbs l, u.oneCell' = true := by
  intro u hu
  obtain ⟨b, _, rfl⟩ := List.mem_map.1 hu
  rfl

theorem add_plain (b o j : Nat) : (⟨b, o, none⟩ : Addr).add j = ⟨b, o + j, none⟩ := by
  unfold Addr.add
  split
  · subst_vars; rfl
  · rfl

/-- THE SLICE (A, n, c) READS, in w, AS THE BYTES l, below block B. -/
structure Sl (w : World) (B : Nat) (A : Option Addr) (n c : Nat) (l : List UInt8) : Prop where
  len : l.length = n
  le : n ≤ c
  max : c ≤ maxLen
  cell : 0 < n → ∃ b o, A = some ⟨b, o, none⟩ ∧ b < B ∧ ∀ (j : Nat) (x : UInt8), l[j]? = some x → w.cell? ⟨b, o + j, none⟩ = some (cb x)

section
variable {w w' : World} {B B' : Nat} {A : Option Addr} {n c : Nat} {l : List UInt8}

theorem Sl.keep (h : Sl w B A n c l) (hk : ∀ b o, b < B → w'.cell? ⟨b, o, none⟩ = w.cell? ⟨b, o, none⟩) : Sl w' B A n c l :=
  ⟨h.len, h.le, h.max, fun hn => by
    obtain ⟨b, o, e, hb, hc⟩ := h.cell hn
    exact ⟨b, o, e, hb, fun j x hx => (hk b _ hb).trans (hc j x hx)⟩⟩
theorem Sl.more (h : Sl w B A n c l) (hB : B ≤ B') : Sl w B' A n c l :=
  ⟨h.len, h.le, h.max, fun hn => by
    obtain ⟨b, o, e, hb, hc⟩ := h.cell hn
    exact ⟨b, o, e, by omega, hc⟩⟩
theorem Sl.below (h : Sl w B A n c l) (hb : Below B' w w') (hB : B ≤ B') : Sl w' B A n c l :=
  h.keep fun b o hp => hb.cell (p := ⟨b, o, none⟩) (by show b < B'; omega)
theorem Sl.on (h : Sl w B A n c l) (hb : Below w.heap.size w w') (hB : B ≤ w.heap.size) : Sl w' w'.heap.size A n c l :=
  (h.below hb hB).more (Nat.le_trans hB hb.size)
theorem Sl.drewN (h : Sl w B A n c l) (k : Nat) : Sl (w.drewN k) B A n c l := ⟨h.len, h.le, h.max, h.cell⟩
theorem Sl.drew (h : Sl w B A n c l) : Sl w.drew B A n c l := ⟨h.len, h.le, h.max, h.cell⟩
theorem Sl.alloc (h : Sl w B A n c l) (hB : B ≤ w.heap.size) (o : Obj) : Sl (w.alloc o) B A n c l :=
  h.keep fun b p hb => World.cell?_alloc_lt w o ⟨b, p, none⟩ (by show b < w.heap.size; omega)
theorem Sl.setCell (h : Sl w B A n c l) {p : Addr} (hB : B ≤ p.block) (u : Value) : Sl (w.setCell p u) B A n c l :=
  h.keep fun b o hb => World.cell?_setCell_other w p ⟨b, o, none⟩ u (fun e => by subst e; simp at hB; omega)
theorem Sl.nil_ (w : World) (B : Nat) (A : Option Addr) (c : Nat) (hc : c ≤ maxLen) : Sl w B A 0 c [] := ⟨rfl, Nat.zero_le _, hc, fun h => absurd h (Nat.lt_irrefl _)⟩
theorem Sl.at_ {k : Nat} (h : Sl w B A n c l) (hk : k < n) : ∃ b o x, A = some ⟨b, o, none⟩ ∧ b < B ∧ l[k]? = some x ∧ w.cell? ⟨b, o + k, none⟩ = some (.int .u8 (x.toNat : Int)) := by
  obtain ⟨b, o, e, hb, hc⟩ := h.cell (by omega)
  have hl : k < l.length := by have := h.len; omega
  exact ⟨b, o, l[k], e, hb, List.getElem?_eq_getElem hl, hc k _ (List.getElem?_eq_getElem hl)⟩
theorem Sl.of_own {base : Nat} {e : TypeId} (h : w.ownsRow base e 1 (.slice A n c) n (cbs l)) : Sl w w.heap.size A n c l := by
  have hl : l.length = n := by simpa [cbs_len] using h.1
  rcases h.2 with ⟨hv, hn⟩ | ⟨g, cap, cur, hv, hb, hh, hnc, hcm, hs, ht⟩
  · injection hv with e1 e2 e3
    subst e1 e2 e3
    exact ⟨hl, Nat.le_refl _, Nat.zero_le _, fun hp => absurd hp (by omega)⟩
  · injection hv with e1 e2 e3
    subst e1 e3
    refine ⟨hl, hnc, hcm, fun hp => ⟨g, 0, rfl, (Array.getElem?_eq_some_iff.1 hh).1, fun j x hx => ?_⟩⟩
    have := h.cells (g := g) rfl j (cb x) (by rw [cbs_at, hx]; rfl)
    rwa [add_plain] at this
theorem Sl.firstCells {P : Program} (h : Sl w B A n c l) : (Builtin.firstCells 1 n (.slice A n c)).run P w = .ok (cbs l).toArray w := by
  rcases Nat.eq_zero_or_pos n with h0 | h0
  · subst h0
    have : l = [] := List.eq_nil_of_length_eq_zero h.len
    subst this
    rcases A with _ | a
    · exact run_firstCells_none w 1 0 0 c
    · exact run_firstCells_some w 1 0 a 0 c [] rfl (fun j v hv => by simp at hv)
  · obtain ⟨b, o, rfl, hb, hc⟩ := h.cell h0
    refine run_firstCells_some w 1 n _ n c (cbs l) (by rw [cbs_len, h.len, Nat.mul_one]) (fun j v hv => ?_)
    rw [cbs_at] at hv
    obtain ⟨x, hx, rfl⟩ := Option.map_eq_some_iff.1 hv
    rw [add_plain]
    exact hc j x hx
theorem Sl.src {P : Program} {tx e' : TypeId} (hk : P.underlying tx = some (.slice e')) (h : Sl w B A n c l) : Src P 1 tx (.slice A n c) n (cbs l) w :=
  ⟨.inl ⟨e', hk⟩, fun _ => rfl, h.firstCells, h.drew.firstCells, by rw [cbs_len, h.len, Nat.mul_one], cbs_one l⟩
/-- The first k of a slice: 's[:k]', 's[:k:m]'. -/
theorem Sl.take (h : Sl w B A n c l) {k m : Nat} (hk : k ≤ n) (hkm : k ≤ m) (hm : m ≤ c) : Sl w B A k m (l.take k) :=
  ⟨by rw [List.length_take, h.len]; omega, hkm, Nat.le_trans hm h.max, fun hp => by
    obtain ⟨b, o, e, hb, hc⟩ := h.cell (by omega)
    refine ⟨b, o, e, hb, fun j x hx => hc j x ?_⟩
    rw [List.getElem?_take] at hx
    split at hx
    · exact hx
    · cases hx⟩
/-- What is behind the first k: 's[k:]'. -/
theorem Sl.drop (h : Sl w B A n c l) {k : Nat} (hk : k ≤ n) : Sl w B (if c = k then A else A.map (·.add k)) (n - k) (c - k) (l.drop k) :=
  ⟨by rw [List.length_drop, h.len], by have := h.le; omega, by have := h.max; omega, fun hp => by
    obtain ⟨b, o, e, hb, hc⟩ := h.cell (by omega)
    subst e
    have := h.le
    rw [if_neg (by omega)]
    refine ⟨b, o + k, by simp [add_plain], hb, fun j x hx => ?_⟩
    rw [Nat.add_assoc]
    exact hc _ x (by rw [← hx, List.getElem?_drop])⟩
end

/-- A row that was just laid out. -/
theorem lit_sl (w : World) (t : TypeId) (l : List UInt8) (k : Nat) (hk : l.length = k) (hm : k ≤ maxLen) : Sl (w.alloc (.cells (cbs l).toArray t)) (w.heap.size + 1) (some ⟨w.heap.size, 0, none⟩) k k l :=
  ⟨hk, Nat.le_refl _, hm, fun _ => ⟨w.heap.size, 0, rfl, by omega, fun j x hx => by
    have h := cell_of_row (w.alloc (.cells (cbs l).toArray t)) w.heap.size j (cbs l).toArray t (0, 0) (heap_alloc_new w _)
    rw [Nat.zero_add, h, List.getElem?_toArray, cbs_at, hx]
    rfl⟩⟩
theorem Sl.onA {w : World} {A : Option Addr} {n c : Nat} {l : List UInt8} (h : Sl w w.heap.size A n c l) (o : Obj) : Sl (w.alloc o) (w.alloc o).heap.size A n c l := (h.alloc (Nat.le_refl _) o).more (by simp)
theorem Sl.onD {w : World} {A : Option Addr} {n c : Nat} {l : List UInt8} (h : Sl w w.heap.size A n c l) (k : Nat) : Sl (w.drewN k) (w.drewN k).heap.size A n c l := ⟨h.len, h.le, h.max, h.cell⟩
theorem below_drewN {B : Nat} {a w : World} (h : Below B a w) (n : Nat) : Below B a (w.drewN n) := ⟨h.os, h.tape, h.output, h.size, h.block⟩

/-- A slice of bytes that came in reads as bytes. -/
theorem sl_of_row {w : World} {a : Option Addr} {len cap : Nat} {zs : List Int}
    (h : (a = none ∧ len = 0 ∧ cap = 0 ∧ zs = []) ∨ ∃ x, a = some x ∧ len ≤ cap ∧ cap ≤ maxLen ∧ zs.length = cap ∧ (∀ i, i < zs.length → w.cell? (x.add i) = some (.int .u8 (zs.getD i 0))) ∧ ∀ n ∈ zs, (Lit.int .u8 n).wf = true) :
    ∃ l, Sl w w.heap.size a len cap l := by
  rcases h with ⟨rfl, rfl, rfl, rfl⟩ | ⟨x, rfl, hle, hm, hz, hc, hw⟩
  · exact ⟨[], Sl.nil_ w _ none 0 (Nat.zero_le _)⟩
  · refine ⟨(zs.take len).map fun z => UInt8.ofNat z.toNat, by rw [List.length_map, List.length_take]; omega, hle, hm, fun hp => ?_⟩
    obtain ⟨b, o, spot⟩ := x
    have h0 := hc 0 (by omega)
    have hspot : spot = none := by simpa [Addr.add] using World.cell?_spot h0
    subst hspot
    have hb := World.block_lt_of_cell? w _ h0
    refine ⟨b, o, rfl, by simpa [Addr.add] using hb, fun j y hy => ?_⟩
    rw [List.getElem?_map, List.getElem?_take] at hy
    by_cases hj : j < len
    · rw [if_pos hj, List.getElem?_eq_getElem (by omega)] at hy
      simp only [Option.map_some, Option.some.injEq] at hy
      have h1 := hc j (by omega)
      rw [add_plain] at h1
      rw [h1]
      have h2 := bounds_u8 (hw _ (List.getElem_mem (l := zs) (n := j) (by omega)))
      congr 1
      unfold cb
      congr 1
      rw [← hy, List.getD_eq_getElem?_getD, List.getElem?_eq_getElem (by omega)]
      simp
      omega
    · rw [if_neg hj] at hy
      simp at hy

/-- WHAT ONE MAY APPEND TO without touching blocks below 'base': a slice without spare room, or a row of one's own. -/
def Dst (w : World) (base : Nat) (e : TypeId) (A : Option Addr) (n c : Nat) (l : List UInt8) : Prop :=
  (n = c ∧ Sl w w.heap.size A n c l) ∨ w.ownsRow base e 1 (.slice A n c) n (cbs l)

theorem Dst.sl {w : World} {base : Nat} {e : TypeId} {A : Option Addr} {n c : Nat} {l : List UInt8} (h : Dst w base e A n c l) : Sl w w.heap.size A n c l := by
  rcases h with ⟨_, h⟩ | h
  · exact h
  · exact Sl.of_own h
theorem Dst.alloc {w : World} {base : Nat} {e : TypeId} {A : Option Addr} {n c : Nat} {l : List UInt8} (h : Dst w base e A n c l) (o : Obj) : Dst (w.alloc o) base e A n c l := by
  rcases h with ⟨hn, h⟩ | h
  · exact .inl ⟨hn, (h.alloc (Nat.le_refl _) o).more (by simp)⟩
  · exact .inr (h.alloc o)
theorem Dst.drewN {w : World} {base : Nat} {e : TypeId} {A : Option Addr} {n c : Nat} {l : List UInt8} (h : Dst w base e A n c l) (k : Nat) : Dst (w.drewN k) base e A n c l := by
  rcases h with ⟨hn, h⟩ | h
  · exact .inl ⟨hn, h.drewN k⟩
  · exact .inr h

section
variable {P : Program} (w : World)

/-- ONE LAW FOR APPEND. -/
theorem run_append_dst (base : Nat) (t tx ty e : TypeId) (i : TypeInfo) (ht : P.underlying t = some (.slice e)) (hi : P.info? e = some i) (hz : i.zero = some (.int .u8 0)) (hsize : i.size = 1) (hby : i.bytes = 1)
    (A : Option Addr) (n c : Nat) (l : List UInt8) (hd : Dst w base e A n c l) (x : Value) (m : Nat) (news : List UInt8) (hs : Src P 1 tx x m (cbs news) w)
    (hbytes : n + m ≤ 140737488355328) (hbase : base ≤ w.heap.size) :
    ∃ A' c' w', (Builtin.append_ #[t, tx] ty #[.slice A n c, x]).run P w = .ok (.slice A' (n + m) c') w' ∧ Dst w' base e A' (n + m) c' (l ++ news) ∧
      (0 < m → w'.ownsRow base e 1 (.slice A' (n + m) c') (n + m) (cbs (l ++ news))) ∧ (w.ownsRow base e 1 (.slice A n c) n (cbs l) → w'.ownsRow base e 1 (.slice A' (n + m) c') (n + m) (cbs (l ++ news))) ∧
      Below base w w' ∧ w.grownBy w' (if n = c then none else (Value.slice A n c).ownBlock) := by
  have hm : news.length = m := by have := hs.newsLen; rw [cbs_len] at this; omega
  have hsl := hd.sl
  have h63 : n + m ≤ maxLen := by simp only [maxLen]; omega
  have hll : (cbs (l ++ news)).length = (n + m) * 1 := by rw [cbs_len, List.length_append, hsl.len, hm, Nat.mul_one]
  by_cases hroom : n + m ≤ c
  · -- there is room
    rcases hd with ⟨hn, h⟩ | hown
    · have hm0 : m = 0 := by omega
      subst hm0
      have hnews : news = [] := List.eq_nil_of_length_eq_zero hm
      subst hnews
      have hcells := hs.cells
      have hle : n ≤ c := by omega
      refine ⟨A, c, w, ?_, .inl ⟨hn, by simpa using h⟩, fun h => absurd h (Nat.lt_irrefl _), fun h => by simpa using h, Below.refl _ _, ⟨rfl, rfl, rfl, Nat.le_refl _, fun _ _ _ => rfl⟩⟩
      rcases A with _ | a
      · rcases hs.kind with ⟨e', hk⟩ | hk <;> simp [Builtin.append_, run_underlying ht, run_underlying hk, sizeOf, typeInfo, hi, hs.len, hle, hsize, hcells, cbs]
      · rcases hs.kind with ⟨e', hk⟩ | hk <;> simp [Builtin.append_, run_underlying ht, run_underlying hk, sizeOf, typeInfo, hi, hs.len, hle, hsize, hcells, cbs, storeCells]
    · rcases hown.2 with ⟨hv, hn⟩ | ⟨g, cap, cur, hv, hbg, hg, hnc, hcm, hcs, htake⟩
      · injection hv with e1 e2 e3
        subst e1 e3
        have hn0 : n = 0 := hn
        have hm0 : m = 0 := by omega
        subst hn0 hm0
        have hnews : news = [] := List.eq_nil_of_length_eq_zero hm
        subst hnews
        have hcells := hs.cells
        refine ⟨none, 0, w, ?_, .inr (by simpa using hown), fun h => absurd h (Nat.lt_irrefl _), fun h => by simpa using h, Below.refl _ _, ⟨rfl, rfl, rfl, Nat.le_refl _, fun _ _ _ => rfl⟩⟩
        rcases hs.kind with ⟨e', hk⟩ | hk <;> simp [Builtin.append_, run_underlying ht, run_underlying hk, sizeOf, typeInfo, hi, hs.len, hsize, hcells, cbs]
      · injection hv with e1 e2 e3
        subst e1 e3
        have hcell : ∀ j, j < c → (w.cell? ⟨g, j, none⟩).isSome = true := fun j hj => by
          rw [cell_of_row w g j cur e (0, 0) hg]
          simp [Array.getElem?_eq_getElem (show j < cur.size by omega)]
        have hfr : ∀ j, w.frozen? ⟨g, j, none⟩ = false := fun j => hown.frozenAt j
        have hr := run_append_room_src (P := P) w t tx ty e i ht hi g 0 n c x m (cbs news) (by rw [hsize]; exact hs) hroom
          (fun j hj => by rw [cbs_len, hm] at hj; exact hcell _ (by rw [hsize]; omega)) (fun j _ => hfr _)
        have hst := run_storeCells_at P g n e (cbs news) 0 cur w hg (by rw [cbs_len]; omega) (cbs_one news)
        have hst2 := run_storeCells_cells (P := P) g n (cbs news) 0 w (fun j hj => by rw [cbs_len, hm] at hj; exact hcell _ (by omega)) (fun j _ => hfr _) (cbs_one news)
        rw [hst2] at hst
        injection hst with _ hw
        simp only [Nat.add_zero] at hw
        rw [hsize, Nat.mul_one, Nat.zero_add, hw] at hr
        have hnew : (w.setRow g (cur.toList.take n ++ cbs news ++ cur.toList.drop (n + (cbs news).length)).toArray).ownsRow base e 1 (.slice (some ⟨g, 0, none⟩) (n + m) c) (n + m) (cbs (l ++ news)) := by
          refine ⟨hll, .inr ⟨g, c, _, rfl, hbg, setRow_heap w g cur _ e _ hg, hroom, hcm, ?_, ?_⟩⟩
          · simp only [List.size_toArray, List.length_append, List.length_take, List.length_drop, Array.length_toList, cbs_len, hm]
            omega
          · rw [Nat.mul_one] at htake
            rw [htake, ← hll, cbs_app]
            exact List.take_left
        refine ⟨_, _, _, hr, .inr hnew, fun _ => hnew, fun _ => hnew, ⟨rfl, rfl, rfl, by simp, fun k hk => setRow_other w g k _ (by omega)⟩, ⟨rfl, rfl, rfl, by simp, fun k hk hne => ?_⟩⟩
        by_cases hnc' : n = c
        · have : news = [] := List.eq_nil_of_length_eq_zero (by omega)
          by_cases hkg : k = g
          · subst hkg
            rw [setRow_heap w k cur _ e _ hg, hg]
            have hcl : cur.toList.length = c := by simp; omega
            congr 2
            apply Array.ext'
            subst this
            simp [cbs, List.take_append_drop]
          · exact setRow_other w g k _ hkg
        · rw [if_neg hnc'] at hne
          exact setRow_other w g k _ (fun e => hne (by simp [Value.ownBlock, e]))
  · -- there is none: a new row
    have hg : c < n + m := by omega
    have hr := run_append_grow_src (P := P) w t tx ty e i (.int .u8 0) ht hi hz A n c (cbs l) (by rw [hsize]; exact hsl.drew.firstCells) x m (cbs news) (by rw [hsize]; exact hs) hg
      (by simp only [maxLen] at h63; omega) (by rw [hby]; exact growslice_fits hg (by omega))
    have hge := grownCap_ge w (n + m) c e
    have hcm : grownCap w (n + m) c e ≤ maxLen := grownCap_le_maxLen w (n + m) c e h63
    have hnew : (w.drew.alloc (.cells ((cbs l ++ cbs news).toArray ++ Builtin.zeroCells (Value.int .u8 0).cells (grownCap w (n + m) c e - (n + m))) e)).ownsRow base e 1
        (.slice (some ⟨w.heap.size, 0, none⟩) (n + m) (grownCap w (n + m) c e)) (n + m) (cbs (l ++ news)) := by
      refine ⟨hll, .inr ⟨w.heap.size, _, _, rfl, hbase, heap_alloc_new w.drew _, hge, hcm, ?_, ?_⟩⟩
      · have h1 : (Value.int .u8 0).cells.size = 1 := rfl
        simp only [Array.size_append, List.size_toArray, size_zeroCells, List.length_append, cbs_len, hsl.len, hm, h1]
        omega
      · rw [Array.toList_append, ← cbs_app, ← hll]
        exact List.take_left
    refine ⟨_, _, _, hr, .inr hnew, fun _ => hnew, fun _ => hnew, ((Below.refl _ _).drew).alloc hbase _, ⟨rfl, rfl, rfl, by simp, fun k hk _ => Below.heap_alloc w.drew _ k hk⟩⟩

/-- The same, at an operation of a walk. -/
theorem wpList_append_dst {ops : Array Oper} {rest : List Oper} {o : Oper} {a : Act} {Q : Exit → Act → World → Prop} (hgd : o.guard = none) (s x : Operand) (t tx : TypeId)
    (ho : o.op = .call { callee := .builtin .append, args := #[s, x], argTypes := #[t, tx] })
    (base : Nat) (e : TypeId) (i : TypeInfo) (ht : P.underlying t = some (.slice e)) (hi : P.info? e = some i) (hz : i.zero = some (.int .u8 0)) (hsize : i.size = 1) (hby : i.bytes = 1)
    (A : Option Addr) (n c : Nat) (l : List UInt8) (hs : a.eval s = .slice A n c) (hd : Dst w base e A n c l) (v : Value) (m : Nat) (news : List UInt8) (hx : a.eval x = v) (hsrc : Src P 1 tx v m (cbs news) w)
    (hbytes : n + m ≤ 140737488355328) (hbase : base ≤ w.heap.size)
    (h : ∀ A' c' w', Dst w' base e A' (n + m) c' (l ++ news) → (0 < m → w'.ownsRow base e 1 (.slice A' (n + m) c') (n + m) (cbs (l ++ news))) →
      (w.ownsRow base e 1 (.slice A n c) n (cbs l) → w'.ownsRow base e 1 (.slice A' (n + m) c') (n + m) (cbs (l ++ news))) → Below base w w' → w.grownBy w' (if n = c then none else (Value.slice A n c).ownBlock) →
      wpList P ops Q rest (a.put o.dst (.slice A' (n + m) c')) w') : wpList P ops Q (o :: rest) a w := by
  refine wpList_plain hgd fun _ hK => ?_
  obtain ⟨A', c', w', hr, h2, h3, h4, h5, h6⟩ := run_append_dst (P := P) w base t tx o.type e i ht hi hz hsize hby A n c l hd v m news hsrc hbytes hbase
  unfold Oper.wp execOp
  simp only [ho, resolve, invoke, builtin, Sem.run_bind, Sem.run_pure, Result.andThen_ok, List.map_toArray, List.map_cons, List.map_nil, hs, hx, hr]
  exact hK _ _ (h A' c' w' h2 h3 h4 h5 h6)

/-- The same, at a step of a region that draws its order. -/
theorem step_append_dst {ops : Array Oper} {o : Oper} {a : Act} {K : Act → World → Prop} {Q : Exit → Act → World → Prop} {E : Prop} (hgd : o.guard = none) (s x : Operand) (t tx : TypeId)
    (ho : o.op = .call { callee := .builtin .append, args := #[s, x], argTypes := #[t, tx] })
    (base : Nat) (e : TypeId) (i : TypeInfo) (ht : P.underlying t = some (.slice e)) (hi : P.info? e = some i) (hz : i.zero = some (.int .u8 0)) (hsize : i.size = 1) (hby : i.bytes = 1)
    (A : Option Addr) (n c : Nat) (l : List UInt8) (hs : a.eval s = .slice A n c) (hd : Dst w base e A n c l) (v : Value) (m : Nat) (news : List UInt8) (hx : a.eval x = v) (hsrc : Src P 1 tx v m (cbs news) w)
    (hbytes : n + m ≤ 140737488355328) (hbase : base ≤ w.heap.size)
    (h : ∀ A' c' w', Dst w' base e A' (n + m) c' (l ++ news) → (0 < m → w'.ownsRow base e 1 (.slice A' (n + m) c') (n + m) (cbs (l ++ news))) →
      (w.ownsRow base e 1 (.slice A n c) n (cbs l) → w'.ownsRow base e 1 (.slice A' (n + m) c') (n + m) (cbs (l ++ news))) → Below base w w' → w.grownBy w' (if n = c then none else (Value.slice A n c).ownBlock) →
      K (a.put o.dst (.slice A' (n + m) c')) w') : if Region.wanted o (yielded ops a.tmps) = true then Oper.wp P o a w K Q else E := by
  have hw : Region.wanted o (yielded ops a.tmps) = true := by simp [Region.wanted, hgd]
  rw [if_pos hw]
  obtain ⟨A', c', w', hr, h2, h3, h4, h5, h6⟩ := run_append_dst (P := P) w base t tx o.type e i ht hi hz hsize hby A n c l hd v m news hsrc hbytes hbase
  unfold Oper.wp execOp
  simp only [ho, resolve, invoke, builtin, Sem.run_bind, Sem.run_pure, Result.andThen_ok, List.map_toArray, List.map_cons, List.map_nil, hs, hx, hr]
  exact h A' c' w' h2 h3 h4 h5 h6
end
/-- True is handed back, and nothing that was there has turned. -/
def Yes (w : World) (e : Ending) (w' : World) : Prop := e = .returned (.bool true) ∧ Below w.heap.size w w'
theorem take_snoc {l : List UInt8} {j : Nat} {x : UInt8} (h : l[j]? = some x) : l.take (j + 1) = l.take j ++ [x] := by
  rw [List.take_add_one, h]; rfl
end Go.Proofs.YtlkcnpmgafckoaaDoor

/-! ## Cells -/
namespace Go.Proofs.YtlkcnpmgafckoaaDoor
open Go.RowKit

/-- THE SLICE (A, n, c), of elements of k cells, READS, in w, AS THE CELLS xs, below block B. -/
structure Sn (w : World) (B : Nat) (A : Option Addr) (n c k : Nat) (xs : List Value) : Prop where
  len : xs.length = n * k
  le : n ≤ c
  max : c ≤ maxLen
  cell : 0 < n * k → ∃ b o, A = some ⟨b, o, none⟩ ∧ b < B ∧ ∀ (j : Nat) (x : Value), xs[j]? = some x → w.cell? ⟨b, o + j, none⟩ = some x

section
variable {w w' : World} {B B' : Nat} {A : Option Addr} {n c k : Nat} {xs : List Value}
theorem Sn.keep (h : Sn w B A n c k xs) (hk : ∀ b o, b < B → w'.cell? ⟨b, o, none⟩ = w.cell? ⟨b, o, none⟩) : Sn w' B A n c k xs :=
  ⟨h.len, h.le, h.max, fun hn => by
    obtain ⟨b, o, e, hb, hc⟩ := h.cell hn
    exact ⟨b, o, e, hb, fun j x hx => (hk b _ hb).trans (hc j x hx)⟩⟩
theorem Sn.more (h : Sn w B A n c k xs) (hB : B ≤ B') : Sn w B' A n c k xs :=
  ⟨h.len, h.le, h.max, fun hn => by
    obtain ⟨b, o, e, hb, hc⟩ := h.cell hn
    exact ⟨b, o, e, by omega, hc⟩⟩
theorem Sn.below (h : Sn w B A n c k xs) (hb : Below B' w w') (hB : B ≤ B') : Sn w' B A n c k xs :=
  h.keep fun b o hp => hb.cell (p := ⟨b, o, none⟩) (by show b < B'; omega)
theorem Sn.on (h : Sn w B A n c k xs) (hb : Below w.heap.size w w') (hB : B ≤ w.heap.size) : Sn w' w'.heap.size A n c k xs := (h.below hb hB).more (Nat.le_trans hB hb.size)
theorem Sn.drewN (h : Sn w B A n c k xs) (q : Nat) : Sn (w.drewN q) B A n c k xs := ⟨h.len, h.le, h.max, h.cell⟩
theorem Sn.drew (h : Sn w B A n c k xs) : Sn w.drew B A n c k xs := ⟨h.len, h.le, h.max, h.cell⟩
theorem Sn.alloc (h : Sn w B A n c k xs) (hB : B ≤ w.heap.size) (o : Obj) : Sn (w.alloc o) B A n c k xs :=
  h.keep fun b p hb => World.cell?_alloc_lt w o ⟨b, p, none⟩ (by show b < w.heap.size; omega)
theorem Sn.setCell (h : Sn w B A n c k xs) {p : Addr} (hB : B ≤ p.block) (u : Value) : Sn (w.setCell p u) B A n c k xs :=
  h.keep fun b o hb => World.cell?_setCell_other w p ⟨b, o, none⟩ u (fun e => by subst e; simp at hB; omega)
theorem Sn.onA (h : Sn w w.heap.size A n c k xs) (o : Obj) : Sn (w.alloc o) (w.alloc o).heap.size A n c k xs := (h.alloc (Nat.le_refl _) o).more (by simp)
theorem Sn.onD (h : Sn w w.heap.size A n c k xs) (q : Nat) : Sn (w.drewN q) (w.drewN q).heap.size A n c k xs := ⟨h.len, h.le, h.max, h.cell⟩
theorem Sn.nil_ (w : World) (B : Nat) (A : Option Addr) (c k : Nat) (hc : c ≤ maxLen) : Sn w B A 0 c k [] := ⟨by simp, Nat.zero_le _, hc, fun h => absurd h (by simp)⟩
theorem Sn.of_own {base : Nat} {e : TypeId} (h : w.ownsRow base e k (.slice A n c) n xs) : Sn w w.heap.size A n c k xs := by
  rcases h.2 with ⟨hv, hn⟩ | ⟨g, cap, cur, hv, hb, hh, hnc, hcm, hs, ht⟩
  · injection hv with e1 e2 e3
    subst e1 e2 e3
    exact ⟨h.1, Nat.le_refl _, Nat.zero_le _, fun hp => absurd hp (by simp)⟩
  · injection hv with e1 e2 e3
    subst e1 e3
    refine ⟨h.1, hnc, hcm, fun hp => ⟨g, 0, rfl, (Array.getElem?_eq_some_iff.1 hh).1, fun j x hx => ?_⟩⟩
    have := h.cells (g := g) rfl j x hx
    rwa [add_plain] at this
theorem Sn.firstCells {P : Program} (h : Sn w B A n c k xs) : (Builtin.firstCells k n (.slice A n c)).run P w = .ok xs.toArray w := by
  rcases Nat.eq_zero_or_pos (n * k) with h0 | h0
  · have hx : xs = [] := List.eq_nil_of_length_eq_zero (by rw [h.len]; exact h0)
    subst hx
    rcases A with _ | a
    · simp [Builtin.firstCells]
    · exact run_firstCells_some w k n a n c [] (by simpa using h0.symm) (fun j v hv => by simp at hv)
  · obtain ⟨b, o, rfl, hb, hc⟩ := h.cell h0
    refine run_firstCells_some w k n _ n c xs h.len (fun j v hv => ?_)
    rw [add_plain]
    exact hc j v hv
theorem Sn.src {P : Program} {tx e' : TypeId} (hk : P.underlying tx = some (.slice e')) (h : Sn w B A n c k xs) (h1 : ∀ u ∈ xs, u.oneCell' = true) : Src P k tx (.slice A n c) n xs w :=
  ⟨.inl ⟨e', hk⟩, fun _ => rfl, h.firstCells, h.drew.firstCells, h.len, h1⟩
/-- The first m of a slice: 's[:m]', 's[:m:d]'. -/
theorem Sn.take (h : Sn w B A n c k xs) {m d : Nat} (hm : m ≤ n) (hmd : m ≤ d) (hd : d ≤ c) : Sn w B A m d k (xs.take (m * k)) :=
  ⟨by rw [List.length_take, h.len]; have := Nat.mul_le_mul_right k hm; omega, hmd, Nat.le_trans hd h.max, fun hp => by
    obtain ⟨b, o, e, hb, hc⟩ := h.cell (Nat.lt_of_lt_of_le hp (Nat.mul_le_mul_right k hm))
    refine ⟨b, o, e, hb, fun j x hx => hc j x ?_⟩
    rw [List.getElem?_take] at hx
    split at hx
    · exact hx
    · cases hx⟩
/-- What is behind the first m: 's[m:]'. -/
theorem Sn.drop (h : Sn w B A n c k xs) {m : Nat} (hm : m ≤ n) : Sn w B (if c = m then A else A.map (·.add (m * k))) (n - m) (c - m) k (xs.drop (m * k)) :=
  ⟨by rw [List.length_drop, h.len, Nat.sub_mul], by have := h.le; omega, by have := h.max; omega, fun hp => by
    have hnm : m < n := by
      rcases Nat.lt_or_ge m n with h1 | h1
      · exact h1
      · rw [Nat.sub_eq_zero_of_le h1, Nat.zero_mul] at hp; omega
    obtain ⟨b, o, e, hb, hc⟩ := h.cell (Nat.lt_of_lt_of_le hp (Nat.mul_le_mul_right k (Nat.sub_le n m)))
    subst e
    have := h.le
    rw [if_neg (by omega)]
    refine ⟨b, o + m * k, by simp [add_plain], hb, fun j x hx => ?_⟩
    rw [Nat.add_assoc]
    exact hc _ x (by rw [← hx, List.getElem?_drop])⟩
/-- Cell t of element j. -/
theorem Sn.at_ (h : Sn w B A n c k xs) {j t : Nat} (hj : j < n) (ht : t < k) : ∃ b o x, A = some ⟨b, o, none⟩ ∧ b < B ∧ xs[j * k + t]? = some x ∧ w.cell? ⟨b, o + (j * k + t), none⟩ = some x := by
  have hlt : j * k + t < n * k := by
    have := Nat.mul_le_mul_right k (show j + 1 ≤ n from hj)
    rw [Nat.add_mul, Nat.one_mul] at this
    omega
  obtain ⟨b, o, e, hb, hc⟩ := h.cell (by omega)
  have hl : j * k + t < xs.length := by rw [h.len]; exact hlt
  exact ⟨b, o, xs[j * k + t], e, hb, List.getElem?_eq_getElem hl, hc _ _ (List.getElem?_eq_getElem hl)⟩
end

/-- A row that was just laid out. -/
theorem lit_sn (w : World) (t : TypeId) (xs : List Value) (n k : Nat) (hk : xs.length = n * k) (hm : n ≤ maxLen) : Sn (w.alloc (.cells xs.toArray t)) (w.heap.size + 1) (some ⟨w.heap.size, 0, none⟩) n n k xs :=
  ⟨hk, Nat.le_refl _, hm, fun _ => ⟨w.heap.size, 0, rfl, by omega, fun j x hx => by
    have h := cell_of_row (w.alloc (.cells xs.toArray t)) w.heap.size j xs.toArray t (0, 0) (heap_alloc_new w _)
    rw [Nat.zero_add, h, List.getElem?_toArray, hx]⟩⟩

/-- WHAT ONE MAY APPEND TO without touching blocks below 'base': a slice without spare room, or a row of one's own. -/
def DstN (w : World) (base : Nat) (e : TypeId) (A : Option Addr) (n c k : Nat) (xs : List Value) : Prop :=
  (n = c ∧ Sn w w.heap.size A n c k xs) ∨ w.ownsRow base e k (.slice A n c) n xs
theorem DstN.sn {w : World} {base : Nat} {e : TypeId} {A : Option Addr} {n c k : Nat} {xs : List Value} (h : DstN w base e A n c k xs) : Sn w w.heap.size A n c k xs := by
  rcases h with ⟨_, h⟩ | h
  · exact h
  · exact Sn.of_own h
theorem DstN.alloc {w : World} {base : Nat} {e : TypeId} {A : Option Addr} {n c k : Nat} {xs : List Value} (h : DstN w base e A n c k xs) (o : Obj) : DstN (w.alloc o) base e A n c k xs := by
  rcases h with ⟨hn, h⟩ | h
  · exact .inl ⟨hn, h.onA o⟩
  · exact .inr (h.alloc o)
theorem DstN.drewN {w : World} {base : Nat} {e : TypeId} {A : Option Addr} {n c k : Nat} {xs : List Value} (h : DstN w base e A n c k xs) (q : Nat) : DstN (w.drewN q) base e A n c k xs := by
  rcases h with ⟨hn, h⟩ | h
  · exact .inl ⟨hn, h.drewN q⟩
  · exact .inr h

section
variable {P : Program} (w : World)
/-- ONE LAW FOR APPEND. -/
theorem run_append_dstN (base : Nat) (t tx ty e : TypeId) (i : TypeInfo) (z : Value) (k bytes : Nat) (ht : P.underlying t = some (.slice e)) (hi : P.info? e = some i) (hz : i.zero = some z) (hsize : i.size = k) (hby : i.bytes = bytes) (hzc : z.cells.size = k)
    (A : Option Addr) (n c : Nat) (l : List Value) (hd : DstN w base e A n c k l) (x : Value) (m : Nat) (news : List Value) (hs : Src P k tx x m news w)
    (hbytes : (n + m) * bytes ≤ 140737488355328) (h63 : n + m ≤ 140737488355328) (hbase : base ≤ w.heap.size) :
    ∃ A' c' w', (Builtin.append_ #[t, tx] ty #[.slice A n c, x]).run P w = .ok (.slice A' (n + m) c') w' ∧ DstN w' base e A' (n + m) c' k (l ++ news) ∧
      (0 < m → w'.ownsRow base e k (.slice A' (n + m) c') (n + m) (l ++ news)) ∧ (w.ownsRow base e k (.slice A n c) n l → w'.ownsRow base e k (.slice A' (n + m) c') (n + m) (l ++ news)) ∧
      Below base w w' ∧ w.grownBy w' (if n = c then none else (Value.slice A n c).ownBlock) ∧ (A' = A ∨ ∃ b, A' = some ⟨b, 0, none⟩ ∧ w.heap.size ≤ b) := by
  have hml : news.length = m * k := hs.newsLen
  have hsn := hd.sn
  have h63' : n + m ≤ maxLen := by simp only [maxLen]; omega
  have hll : (l ++ news).length = (n + m) * k := by rw [List.length_append, hsn.len, hml, Nat.add_mul]
  have hnil : m = 0 → news = [] := fun h0 => List.eq_nil_of_length_eq_zero (by rw [hml, h0, Nat.zero_mul])
  by_cases hroom : n + m ≤ c
  · rcases hd with ⟨hn, h⟩ | hown
    · have hm0 : m = 0 := by omega
      have hnews := hnil hm0
      subst hm0 hnews
      have hcells := hs.cells
      have hle : n ≤ c := by omega
      refine ⟨A, c, w, ?_, .inl ⟨hn, by simpa using h⟩, fun h => absurd h (Nat.lt_irrefl _), fun h => by simpa using h, Below.refl _ _, ⟨rfl, rfl, rfl, Nat.le_refl _, fun _ _ _ => rfl⟩, .inl rfl⟩
      rcases A with _ | a
      · rcases hs.kind with ⟨e', hk⟩ | hk <;> simp [Builtin.append_, run_underlying ht, run_underlying hk, sizeOf, typeInfo, hi, hs.len, hle, hsize, hcells]
      · rcases hs.kind with ⟨e', hk⟩ | hk <;> simp [Builtin.append_, run_underlying ht, run_underlying hk, sizeOf, typeInfo, hi, hs.len, hle, hsize, hcells, storeCells]
    · rcases hown.2 with ⟨hv, hn⟩ | ⟨g, cap, cur, hv, hbg, hg, hnc, hcm, hcs, htake⟩
      · injection hv with e1 e2 e3
        subst e1 e3
        have hn0 : n = 0 := hn
        have hm0 : m = 0 := by omega
        have hnews := hnil hm0
        subst hn0 hm0 hnews
        have hcells := hs.cells
        refine ⟨none, 0, w, ?_, .inr (by simpa using hown), fun h => absurd h (Nat.lt_irrefl _), fun h => by simpa using h, Below.refl _ _, ⟨rfl, rfl, rfl, Nat.le_refl _, fun _ _ _ => rfl⟩, .inl rfl⟩
        rcases hs.kind with ⟨e', hk⟩ | hk <;> simp [Builtin.append_, run_underlying ht, run_underlying hk, sizeOf, typeInfo, hi, hs.len, hsize, hcells]
      · injection hv with e1 e2 e3
        subst e1 e3
        have hck : (n + m) * k ≤ c * k := Nat.mul_le_mul_right k hroom
        have hnk : n * k + m * k ≤ cur.size := by rw [hcs, ← Nat.add_mul]; exact hck
        have hcell : ∀ j, j < cur.size → (w.cell? ⟨g, j, none⟩).isSome = true := fun j hj => by
          rw [cell_of_row w g j cur e (0, 0) hg]
          simp [Array.getElem?_eq_getElem hj]
        have hfr : ∀ j, w.frozen? ⟨g, j, none⟩ = false := fun j => hown.frozenAt j
        have hr := run_append_room_src (P := P) w t tx ty e i ht hi g 0 n c x m news (by rw [hsize]; exact hs) hroom
          (fun j hj => by rw [hml] at hj; exact hcell _ (by rw [hsize]; omega)) (fun j _ => hfr _)
        have hst := run_storeCells_at P g (n * k) e news 0 cur w hg (by omega) hs.one
        have hst2 := run_storeCells_cells (P := P) g (n * k) news 0 w (fun j hj => by rw [hml] at hj; exact hcell _ (by omega)) (fun j _ => hfr _) hs.one
        rw [hst2] at hst
        injection hst with _ hw
        simp only [Nat.add_zero] at hw
        rw [hsize, Nat.zero_add, hw] at hr
        have hnew : (w.setRow g (cur.toList.take (n * k) ++ news ++ cur.toList.drop (n * k + news.length)).toArray).ownsRow base e k (.slice (some ⟨g, 0, none⟩) (n + m) c) (n + m) (l ++ news) := by
          refine ⟨hll, .inr ⟨g, c, _, rfl, hbg, setRow_heap w g cur _ e _ hg, hroom, hcm, ?_, ?_⟩⟩
          · simp only [List.size_toArray, List.length_append, List.length_take, List.length_drop, Array.length_toList, hml]
            omega
          · rw [htake, ← hll]
            exact List.take_left
        refine ⟨_, _, _, hr, .inr hnew, fun _ => hnew, fun _ => hnew, ⟨rfl, rfl, rfl, by simp, fun q hq => setRow_other w g q _ (by omega)⟩, ⟨rfl, rfl, rfl, by simp, fun q hq hne => ?_⟩, .inl rfl⟩
        by_cases hnc' : n = c
        · have hm0 : m = 0 := by omega
          have hnews := hnil hm0
          by_cases hqg : q = g
          · subst hqg
            rw [setRow_heap w q cur _ e _ hg, hg]
            congr 2
            apply Array.ext'
            subst hnews
            simp [List.take_append_drop]
          · exact setRow_other w g q _ hqg
        · rw [if_neg hnc'] at hne
          exact setRow_other w g q _ (fun e => hne (by simp [Value.ownBlock, e]))
  · have hg : c < n + m := by omega
    have hr := run_append_grow_src (P := P) w t tx ty e i z ht hi hz A n c l (by rw [hsize]; exact hsn.drew.firstCells) x m news (by rw [hsize]; exact hs) hg
      (by simp only [maxLen] at h63'; omega) (by rw [hby]; exact growslice_fits hg hbytes)
    have hge := grownCap_ge w (n + m) c e
    have hcm : grownCap w (n + m) c e ≤ maxLen := grownCap_le_maxLen w (n + m) c e h63'
    have hnew : (w.drew.alloc (.cells ((l ++ news).toArray ++ Builtin.zeroCells z.cells (grownCap w (n + m) c e - (n + m))) e)).ownsRow base e k
        (.slice (some ⟨w.heap.size, 0, none⟩) (n + m) (grownCap w (n + m) c e)) (n + m) (l ++ news) := by
      refine ⟨hll, .inr ⟨w.heap.size, _, _, rfl, hbase, heap_alloc_new w.drew _, hge, hcm, ?_, ?_⟩⟩
      · simp only [Array.size_append, List.size_toArray, size_zeroCells, hll, hzc]
        rw [← Nat.add_mul, Nat.add_sub_cancel' hge]
      · rw [Array.toList_append, ← hll]
        exact List.take_left
    refine ⟨_, _, _, hr, .inr hnew, fun _ => hnew, fun _ => hnew, ((Below.refl _ _).drew).alloc hbase _, ⟨rfl, rfl, rfl, by simp, fun q hq _ => Below.heap_alloc w.drew _ q hq⟩, .inr ⟨_, rfl, Nat.le_refl _⟩⟩

/-- The same, at an operation of a walk. -/
theorem wpList_append_dstN {ops : Array Oper} {rest : List Oper} {o : Oper} {a : Act} {Q : Exit → Act → World → Prop} (hgd : o.guard = none) (s x : Operand) (t tx : TypeId)
    (ho : o.op = .call { callee := .builtin .append, args := #[s, x], argTypes := #[t, tx] })
    (base : Nat) (e : TypeId) (i : TypeInfo) (z : Value) (k bytes : Nat) (ht : P.underlying t = some (.slice e)) (hi : P.info? e = some i) (hz : i.zero = some z) (hsize : i.size = k) (hby : i.bytes = bytes) (hzc : z.cells.size = k)
    (A : Option Addr) (n c : Nat) (l : List Value) (hs : a.eval s = .slice A n c) (hd : DstN w base e A n c k l) (v : Value) (m : Nat) (news : List Value) (hx : a.eval x = v) (hsrc : Src P k tx v m news w)
    (hbytes : (n + m) * bytes ≤ 140737488355328) (h63 : n + m ≤ 140737488355328) (hbase : base ≤ w.heap.size)
    (h : ∀ A' c' w', DstN w' base e A' (n + m) c' k (l ++ news) → (0 < m → w'.ownsRow base e k (.slice A' (n + m) c') (n + m) (l ++ news)) →
      (w.ownsRow base e k (.slice A n c) n l → w'.ownsRow base e k (.slice A' (n + m) c') (n + m) (l ++ news)) → Below base w w' → w.grownBy w' (if n = c then none else (Value.slice A n c).ownBlock) → (A' = A ∨ ∃ b, A' = some ⟨b, 0, none⟩ ∧ w.heap.size ≤ b) →
      wpList P ops Q rest (a.put o.dst (.slice A' (n + m) c')) w') : wpList P ops Q (o :: rest) a w := by
  refine wpList_plain hgd fun _ hK => ?_
  obtain ⟨A', c', w', hr, h2, h3, h4, h5, h6, h7⟩ := run_append_dstN (P := P) w base t tx o.type e i z k bytes ht hi hz hsize hby hzc A n c l hd v m news hsrc hbytes h63 hbase
  unfold Oper.wp execOp
  simp only [ho, resolve, invoke, builtin, Sem.run_bind, Sem.run_pure, Result.andThen_ok, List.map_toArray, List.map_cons, List.map_nil, hs, hx, hr]
  exact hK _ _ (h A' c' w' h2 h3 h4 h5 h6 h7)
end
end Go.Proofs.YtlkcnpmgafckoaaDoor

/-! ## Ever -/
namespace Go.Proofs.YtlkcnpmgafckoaaDoor
open Go.RowKit

theorem below_box (w : World) (o : Obj) : Below w.heap.size w (w.alloc o) := (Below.refl _ w).alloc (Nat.le_refl _) o
/-- A cell of the block that was made last. -/
theorem cell_last (w : World) (cs : Array Value) (t : TypeId) (g i : Nat) (hg : w.heap.size = g) : (w.alloc (.cells cs t)).cell? ⟨g, i, none⟩ = cs[i]? := by
  subst hg
  exact cell_of_row _ _ _ _ _ _ (heap_alloc_new w _)
def Ever (Ps : World → Prop) (w : World) : Prop := ∀ w2, Below w.heap.size w w2 → Ps w2
theorem Ever.now {Ps : World → Prop} {w : World} (h : Ever Ps w) : Ps w := h w (Below.refl _ _)
theorem Ever.next {Ps : World → Prop} {w w2 : World} (h : Ever Ps w) (hb : Below w.heap.size w w2) : Ever Ps w2 := fun w3 h3 => h w3 (hb.trans (h3.mono hb.size))
theorem Ever.drewN {Ps : World → Prop} {w : World} (h : Ever Ps w) (k : Nat) : Ever Ps (w.drewN k) := h.next (below_drewN (Below.refl _ _) k)
theorem Ever.alloc {Ps : World → Prop} {w : World} (h : Ever Ps w) (o : Obj) : Ever Ps (w.alloc o) := h.next ((Below.refl _ w).alloc (Nat.le_refl _) o)
theorem Ever.and {Ps Qs : World → Prop} {w : World} (h : Ever Ps w) (k : Ever Qs w) : Ever (fun w2 => Ps w2 ∧ Qs w2) w := fun w2 h2 => ⟨h w2 h2, k w2 h2⟩
theorem ever_cell {w : World} {g i : Nat} {v : Value} (h : w.cell? ⟨g, i, none⟩ = some v) : Ever (fun w2 => w2.cell? ⟨g, i, none⟩ = some v) w := fun _ hb => (hb.cell (p := ⟨g, i, none⟩) (World.block_lt_of_cell? w _ h)).trans h
/-- An operation that is passed by. -/
theorem not_wanted {b : Bool} {p q : Prop} (h : b = false) (hq : q) : if b = true then p else q := by subst h; simpa using hq
/-- A value is handed back, and nothing that was there has turned. -/
def Says (w : World) (v : Value) (e : Ending) (w' : World) : Prop := e = .returned v ∧ Below w.heap.size w w'
/-- A call in a region: whose contract says a value, in whatever world keeps Ps. -/
theorem calls_ever {P : Program} {f : FuncId} {args : Array Value} {W : World} {R : Ending → World → Prop} {Ps : World → Prop} {c : Prop} {v : Value}
    (hE : c ∧ Ever Ps W) (hc : ∀ w', Ps w' → Calls P f args w' (Says w' v)) (h : ∀ w2, Ever Ps w2 → R (.returned v) w2) : Calls P f args W R :=
  (hc W hE.2.now).mono fun _ w' hs => hs.1 ▸ h w' (hE.2.next hs.2)
end Go.Proofs.YtlkcnpmgafckoaaDoor

/-! ## RefOne -/
namespace Go.Proofs.YtlkcnpmgafckoaaDoor
open Go.RowKit

theorem u8_info : (Tryd.prog.info? 5).map (fun i => (i.zero, i.size, i.bytes)) = some (some (.int .u8 0), 1, 1) := by kernel_rfl

/-- One part of a row of byte slices. -/
structure Pt where
  A : Option Addr
  n : Nat
  c : Nat
  l : List UInt8
def Pt.v (p : Pt) : Value := .slice p.A p.n p.c
def cat (ps : List Pt) : List UInt8 := ps.flatMap Pt.l
theorem cat_succ (ps : List Pt) (j : Nat) (h : j < ps.length) : cat (ps.take (j + 1)) = cat (ps.take j) ++ ps[j].l := by
  unfold cat
  rw [List.take_succ_eq_append_getElem h, List.flatMap_append]
  simp only [List.flatMap_cons, List.flatMap_nil, List.append_nil]
theorem cat_le (ps : List Pt) (j : Nat) : (cat (ps.take j)).length ≤ (cat ps).length := by
  have : cat ps = cat (ps.take j) ++ cat (ps.drop j) := by
    unfold cat; rw [← List.flatMap_append, List.take_append_drop]
  rw [this, List.length_append]; omega

/-- A new row with these bytes is handed back; nothing that was there has turned. -/
def Fresh (w : World) (l : List UInt8) (e : Ending) (w' : World) : Prop :=
  ∃ A n c, e = .returned (.slice A n c) ∧ w'.ownsRow w.heap.size 5 1 (.slice A n c) n (cbs l) ∧ Below w.heap.size w w'

def JoinRel (w : World) (ps : List Pt) (k : Nat) (out i : Value) (wr : World) : Prop :=
  ∃ (j : Nat) (A : Option Addr) (n c : Nat), k + j = ps.length ∧ n = (cat (ps.take j)).length ∧ i = .int .i64 (j : Int) ∧ out = .slice A n c ∧
    wr.ownsRow w.heap.size 5 1 (.slice A n c) n (cbs (cat (ps.take j))) ∧ Below w.heap.size w wr

set_option maxHeartbeats 400000 in
theorem join_any (w : World) (g : Nat) (ps : List Pt) (hc : ∀ j p, ps[j]? = some p → w.cell? ⟨g, j, none⟩ = some p.v) (hg : g < w.heap.size)
    (hs : ∀ p ∈ ps, Sl w w.heap.size p.A p.n p.c p.l) (hk : ps.length ≤ 1000) (hb : (cat ps).length ≤ 1000000) :
    Calls Tryd.prog 21 #[.slice (some ⟨g, 0, none⟩) ps.length ps.length] w (Fresh w (cat ps)) := by
  have HC := Lib.hid hc; clear hc
  have HS := Lib.hid hs; clear hs
  have HB := Lib.hid hb; clear hb
  go_enter Tryd.func21, Tryd.ntmps21
  go_wp2
  go_loopg [3, 8] ps.length (fun k out i wr => JoinRel w ps k out i wr)
  case atStart => exact ⟨0, none, 0, 0, by omega, rfl, rfl, rfl, ⟨rfl, .inl ⟨rfl, rfl⟩⟩, Below.refl _ _⟩
  case round =>
    obtain ⟨j, A, n, c, hj, hn, rfl, rfl, hown, hbel⟩ := hrel
    have HN := Lib.hid hn; clear hn
    have HJ := Lib.hid hj; clear hj
    by_cases hlt : j < ps.length
    · obtain ⟨i0, hi0, hz0, hz1, hz2⟩ := info_parts u8_info
      have hp : ps[j]? = some ps[j] := List.getElem?_eq_getElem hlt
      have hcell : wr.cell? ⟨g, j, none⟩ = some (.slice ps[j].A ps[j].n ps[j].c) := (hbel.cell (p := ⟨g, j, none⟩) hg).trans (HC.out j _ hp)
      have hsl : Sl wr w.heap.size ps[j].A ps[j].n ps[j].c ps[j].l := (HS.out _ (List.getElem_mem hlt)).below hbel (Nat.le_refl _)
      have hsum : (cat (ps.take (j + 1))) = cat (ps.take j) ++ ps[j].l := cat_succ ps j hlt
      have hle : (cat (ps.take (j + 1))).length ≤ (cat ps).length := cat_le ps (j + 1)
      have hbd : n + ps[j].n ≤ 140737488355328 := by
        have h1 := HB.out
        have h2 := HN.out
        have h3 := hsl.len
        rw [hsum, List.length_append] at hle
        omega
      have HSUM := Lib.hid hsum; clear hsum hle hp
      generalize ps[j] = p at *
      go_wp2_with (at_builtin; refine wpList_append_dst _ rfl (.tmp 12) (.tmp 13) 37 37 rfl w.heap.size 5 i0 Tryd.underlying37 hi0 hz0 hz1 hz2 A n c (cat (ps.take j)) rfl (.inr hown) _ p.n p.l rfl (hsl.src Tryd.underlying37) hbd hbel.size ?_; intro A' c' w' _ _ h4 h5 h6)
      go_roundg (gk - 1)
      case measure => have := HJ.out; omega
      case rel =>
        have h7 := h4 hown
        rw [← HSUM.out] at h7
        exact ⟨j + 1, A', n + p.n, c', by have := HJ.out; omega, by rw [HSUM.out, List.length_append, hsl.len, HN.out], by go_num, rfl, h7, hbel.trans h5⟩
    · have hjj : j = ps.length := by have := HJ.out; omega
      have HF : Hid (ps.take j = ps) := by rw [hjj]; exact List.take_length
      clear hjj
      go_wp2
      go_ret
      rw [HF.out] at hown
      exact ⟨A, n, c, rfl, hown, hbel⟩

/-- Join of one, of two. -/
theorem cat_one (p : Pt) : cat [p] = p.l := by simp [cat]
theorem cat_two (p q : Pt) : cat [p, q] = p.l ++ q.l := by simp [cat]

theorem join_one (w : World) (g : Nat) (A : Option Addr) (n c : Nat) (l : List UInt8) (hc : w.cell? ⟨g, 0, none⟩ = some (.slice A n c)) (hg : g < w.heap.size) (hs : Sl w w.heap.size A n c l) (hb : l.length ≤ 1000000) :
    Calls Tryd.prog 21 #[.slice (some ⟨g, 0, none⟩) 1 1] w (Fresh w l) := by
  have h := join_any w g [⟨A, n, c, l⟩] (fun j p hp => by
    rcases j with _ | j
    · simp at hp; subst hp; exact hc
    · simp at hp) hg (fun p hp => by simp at hp; subst hp; exact hs) (by simp) (by rw [cat_one]; exact hb)
  rw [cat_one] at h
  exact h
theorem join_two (w : World) (g : Nat) (A A' : Option Addr) (n c n' c' : Nat) (l l' : List UInt8) (hc : w.cell? ⟨g, 0, none⟩ = some (.slice A n c)) (hc' : w.cell? ⟨g, 1, none⟩ = some (.slice A' n' c')) (hg : g < w.heap.size)
    (hs : Sl w w.heap.size A n c l) (hs' : Sl w w.heap.size A' n' c' l') (hb : l.length + l'.length ≤ 1000000) :
    Calls Tryd.prog 21 #[.slice (some ⟨g, 0, none⟩) 2 2] w (Fresh w (l ++ l')) := by
  have h := join_any w g [⟨A, n, c, l⟩, ⟨A', n', c', l'⟩] (fun j p hp => by
    rcases j with _ | _ | j
    · simp at hp; subst hp; exact hc
    · simp at hp; subst hp; exact hc'
    · simp at hp) hg (fun p hp => by
      simp at hp
      rcases hp with rfl | rfl
      · exact hs
      · exact hs') (by simp) (by rw [cat_two, List.length_append]; exact hb)
  rw [cat_two] at h
  exact h

/-! ### Cut -/
theorem Fresh.of {w w1 w' : World} {l : List UInt8} {e : Ending} (h : Fresh w1 l e w') (hb : Below w.heap.size w w1) : Fresh w l e w' := by
  obtain ⟨A, n, c, he, hown, hbel⟩ := h
  have hz := hb.size
  refine ⟨A, n, c, he, ⟨hown.1, ?_⟩, hb.trans (hbel.mono hz)⟩
  rcases hown.2 with hn | ⟨g, cap, cur, hv, hbg, rest⟩
  · exact .inl hn
  · exact .inr ⟨g, cap, cur, hv, Nat.le_trans hz hbg, rest⟩

set_option maxHeartbeats 400000 in
theorem cut_any (w : World) (A : Option Addr) (n c : Nat) (l : List UInt8) (most : Nat) (hs : Sl w w.heap.size A n c l) (hm : most ≤ 1000000) :
    Calls Tryd.prog 20 #[.slice A n c, .int .i64 (most : Int)] w (Fresh w (l.take most)) := by
  have hle := hs.le
  have hmax := hs.max
  unfold maxLen at hmax
  by_cases h : most < n
  · have hsl := hs.take (k := most) (m := c) (by omega) (by omega) (Nat.le_refl _)
    go_enter Tryd.func20, Tryd.ntmps20
    go_wp2_with fail
    refine (join_one _ w.heap.size A most c (l.take most) ?_ ?_ ?_ ?_).mono ?_
    · simp
    · simp
    · exact (hsl.alloc (Nat.le_refl _) _).more (by simp)
    · rw [List.length_take]; omega
    rintro e w' h'
    have h2 := h'.of ((Below.refl _ w).alloc (Nat.le_refl _) _)
    obtain ⟨A', n', c', rfl, h3⟩ := h2
    go_wp2
    go_ret
    exact ⟨A', n', c', rfl, h3⟩
  · have hl : l.take most = l := List.take_of_length_le (by have := hs.len; omega)
    rw [hl]
    clear hl
    go_enter Tryd.func20, Tryd.ntmps20
    go_wp2_with fail
    refine (join_one _ w.heap.size A n c l ?_ ?_ ?_ ?_).mono ?_
    · simp
    · simp
    · exact (hs.alloc (Nat.le_refl _) _).more (by simp)
    · have := hs.len; omega
    rintro e w' h'
    have h2 := h'.of ((Below.refl _ w).alloc (Nat.le_refl _) _)
    obtain ⟨A', n', c', rfl, h3⟩ := h2
    go_wp2
    go_ret
    exact ⟨A', n', c', rfl, h3⟩

/-! ### Same -/
def sameB (l m : List UInt8) : Bool := decide (l = m)
theorem take_eq_succ {l m : List UInt8} {j : Nat} {x : UInt8} (h1 : l[j]? = some x) (h2 : m[j]? = some x) (h : l.take j = m.take j) : l.take (j + 1) = m.take (j + 1) := by
  rw [List.take_add_one, List.take_add_one, h, h1, h2]
def SameRel (w : World) (l m : List UInt8) (k : Nat) (i : Value) (wr : World) : Prop :=
  ∃ (j q : Nat), k + j = l.length ∧ i = .int .i64 (j : Int) ∧ wr = w.drewN q ∧ l.take j = m.take j

set_option maxHeartbeats 400000 in
theorem same_any (w : World) (B : Nat) (A A' : Option Addr) (n c n' c' : Nat) (l l' : List UInt8) (hs : Sl w B A n c l) (hs' : Sl w B A' n' c' l') :
    Calls Tryd.prog 18 #[.slice A n c, .slice A' n' c'] w fun e w' => e = .returned (.bool (sameB l l')) ∧ ∃ q, w' = w.drewN q := by
  have hle := hs.le
  have hmax := hs.max
  have hle' := hs'.le
  have hmax' := hs'.max
  unfold maxLen at hmax hmax'
  have hlen := Lib.hid hs.len
  have hlen' := Lib.hid hs'.len
  by_cases hnn : n = n'
  · subst hnn
    have HS := Lib.hid hs; clear hs
    have HS' := Lib.hid hs'; clear hs'
    have hne : ((n : Int) != (n : Int)) = false := by simp
    go_enter Tryd.func18, Tryd.ntmps18
    go_wp2
    go_loopg [13] n (fun k i wr => SameRel w l l' k i wr)
    case atStart => exact ⟨0, 0, by have := hlen.out; omega, rfl, rfl, rfl⟩
    case round =>
      obtain ⟨j, q, hj, rfl, rfl, hq⟩ := hrel
      have HJ := Lib.hid hj; clear hj
      have HQ := Lib.hid hq; clear hq
      by_cases hlt : j < n
      · obtain ⟨b, o, x, rfl, _, hx, hc⟩ := HS.out.at_ hlt
        obtain ⟨b', o', x', rfl, _, hx', hc'⟩ := HS'.out.at_ hlt
        have HX := Lib.hid hx; clear hx
        have HX' := Lib.hid hx'; clear hx'
        have hj0 : (0 : Int) ≤ (j : Int) := by omega
        have hjn : (j : Int) < (n : Int) := by omega
        by_cases hxx : x = x'
        · subst hxx
          have hb : ((x.toNat : Int) != (x.toNat : Int)) = false := by simp
          go_wp2
          go_quiet (fail)
          go_wp2
          go_roundg (gk - 1)
          case measure => have := HJ.out; have := hlen.out; omega
          case rel => exact ⟨j + 1, _, by have := HJ.out; have := hlen.out; omega, by go_num, rfl, take_eq_succ HX.out HX'.out HQ.out⟩
        · have hb : ((x.toNat : Int) != (x'.toNat : Int)) = true := by
            rw [bne_iff_ne]
            intro h
            exact hxx (UInt8.toNat_inj.1 (by omega))
          go_wp2
          go_quiet (fail)
          go_wp2
          go_ret
          have : sameB l l' = false := by
            unfold sameB
            rw [decide_eq_false_iff_not]
            rintro rfl
            have h1 := HX.out
            rw [HX'.out] at h1
            injection h1 with h1
            exact hxx h1.symm
          exact ⟨by rw [this]; rfl, _, World.drewN_drewN ..⟩
      · have hjj : j = n := by have := HJ.out; have := hlen.out; omega
        have : sameB l l' = true := by
          have h1 := HQ.out
          rw [List.take_of_length_le (by have := hlen.out; omega), List.take_of_length_le (by have := hlen'.out; omega)] at h1
          unfold sameB
          rw [h1]
          simp
        have HT := Lib.hid this
        clear this hjj
        go_wp2
        go_ret
        exact ⟨by rw [HT.out]; rfl, _, rfl⟩
  · have hne : ((n : Int) != (n' : Int)) = true := by simp; omega
    go_enter Tryd.func18, Tryd.ntmps18
    go_wp2
    go_ret
    have : sameB l l' = false := by
      unfold sameB
      rw [decide_eq_false_iff_not]
      rintro rfl
      exact hnn (hlen.out.symm.trans hlen'.out)
    exact ⟨by rw [this]; rfl, 0, rfl⟩

end Go.Proofs.YtlkcnpmgafckoaaDoor

/-! ## BytesEq -/
namespace Go.Proofs.YtlkcnpmgafckoaaDoor
open Go.RowKit

theorem same_yes (w : World) (B : Nat) (A A' : Option Addr) (n c n' c' : Nat) (l : List UInt8) (hs : Sl w B A n c l) (hs' : Sl w B A' n' c' l) :
    Calls Tryd.prog 18 #[.slice A n c, .slice A' n' c'] w fun e w' => e = .returned (.bool true) ∧ ∃ q, w' = w.drewN q := by
  have h := same_any w B A A' n c n' c' l l hs hs'
  have e : sameB l l = true := by simp [sameB]
  rw [e] at h
  exact h

set_option maxRecDepth 100000 in
theorem conv_sl {w : World} {B : Nat} {A : Option Addr} {n c : Nat} {l : List UInt8} (h : Sl w B A n c l) : (convert 37 9 (.slice A n c)).run Tryd.prog w = .ok (.string ⟨l.toArray⟩) w := by
  rcases Nat.eq_zero_or_pos n with h0 | h0
  · subst h0
    have hl : l = [] := List.eq_nil_of_length_eq_zero h.len
    subst hl
    rw [run_convert_bytes_string w 37 9 5 _ 0 c Tryd.underlying37 Tryd.underlying5 Tryd.underlying9]
    cases A <;> simp [Conv.bytesToString, loadCells]
    all_goals rfl
  · obtain ⟨b, o, rfl, _, hc⟩ := h.cell h0
    have hx := run_convert_bytes_arg (P := Tryd.prog) w 37 5 Tryd.underlying37 Tryd.underlying5 b o n c (l.map fun x => (x.toNat : Int)) (by rw [List.length_map, h.len]) (fun i hi => by
      have hl := h.len
      rw [hc i l[i] (List.getElem?_eq_getElem (by omega))]
      simp [cb, List.getElem?_eq_getElem (show i < l.length by omega)]) 9 Tryd.underlying9
    rw [hx]
    congr 2
    unfold strOfNums
    rw [List.map_map]
    have e : ((fun n : Int => UInt8.ofNat n.toNat) ∘ fun x : UInt8 => (x.toNat : Int)) = id := by
      funext x
      simp
    rw [e, List.map_id]

set_option maxHeartbeats 400000 in
theorem equal_any (w : World) (B : Nat) (A A' : Option Addr) (n c n' c' : Nat) (l l' : List UInt8) (hs : Sl w B A n c l) (hs' : Sl w B A' n' c' l') :
    Calls Tryd.prog 65 #[.slice A n c, .slice A' n' c'] w fun e w' => e = .returned (.bool (sameB l l')) ∧ w = w' := by
  have h1 := conv_sl hs
  have h2 := conv_sl hs'
  go_enter Tryd.func65, Tryd.ntmps65
  go_wp2
  go_ret
  have e : (l == l') = sameB l l' := by
    unfold sameB
    rw [Bool.eq_iff_iff]
    simp
  exact ⟨by rw [← e]; rfl, rfl⟩
end Go.Proofs.YtlkcnpmgafckoaaDoor

/-! ## MarkMath -/
namespace Go.Proofs.YtlkcnpmgafckoaaDoor

def two32 : Nat := 4294967296
def poly : Nat := 3988292384
theorem poly_lt : poly < two32 := by decide
/-- One step of the register. -/
def st (x : Nat) : Nat := (x / 2) ^^^ (if x % 2 = 1 then poly else 0)
def stN : Nat → Nat → Nat
  | 0, x => x
  | k + 1, x => stN k (st x)
theorem stN_succ (k x : Nat) : stN (k + 1) x = st (stN k x) := by
  induction k generalizing x with
  | zero => rfl
  | succ k ih => rw [stN, ih]; rfl
theorem stN_add (j k x : Nat) : stN (j + k) x = stN k (stN j x) := by
  induction j generalizing x with
  | zero => rw [Nat.zero_add]; rfl
  | succ j ih => rw [Nat.succ_add, stN, ih]; rfl
theorem xor_lt {a b : Nat} (ha : a < two32) (hb : b < two32) : a ^^^ b < two32 := Nat.xor_lt_two_pow (n := 32) ha hb
theorem st_lt {x : Nat} (h : x < two32) : st x < two32 := by
  unfold st
  refine xor_lt (by omega) ?_
  split
  · exact poly_lt
  · decide
theorem stN_lt (k : Nat) {x : Nat} (h : x < two32) : stN k x < two32 := by
  induction k generalizing x with
  | zero => exact h
  | succ k ih => exact ih (st_lt h)
theorem xor_half (x y : Nat) : (x ^^^ y) / 2 = (x / 2) ^^^ (y / 2) := by
  have := Nat.shiftRight_xor_distrib (a := x) (b := y) (i := 1)
  simpa [Nat.shiftRight_eq_div_pow] using this
theorem xor_mod2 (x y : Nat) : (x ^^^ y) % 2 = (x % 2 + y % 2) % 2 := by
  have h := Nat.xor_mod_two_pow (a := x) (b := y) (n := 1)
  rw [Nat.pow_one] at h
  rw [h]
  rcases Nat.mod_two_eq_zero_or_one x with hx | hx <;> rcases Nat.mod_two_eq_zero_or_one y with hy | hy <;> rw [hx, hy] <;> rfl
theorem st_xor (x y : Nat) : st (x ^^^ y) = st x ^^^ st y := by
  unfold st
  rw [xor_half]
  have h := xor_mod2 x y
  rcases Nat.mod_two_eq_zero_or_one x with hx | hx <;> rcases Nat.mod_two_eq_zero_or_one y with hy | hy
  · rw [hx, hy] at h
    simp [hx, hy, h]
  · rw [hx, hy] at h
    simp [hx, hy, h, Nat.xor_assoc]
  · rw [hx, hy] at h
    simp only [hx, hy, h]
    simp only [if_true, Nat.zero_ne_one, if_false, Nat.xor_zero]
    rw [Nat.xor_assoc, Nat.xor_assoc, Nat.xor_comm poly (y / 2)]
  · rw [hx, hy] at h
    simp only [hx, hy, h]
    simp only [Nat.reduceAdd, Nat.reduceMod, if_true, Nat.zero_ne_one, if_false, Nat.xor_zero]
    rw [Nat.xor_assoc, ← Nat.xor_assoc poly, Nat.xor_comm poly (y / 2), Nat.xor_assoc, Nat.xor_self, Nat.xor_zero]
theorem stN_xor (k x y : Nat) : stN k (x ^^^ y) = stN k x ^^^ stN k y := by
  induction k generalizing x y with
  | zero => rfl
  | succ k ih => rw [stN, st_xor, ih]; rfl
/-- Low bits that are 0 are only shifted out. -/
theorem stN_shift (k y : Nat) : stN k (y * 2 ^ k) = y := by
  induction k with
  | zero => simp [stN]
  | succ k ih =>
    rw [stN]
    have h : st (y * 2 ^ (k + 1)) = y * 2 ^ k := by
      unfold st
      rw [Nat.pow_succ, ← Nat.mul_assoc]
      have h1 : y * 2 ^ k * 2 % 2 = 0 := Nat.mul_mod_left _ _
      rw [h1, Nat.mul_div_cancel _ (by omega)]
      simp
    rw [h, ih]

/-- The table of half bytes. -/
def hv (i : Nat) : Nat := [0, 498536548, 997073096, 651767980, 1994146192, 1802195444, 1303535960, 1342533948, 3988292384, 4027552580, 3604390888, 3412177804, 2607071920, 2262029012, 2685067896, 3183342108].getD i 0
theorem hv_all : ∀ i : Fin 16, stN 4 i.val = hv i.val ∧ hv i.val < two32 := by decide
theorem hv_lt {i : Nat} (h : i < 16) : hv i < two32 := (hv_all ⟨i, h⟩).2
theorem join_low (k x : Nat) : x = (x / 2 ^ k * 2 ^ k) ^^^ (x % 2 ^ k) := by
  have h1 : 2 ^ k * (x / 2 ^ k) + x % 2 ^ k = 2 ^ k * (x / 2 ^ k) ||| x % 2 ^ k := Nat.two_pow_add_eq_or_of_lt (Nat.mod_lt _ (Nat.two_pow_pos k)) _
  have h2 : (2 ^ k * (x / 2 ^ k)) &&& (x % 2 ^ k) = 0 := by
    apply Nat.eq_of_testBit_eq
    intro i
    rw [Nat.testBit_and, Nat.testBit_two_pow_mul, Nat.testBit_mod_two_pow, Nat.zero_testBit]
    by_cases h : i < k
    · simp [h, show ¬ k ≤ i from by omega]
    · simp [h]
  have h3 : 2 ^ k * (x / 2 ^ k) ^^^ x % 2 ^ k = 2 ^ k * (x / 2 ^ k) ||| x % 2 ^ k := by
    apply Nat.eq_of_testBit_eq
    intro i
    have h4 := congrArg (fun n => n.testBit i) h2
    simp only [Nat.testBit_and, Nat.zero_testBit] at h4
    rw [Nat.testBit_xor, Nat.testBit_or]
    revert h4
    cases (2 ^ k * (x / 2 ^ k)).testBit i <;> cases (x % 2 ^ k).testBit i <;> simp
  rw [Nat.mul_comm (x / 2 ^ k), h3, ← h1, Nat.div_add_mod]
/-- Four steps at once. -/
theorem nib (x : Nat) : (x / 16) ^^^ hv (x % 16) = stN 4 x := by
  have h := join_low 4 x
  have h1 : stN 4 x = stN 4 (x / 2 ^ 4 * 2 ^ 4) ^^^ stN 4 (x % 2 ^ 4) := by rw [← stN_xor, ← h]
  rw [h1, stN_shift]
  have h2 := (hv_all ⟨x % 16, by omega⟩).1
  rw [show (2 : Nat) ^ 4 = 16 from rfl, h2]
/-- The register behind one byte, and behind many. -/
def reg (r : Nat) (b : UInt8) : Nat := stN 8 (r ^^^ b.toNat)
def run (r : Nat) (l : List UInt8) : Nat := l.foldl reg r
theorem reg_lt {r : Nat} (h : r < two32) (b : UInt8) : reg r b < two32 := stN_lt 8 (xor_lt h (by have := b.toNat_lt; unfold two32; omega))
theorem run_lt (l : List UInt8) {r : Nat} (h : r < two32) : run r l < two32 := by
  induction l generalizing r with
  | nil => exact h
  | cons b t ih => exact ih (reg_lt h b)
theorem run_snoc (r : Nat) (l : List UInt8) (b : UInt8) : run r (l ++ [b]) = reg (run r l) b := by simp [run]
theorem two_nibs (x : Nat) : ((x / 16 ^^^ hv (x % 16)) / 16) ^^^ hv ((x / 16 ^^^ hv (x % 16)) % 16) = stN 8 x := by
  rw [nib x, nib]
  exact (stN_add 4 4 x).symm
/-- Bit by bit. -/
def bitGo (b : Nat) (k r : Nat) : Nat := (r / 2) ^^^ (if r % 2 = b / 2 ^ k % 2 then 0 else poly)
theorem bit_step (b k r x : Nat) (h : r ^^^ (b / 2 ^ k) = x) : bitGo b k r ^^^ (b / 2 ^ (k + 1)) = st x := by
  subst h
  unfold bitGo st
  have h1 : b / 2 ^ (k + 1) = b / 2 ^ k / 2 := by rw [Nat.pow_succ, Nat.div_div_eq_div_mul]
  rw [h1, xor_half, xor_mod2]
  generalize b / 2 ^ k = c
  rcases Nat.mod_two_eq_zero_or_one r with hr | hr <;> rcases Nat.mod_two_eq_zero_or_one c with hc | hc <;> simp only [hr, hc] <;> simp <;> rw [Nat.xor_assoc, Nat.xor_comm poly, Nat.xor_assoc]
/-- All bits turned. -/
theorem all_xor {s : Nat} (h : s < two32) : 4294967295 ^^^ s = 4294967295 - s := by
  unfold two32 at h
  have e : 4294967295 - s = 2 ^ 32 - (s + 1) := by omega
  rw [e, show (4294967295 : Nat) = 2 ^ 32 - 1 from rfl]
  apply Nat.eq_of_testBit_eq
  intro i
  rw [Nat.testBit_xor, Nat.testBit_two_pow_sub_one, Nat.testBit_two_pow_sub_succ h]
  by_cases hi : i < 32
  · simp [hi]
  · have : s.testBit i = false := Nat.testBit_lt_two_pow (Nat.lt_of_lt_of_le h (Nat.pow_le_pow_right (by omega) (by omega) : 2 ^ 32 ≤ 2 ^ i))
    simp [hi, this]
/-- The sum. -/
def sum (l : List UInt8) : Nat := 4294967295 - run 4294967295 l
def more (s : Nat) (l : List UInt8) : Nat := 4294967295 - run (4294967295 - s) l
theorem sum_lt (l : List UInt8) : sum l < two32 := by unfold sum two32; omega
theorem more_zero (l : List UInt8) : more 0 l = sum l := rfl
/-- A sum's four bytes, the lowest first; what is closed; what is opened. -/
def lay4 (s : Nat) : List UInt8 := [UInt8.ofNat (s % 256), UInt8.ofNat (s / 256 % 256), UInt8.ofNat (s / 65536 % 256), UInt8.ofNat (s / 16777216 % 256)]
def closed (l : List UInt8) : List UInt8 := l ++ lay4 (sum l)
def tk : List UInt8 → Nat
  | [] => 0
  | b :: t => b.toNat + 256 * tk t
def opn (l : List UInt8) : List UInt8 × Nat :=
  if l.length < 4 then ([], 2) else if closed (l.take (l.length - 4)) = l then (l.take (l.length - 4), 0) else ([], 3)
theorem closed_len (l : List UInt8) : (closed l).length = l.length + 4 := by simp [closed, lay4]
theorem tk_lay4 {s : Nat} (h : s < two32) : tk (lay4 s) = s := by
  unfold two32 at h
  simp only [tk, lay4, UInt8.toNat_ofNat']
  omega
theorem lay4_tk {l : List UInt8} (h : l.length = 4) : lay4 (tk l) = l := by
  match l, h with
  | [a, b, c, d], _ =>
    have ha := a.toNat_lt
    have hb := b.toNat_lt
    have hc := c.toNat_lt
    have hd := d.toNat_lt
    have e0 : tk [a, b, c, d] = a.toNat + 256 * (b.toNat + 256 * (c.toNat + 256 * d.toNat)) := by simp [tk]
    rw [e0]
    unfold lay4
    generalize ea : a.toNat = x at *
    generalize eb : b.toNat = y at *
    generalize ec : c.toNat = z at *
    generalize ed : d.toNat = u at *
    have h1 : (x + 256 * (y + 256 * (z + 256 * u))) % 256 = x := by omega
    have h2 : (x + 256 * (y + 256 * (z + 256 * u))) / 256 % 256 = y := by omega
    have h3 : (x + 256 * (y + 256 * (z + 256 * u))) / 65536 % 256 = z := by omega
    have h4 : (x + 256 * (y + 256 * (z + 256 * u))) / 16777216 % 256 = u := by omega
    rw [h1, h2, h3, h4, ← ea, ← eb, ← ec, ← ed]
    simp
/-- The last four bytes are the sum just if what is ahead, closed, is all. -/
theorem tk_iff {l : List UInt8} (h : 4 ≤ l.length) : tk (l.drop (l.length - 4)) = sum (l.take (l.length - 4)) ↔ closed (l.take (l.length - 4)) = l := by
  constructor
  · intro e
    unfold closed
    rw [← e, lay4_tk (by rw [List.length_drop]; omega), List.take_append_drop]
  · intro e
    have h1 : l.drop (l.length - 4) = lay4 (sum (l.take (l.length - 4))) := by
      have h2 := congrArg (List.drop (l.length - 4)) e
      unfold closed at h2
      rw [List.drop_left' (by rw [List.length_take]; omega)] at h2
      exact h2.symm
    rw [h1, tk_lay4 (sum_lt _)]
end Go.Proofs.YtlkcnpmgafckoaaDoor

/-! ## MarkTurn -/
namespace Go.Proofs.YtlkcnpmgafckoaaDoor

end Go.Proofs.YtlkcnpmgafckoaaDoor

/-! ## MarkSum -/
namespace Go.Proofs.YtlkcnpmgafckoaaDoor
open Go.RowKit

/-- The table lies in the first block, as the program's text lays it. -/
structure TabAt (w : World) : Prop where
  cell : ∀ i, i < 16 → w.cell? ⟨0, i, none⟩ = some (.int .u32 (hv i : Int))
theorem TabAt.pos {w : World} (h : TabAt w) : 0 < w.heap.size := World.block_lt_of_cell? w _ (h.cell 0 (by omega))
theorem TabAt.below {w w' : World} (h : TabAt w) (hb : Below w.heap.size w w') : TabAt w' := ⟨fun i hi => (hb.cell (p := ⟨0, i, none⟩) h.pos).trans (h.cell i hi)⟩
theorem TabAt.alloc {w : World} (h : TabAt w) (o : Obj) : TabAt (w.alloc o) := h.below ((Below.refl _ w).alloc (Nat.le_refl _) o)
theorem TabAt.drewN {w : World} (h : TabAt w) (n : Nat) : TabAt (w.drewN n) := ⟨h.cell⟩

theorem Sl.getD {w : World} {B : Nat} {A : Option Addr} {n c : Nat} {l : List UInt8} (h : Sl w B A n c l) (j : Nat) : j < n → l[j]? = some (l.getD j 0) := fun hj => by
  have := h.len
  rw [List.getD_eq_getElem?_getD, List.getElem?_eq_getElem (by omega)]
  rfl
theorem not_u32 {s : Nat} (h : s < two32) : bits .xor .u32 IntKind.u32.max (s : Int) = ((4294967295 - s : Nat) : Int) := by
  have e : IntKind.u32.max = ((4294967295 : Nat) : Int) := by decide
  rw [e, u32_xor_nat 4294967295 s (by omega) h, all_xor h]
theorem and15 (y : Nat) (h : y < two32) : bits .and .u32 (y : Int) 15 = ((y % 16 : Nat) : Int) := by
  have e := u32_and_nat y 15 h (by omega)
  rw [show (15 : Nat) = 2 ^ 4 - 1 from rfl, Nat.and_two_pow_sub_one_eq_mod] at e
  exact e
theorem nib_u32 (y h : Nat) (hy : y < two32) (hh : h < two32) : bits .xor .u32 ((y : Int) / 16) (h : Int) = ((y / 16 ^^^ h : Nat) : Int) :=
  u32_xor_nat (y / 16) h (by unfold two32 at hy; omega) hh

def MoreRel (w : World) (l : List UInt8) (r0 n : Nat) (k : Nat) (r i : Value) (wr : World) : Prop :=
  ∃ (j : Nat), k + j = n ∧ i = .int .i64 (j : Int) ∧ r = .int .u32 ((run r0 (l.take j) : Nat) : Int) ∧ w = wr

set_option maxRecDepth 100000 in
set_option maxHeartbeats 400000 in
theorem more_any (w : World) (B : Nat) (A : Option Addr) (n c s : Nat) (l : List UInt8) (ht : TabAt w) (hs : Sl w B A n c l) (hsum : s < two32) :
    Calls Tryd.prog 82 #[.int .u32 (s : Int), .slice A n c] w fun e w' => e = .returned (.int .u32 ((more s l : Nat) : Int)) ∧ w = w' := by
  have hmax := hs.max
  have hle := hs.le
  unfold maxLen at hmax
  have HS := Lib.hid hs; clear hs
  have HT := Lib.hid ht; clear ht
  have HSUM := Lib.hid hsum; clear hsum
  go_enter Tryd.func82, Tryd.ntmps82
  have e0 := not_u32 HSUM.out
  obtain ⟨q, hq⟩ : ∃ q, q = 4294967295 - s := ⟨_, rfl⟩
  rw [← hq] at e0
  have HQ := Lib.hid hq; clear hq
  have HQL : Hid (q < two32) := by have h := HQ.out; show _ < _; unfold two32; omega
  go_wp2
  go_loopg [5, 12] n (fun k r i wr => MoreRel w l q n k r i wr)
  case atStart => exact ⟨0, by omega, rfl, by simp [run], rfl⟩
  case round =>
    clear e0
    obtain ⟨j, hj, rfl, rfl, rfl⟩ := hrel
    have HJ := Lib.hid hj; clear hj
    have HRL := Lib.hid (run_lt (l.take j) HQL.out)
    by_cases hlt : j < n
    · obtain ⟨b, o, x, rfl, _, hx, hc⟩ := HS.out.at_ hlt
      have hx8 := x.toNat_lt
      have HN : Hid (run q (l.take (j + 1)) = stN 8 (run q (l.take j) ^^^ x.toNat)) := by
        show _ = _
        rw [take_snoc hx, run_snoc]; rfl
      clear hx
      generalize run q (l.take j) = r at *
      have e1 : bits .xor .u32 (r : Int) (x.toNat : Int) = ((r ^^^ x.toNat : Nat) : Int) := u32_xor_nat r x.toNat HRL.out (by omega)
      have HYL : Hid (r ^^^ x.toNat < two32) := xor_lt HRL.out (by unfold two32; omega)
      generalize r ^^^ x.toNat = y at *
      have e2 := and15 y HYL.out
      have hm1 : y % 16 < 16 := Nat.mod_lt _ (by omega)
      have c1 := HT.out.cell _ hm1
      have e3 := nib_u32 y (hv (y % 16)) HYL.out (hv_lt hm1)
      have HZL : Hid (y / 16 ^^^ hv (y % 16) < two32) := xor_lt (by have := HYL.out; omega) (hv_lt hm1)
      have HF := Lib.hid (two_nibs y)
      generalize y / 16 ^^^ hv (y % 16) = z at *
      generalize hv (y % 16) = h1 at *
      generalize y % 16 = m1 at *
      have e4 := and15 z HZL.out
      have hm2 : z % 16 < 16 := Nat.mod_lt _ (by omega)
      have c2 := HT.out.cell _ hm2
      have e5 := nib_u32 z (hv (z % 16)) HZL.out (hv_lt hm2)
      rw [HF.out, ← HN.out] at e5
      generalize hv (z % 16) = h2 at *
      generalize z % 16 = m2 at *
      clear HF HN HYL HZL
      go_wp2
      go_roundg (gk - 1)
      case measure => have := HJ.out; omega
      case rel => exact ⟨j + 1, by have := HJ.out; omega, by go_num, rfl, rfl⟩
    · have HN : Hid (l.take j = l) := List.take_of_length_le (by have := HJ.out; have := HS.out.len; omega)
      have e6 := not_u32 HRL.out
      rw [HN.out] at e6 ⊢
      have HM : Hid (4294967295 - run q l = more s l) := by show _ = _; rw [HQ.out]; rfl
      rw [HM.out] at e6
      go_wp2
      go_ret
      exact ⟨rfl, rfl⟩

theorem sum_any (w : World) (B : Nat) (A : Option Addr) (n c : Nat) (l : List UInt8) (ht : TabAt w) (hs : Sl w B A n c l) :
    Calls Tryd.prog 61 #[.slice A n c] w fun e w' => e = .returned (.int .u32 ((sum l : Nat) : Int)) ∧ w = w' := by
  have h := more_any w B A n c 0 l ht hs (by decide)
  rw [more_zero] at h
  have HH := Lib.hid h; clear h
  go_enter Tryd.func61, Tryd.ntmps61
  go_wp2_with fail
  refine HH.out.mono ?_
  rintro e w' ⟨rfl, rfl⟩
  go_wp2
  go_ret
  exact ⟨rfl, rfl⟩

theorem cast_bit (x i : Nat) : (x : Int) / 2 ^ i % 2 = ((x / 2 ^ i % 2 : Nat) : Int) := by simp
theorem cast_mod (r : Nat) : (r : Int) % 2 = ((r % 2 : Nat) : Int) := by omega
theorem half_u32 (r : Nat) (h : r < two32) : Value.int .u32 ((r : Int) / 2 % 4294967296) = Value.int .u32 ((r / 2 : Nat) : Int) := by
  unfold two32 at h
  congr 1
  omega
theorem half_poly (r : Nat) (h : r < two32) : Value.int .u32 (bits .xor .u32 ((r : Int) / 2 % 4294967296) 3988292384) = Value.int .u32 ((r / 2 ^^^ poly : Nat) : Int) := by
  unfold two32 at h
  have e : (r : Int) / 2 % 4294967296 = ((r / 2 : Nat) : Int) := by omega
  rw [e]
  have := u32_xor_nat (r / 2) poly (by omega) poly_lt
  congr 1

/-! ### The reference's Sum: bit by bit -/
def SumRel (w : World) (l : List UInt8) (n : Nat) (k : Nat) (r i : Value) (wr : World) : Prop :=
  ∃ (j : Nat), k + j = n ∧ i = .int .i64 (j : Int) ∧ r = .int .u32 ((run 4294967295 (l.take j) : Nat) : Int) ∧ w = wr
def BitRel (w : World) (x r0 : Nat) (k : Nat) (r i : Value) (wr : World) : Prop :=
  ∃ (j r' : Nat), k + j = 8 ∧ i = .int .i64 (j : Int) ∧ r = .int .u32 (r' : Int) ∧ r' < two32 ∧ r' ^^^ (x / 2 ^ j) = stN j (r0 ^^^ x) ∧ w = wr

set_option maxRecDepth 100000 in
set_option maxHeartbeats 400000 in
theorem refSum_any (w : World) (B : Nat) (A : Option Addr) (n c : Nat) (l : List UInt8) (hs : Sl w B A n c l) :
    Calls Tryd.prog 49 #[.slice A n c] w fun e w' => e = .returned (.int .u32 ((sum l : Nat) : Int)) ∧ w = w' := by
  have hmax := hs.max
  have hle := hs.le
  unfold maxLen at hmax
  have HS := Lib.hid hs; clear hs
  go_enter Tryd.func49, Tryd.ntmps49
  go_wp2
  go_loopg [3, 10] n (fun k r i wr => SumRel w l n k r i wr)
  case atStart => exact ⟨0, by omega, rfl, rfl, rfl⟩
  case round =>
    obtain ⟨j, hj, rfl, rfl, rfl⟩ := hrel
    have HJ := Lib.hid hj; clear hj
    have HRL := Lib.hid (run_lt (l.take j) (r := 4294967295) (by decide))
    by_cases hlt : j < n
    · obtain ⟨b, o, x, rfl, _, hx, hc⟩ := HS.out.at_ hlt
      have hx8 := x.toNat_lt
      have HN : Hid (run 4294967295 (l.take (j + 1)) = stN 8 (run 4294967295 (l.take j) ^^^ x.toNat)) := by
        show _ = _
        rw [take_snoc hx, run_snoc]; rfl
      clear hx
      generalize run 4294967295 (l.take j) = r at *
      go_wp2
      go_loopg [3, 6] 8 (fun k r' i wr => BitRel w x.toNat r k r' i wr)
      case atStart => exact ⟨0, r, by omega, rfl, rfl, HRL.out, by simp [stN], rfl⟩
      case round =>
        obtain ⟨i, r', hi, rfl, rfl, hr', hst, rfl⟩ := hrel
        have HI := Lib.hid hi; clear hi
        have HST := Lib.hid hst; clear hst
        have HRL' := Lib.hid hr'; clear hr'
        by_cases hlt8 : i < 8
        · have HSS : Hid (bitGo x.toNat i r' ^^^ (x.toNat / 2 ^ (i + 1)) = stN (i + 1) (r ^^^ x.toNat)) := by
            show _ = _
            rw [bit_step x.toNat i r' _ HST.out, stN_succ]
          have HI' := HI.out
          by_cases hun : r' % 2 = x.toNat / 2 ^ i % 2
          · have hq : ((r' : Int) % 2 != (x.toNat : Int) / 2 ^ i % 2) = false := by rw [cast_bit, cast_mod, hun]; simp
            have hb : bitGo x.toNat i r' = r' / 2 := by unfold bitGo; rw [if_pos hun, Nat.xor_zero]
            have HB := Lib.hid hb
            have HV := Lib.hid (half_u32 r' HRL'.out)
            clear hun hb
            go_wp2
            go_roundg (gk - 1)
            case measure => omega
            case rel =>
              refine ⟨i + 1, r' / 2, by omega, by go_num, HV.out, by have := HRL'.out; omega, ?_, rfl⟩
              rw [← HB.out]; exact HSS.out
          · have hq : ((r' : Int) % 2 != (x.toNat : Int) / 2 ^ i % 2) = true := by rw [cast_bit, cast_mod, bne_iff_ne]; omega
            have hb : bitGo x.toNat i r' = r' / 2 ^^^ poly := by unfold bitGo; rw [if_neg hun]
            have HB := Lib.hid hb
            have HV := Lib.hid (half_poly r' HRL'.out)
            clear hun hb
            go_wp2
            go_roundg (gk - 1)
            case measure => omega
            case rel =>
              refine ⟨i + 1, r' / 2 ^^^ poly, by omega, by go_num, HV.out, xor_lt (by have := HRL'.out; omega) poly_lt, ?_, rfl⟩
              rw [← HB.out]; exact HSS.out
        · have hi8 : i = 8 := by have := HI.out; omega
          have HF : Hid (r' = run 4294967295 (l.take (j + 1))) := by
            show _ = _
            have h1 := HST.out
            rw [hi8, Nat.div_eq_of_lt (by omega), Nat.xor_zero] at h1
            rw [h1, HN.out]
          clear hi8
          have hi8' : ¬ (i : Int) < 8 := by omega
          go_wp2
          go_roundg (n - (j + 1))
          case measure => have := HJ.out; omega
          case rel => exact ⟨j + 1, by omega, by go_num, by rw [HF.out], rfl⟩
    · have HN : Hid (l.take j = l) := List.take_of_length_le (by have := HJ.out; have := HS.out.len; omega)
      rw [HN.out] at HRL ⊢
      have HV : Hid (Value.int .u32 ((4294967295 - ((run 4294967295 l : Nat) : Int)) % 4294967296) = Value.int .u32 ((sum l : Nat) : Int)) := by
        show _ = _
        have h := HRL.out
        unfold two32 at h
        unfold sum
        congr 1
        omega
      go_wp2
      go_ret
      exact ⟨congrArg Ending.returned HV.out, rfl⟩

theorem quiet_l {P : Program} {f : FuncId} {args : Array Value} {w : World} {n : Nat} {v : Value}
    (h : Calls P f args (w.drewN n) fun e w' => e = .returned v ∧ w.drewN n = w') : Calls P f args (w.drewN n) fun e w'' => e = .returned v ∧ ∃ m, w'' = w.drewN m :=
  h.mono fun _ _ ⟨he, hm⟩ => ⟨he, n, hm.symm⟩
end Go.Proofs.YtlkcnpmgafckoaaDoor

/-! ## MarkClose -/
namespace Go.Proofs.YtlkcnpmgafckoaaDoor
open Go.RowKit

theorem cell_new1 (w : World) (u : Value) (t : TypeId) : (w.alloc (.cells #[u] t)).cell? ⟨w.heap.size, 0, none⟩ = some u := by simp
theorem lt_new1 (w : World) (o : Obj) : w.heap.size < (w.alloc o).heap.size := by simp
theorem one_slm (w : World) (t : TypeId) (s : Nat) : Sl (w.alloc (.cells #[.int .u8 ((s : Int) % 256)] t)) (w.heap.size + 1) (some ⟨w.heap.size, 0, none⟩) 1 1 [UInt8.ofNat (s % 256)] := by
  have e : Value.int .u8 ((s : Int) % 256) = cb (UInt8.ofNat (s % 256)) := by unfold cb; congr 1; simp
  rw [e]
  exact lit_sl w t [UInt8.ofNat (s % 256)] 1 rfl (by unfold maxLen; omega)
theorem four_sl (w : World) (t : TypeId) {u0 u1 u2 u3 : Value} {b0 b1 b2 b3 : UInt8} (h0 : u0 = cb b0) (h1 : u1 = cb b1) (h2 : u2 = cb b2) (h3 : u3 = cb b3) :
    Sl (w.alloc (.cells #[u0, u1, u2, u3] t)) (w.heap.size + 1) (some ⟨w.heap.size, 0, none⟩) 4 4 [b0, b1, b2, b3] := by
  subst h0 h1 h2 h3
  exact lit_sl w t [b0, b1, b2, b3] 4 rfl (by unfold maxLen; omega)
theorem low8 (s : Nat) : Value.int .u8 ((s : Int) % 256) = cb (UInt8.ofNat (s % 256)) := by
  unfold cb; congr 1; simp
theorem mid8 (s d : Nat) : Value.int .u8 ((s : Int) / (d : Int) % 256) = cb (UInt8.ofNat (s / d % 256)) := by
  unfold cb; congr 1; simp

set_option maxRecDepth 100000 in
set_option maxHeartbeats 400000 in
theorem close_any (w : World) (A : Option Addr) (n c : Nat) (l : List UInt8) (ht : TabAt w) (hs : Sl w w.heap.size A n c l) (hb : l.length ≤ 1000000) :
    Calls Tryd.prog 34 #[.slice A n c] w (Fresh w (closed l)) := by
  have hle := hs.le
  have hmax := hs.max
  unfold maxLen at hmax
  have hln := hs.len
  obtain ⟨i0, hi0, hz0, hz1, hz2⟩ := info_parts u8_info
  have hd : Dst w w.heap.size 5 A n n l := .inl ⟨rfl, by have h := hs.take (k := n) (m := n) (Nat.le_refl _) (Nat.le_refl _) hle; rwa [List.take_of_length_le (by rw [hs.len]; omega)] at h⟩
  have HBD : Hid (n + 4 ≤ 140737488355328) := by show _ ≤ _; omega
  have HT := Lib.hid ht; clear ht hln
  go_enter Tryd.func34, Tryd.ntmps34
  go_wp2_with fail
  refine (sum_any w _ A n c l HT.out hs).mono ?_
  rintro e w' ⟨rfl, rfl⟩
  have HSL := Lib.hid (sum_lt l)
  have HC : Hid (closed l = l ++ lay4 (sum l)) := rfl
  generalize sum l = s at *
  have hs4 := four_sl w 5 (low8 s) (mid8 s 256) (mid8 s 65536) (mid8 s 16777216)
  go_wp2_with (at_builtin; go_must (refine wpList_append_dst _ rfl (.tmp 11) (.tmp 23) 37 37 rfl w.heap.size 5 i0 Tryd.underlying37 hi0 hz0 hz1 hz2 A n n l rfl (hd.alloc _) _ 4 (lay4 s) rfl (Sl.src Tryd.underlying37 hs4) HBD.out (by simp) ?_); intro A2 c2 w2 h1 h2 h3 h4 h5)
  go_ret
  refine ⟨A2, n + 4, c2, rfl, ?_, ((Below.refl _ w).alloc (Nat.le_refl _) _).trans h4⟩
  rw [HC.out]
  exact h2 (by omega)

/-! ### bytes.Equal -/
/-! ### mark.Open -/
def Opened (w : World) (l : List UInt8) (er : Nat) (e : Ending) (w' : World) : Prop :=
  ∃ A n c, e = .returned (.tuple #[.slice A n c, .int .i64 (er : Int)]) ∧ Sl w' w'.heap.size A n c l ∧ Below w.heap.size w w'
set_option maxRecDepth 100000 in
set_option maxHeartbeats 400000 in
theorem open_any (w : World) (A : Option Addr) (n c : Nat) (l : List UInt8) (ht : TabAt w) (hs : Sl w w.heap.size A n c l) (hb : l.length ≤ 1000000) :
    Calls Tryd.prog 37 #[.slice A n c] w (Opened w (opn l).1 (opn l).2) := by
  have hle := hs.le
  have hmax := hs.max
  unfold maxLen at hmax
  have hln := hs.len
  by_cases h4 : n < 4
  · have ho : opn l = ([], 2) := by unfold opn; rw [if_pos (by omega)]
    rw [ho]
    have h4' : (n : Int) < 4 := by omega
    clear ho
    go_enter Tryd.func37, Tryd.ntmps37
    go_wp2
    go_ret2
    exact ⟨none, 0, 0, rfl, Sl.nil_ _ _ _ _ (by unfold maxLen; omega), Below.refl _ _⟩
  · have h4' : ¬ (n : Int) < 4 := by omega
    have hm0 : (0 : Int) ≤ (n : Int) - 4 := by omega
    have hm1 : (n : Int) - 4 ≤ (c : Int) := by omega
    have hmt : ((n : Int) - 4).toNat = n - 4 := by omega
    have hah := hs.take (k := n - 4) (m := c) (by omega) (by omega) (Nat.le_refl _)
    have HL := Lib.hid hln; clear hln
    have HT := Lib.hid ht; clear ht
    obtain ⟨m, hm⟩ : ∃ m, m = n - 4 := ⟨_, rfl⟩
    rw [← hm] at hah hmt
    have HM := Lib.hid hm; clear hm
    go_enter Tryd.func37, Tryd.ntmps37
    go_wp2_with fail
    refine (close_any w A m c (l.take m) HT.out hah (by rw [List.length_take]; omega)).mono ?_
    rintro e w' ⟨A2, n2, c2, rfl, hown, hbel⟩
    have h2 := Sl.of_own hown
    have hs' := hs.on hbel (Nat.le_refl _)
    clear hm0 hm1 hmt
    go_wp2_with fail
    refine (equal_any w' _ A2 A n2 c2 n c _ l h2 hs').mono ?_
    rintro e w'' ⟨rfl, rfl⟩
    have hln2 : n2 = m + 4 := by
      have h5 := h2.len
      rw [closed_len, List.length_take] at h5
      have := HL.out
      have := HM.out
      omega
    by_cases heq : closed (l.take m) = l
    · have ho : opn l = (l.take m, 0) := by
        unfold opn
        have := HL.out
        have := HM.out
        rw [if_neg (by omega), show l.length - 4 = m from by omega, if_pos heq]
      have hsb : sameB (closed (l.take m)) l = true := by unfold sameB; rw [heq]; simp
      rw [hsb]
      have HO := Lib.hid ho
      have hback := h2.take (k := m) (m := c2) (by omega) (by have := h2.le; omega) (Nat.le_refl _)
      rw [heq] at hback
      have hmc : m ≤ c2 := by have := h2.le; omega
      clear ho hsb hown h2 hln2 heq
      go_wp2
      go_ret2
      rw [HO.out]
      exact ⟨A2, m, c2, rfl, hback, hbel⟩
    · have ho : opn l = ([], 3) := by
        unfold opn
        have := HL.out
        have := HM.out
        rw [if_neg (by omega), show l.length - 4 = m from by omega, if_neg heq]
      have hsb : sameB (closed (l.take m)) l = false := by unfold sameB; simp [heq]
      rw [hsb]
      have HO := Lib.hid ho
      clear ho hsb hown h2 hln2 heq
      go_wp2
      go_ret2
      rw [HO.out]
      exact ⟨none, 0, 0, rfl, Sl.nil_ _ _ _ _ (by unfold maxLen; omega), hbel⟩

/-! ### The reference's Lay and Take -/
def layN : Nat → Nat → List UInt8
  | 0, _ => []
  | k + 1, s => UInt8.ofNat (s % 256) :: layN k (s / 256)
theorem layN_four (s : Nat) : layN 4 s = lay4 s := by
  simp only [layN, lay4, Nat.div_div_eq_div_mul]
theorem layN_len (k s : Nat) : (layN k s).length = k := by
  induction k generalizing s with
  | zero => rfl
  | succ k ih => simp [layN, ih]
theorem div_u64 (s : Nat) (h : s < two32) : Value.int .u64 (IntKind.u64.wrap ((s : Int) / 256)) = Value.int .u64 ((s / 256 : Nat) : Int) := by
  unfold two32 at h
  rw [IntKind.wrap_u64]
  congr 1
  omega
def LayRel (w : World) (tot : List UInt8) (k0 : Nat) (k : Nat) (s out i : Value) (wr : World) : Prop :=
  ∃ (s' j : Nat) (A : Option Addr) (n c : Nat) (l : List UInt8), k + j = k0 ∧ i = .int .i64 (j : Int) ∧ s = .int .u64 (s' : Int) ∧ out = .slice A n c ∧ wr.ownsRow w.heap.size 5 1 (.slice A n c) n (cbs l) ∧ tot = l ++ layN k s' ∧ s' < two32 ∧ Below w.heap.size w wr

set_option maxRecDepth 100000 in
set_option maxHeartbeats 400000 in
theorem lay_any (w : World) (s k : Nat) (hk : k ≤ 1000) (hs : s < two32) :
    Calls Tryd.prog 48 #[.int .u64 (s : Int), .int .i64 (k : Int)] w (Fresh w (layN k s)) := by
  have HS := Lib.hid hs; clear hs
  obtain ⟨tot, HT⟩ : ∃ tot, Hid (tot = layN k s) := ⟨_, rfl⟩
  obtain ⟨i0, hi0, hz0, hz1, hz2⟩ := info_parts u8_info
  go_enter Tryd.func48, Tryd.ntmps48
  go_wp2
  go_loopg [0, 5, 6] k (fun k' s out i wr => LayRel w tot k k' s out i wr)
  case atStart => exact ⟨s, 0, none, 0, 0, [], by omega, rfl, rfl, rfl, ⟨rfl, .inl ⟨rfl, rfl⟩⟩, HT.out, HS.out, Below.refl _ _⟩
  case round =>
    obtain ⟨s', j, A, n, c, l, hj, rfl, rfl, rfl, hown, htot, hs', hbel⟩ := hrel
    have HJ := Lib.hid hj; clear hj
    have HTOT := Lib.hid htot; clear htot
    have HS' := Lib.hid hs'; clear hs'
    by_cases hlt : j < k
    · obtain ⟨k1, hk1⟩ : ∃ k1, gk = k1 + 1 := ⟨gk - 1, by have := HJ.out; omega⟩
      have HK1 := Lib.hid hk1; clear hk1
      have hd : Dst wr w.heap.size 5 A n c l := .inr hown
      have hin := one_slm wr 5 s'
      have HBD : Hid (n + 1 ≤ 140737488355328) := by
        have h1 := (Sl.of_own hown).len
        have h2 := congrArg List.length (HT.out.symm.trans HTOT.out)
        rw [List.length_append, layN_len] at h2
        show _ ≤ _
        omega
      go_wp2_with (at_builtin; go_must (refine wpList_append_dst _ rfl (.tmp 12) (.tmp 16) 37 37 rfl w.heap.size 5 i0 Tryd.underlying37 hi0 hz0 hz1 hz2 A n c l rfl (hd.alloc _) _ 1 [UInt8.ofNat (s' % 256)] rfl (Sl.src Tryd.underlying37 hin) HBD.out (by simp; have := hbel.size; omega) ?_); intro A2 c2 w2 h1 h2 h3 h4 h5)
      go_roundg k1
      case measure => have := HK1.out; omega
      case rel =>
        refine ⟨s' / 256, j + 1, A2, n + 1, c2, l ++ [UInt8.ofNat (s' % 256)], by have := HJ.out; have := HK1.out; omega, by go_num, div_u64 s' HS'.out, rfl, h2 (by omega), ?_, by have := HS'.out; omega, (hbel.alloc hbel.size _).trans h4⟩
        rw [HTOT.out, HK1.out, List.append_assoc]
        rfl
    · have hgk : gk = 0 := by have := HJ.out; omega
      have HG := Lib.hid hgk; clear hgk
      go_wp2
      go_ret
      refine ⟨A, n, c, rfl, ?_, hbel⟩
      rw [← HT.out, HTOT.out, HG.out]
      simpa [layN] using hown

theorem tk_lt (l : List UInt8) : ∀ k, l.length ≤ k → tk l < 256 ^ k := by
  induction l with
  | nil => intro k _; exact Nat.pow_pos (by omega)
  | cons b t ih =>
    intro k hk
    rcases k with _ | k
    · simp at hk
    · have h1 := ih k (by simpa using hk)
      have hb := b.toNat_lt
      rw [tk, Nat.pow_succ]
      omega
theorem horner (a x : Nat) (ha : a < 256 ^ 3) (hx : x < 256) : Value.int .u64 (IntKind.u64.wrap (IntKind.u64.wrap (256 * (a : Int)) + (x : Int))) = Value.int .u64 ((x + 256 * a : Nat) : Int) := by
  rw [IntKind.wrap_u64, IntKind.wrap_u64]
  congr 1
  omega
theorem wrap_u32 (s : Nat) (h : s < two32) : IntKind.u64.wrap (s : Int) = (s : Int) := by
  unfold two32 at h
  rw [IntKind.wrap_u64]
  omega
def TakeRel (w : World) (l : List UInt8) (n : Nat) (k : Nat) (acc i : Value) (wr : World) : Prop :=
  k ≤ n ∧ i = .int .i64 ((k : Int) - 1) ∧ acc = .int .u64 ((tk (l.drop k) : Nat) : Int) ∧ w = wr

set_option maxRecDepth 100000 in
set_option maxHeartbeats 400000 in
theorem refTake_any (w : World) (B : Nat) (A : Option Addr) (n c : Nat) (l : List UInt8) (hs : Sl w B A n c l) (hn : n ≤ 4) :
    Calls Tryd.prog 73 #[.slice A n c] w fun e w' => e = .returned (.int .u64 ((tk l : Nat) : Int)) ∧ w = w' := by
  go_enter Tryd.func73, Tryd.ntmps73
  have hln := hs.len
  have hle := hs.le
  have HS := Lib.hid hs; clear hs
  have HL := Lib.hid hln; clear hln
  go_wp2
  go_loopg [3, 4] n (fun k acc i wr => TakeRel w l n k acc i wr)
  case atStart => exact ⟨by omega, rfl, by rw [List.drop_eq_nil_of_le (by have := HL.out; omega)]; rfl, rfl⟩
  case round =>
    obtain ⟨hk, rfl, rfl, rfl⟩ := hrel
    by_cases hlt : 0 < gk
    · obtain ⟨j, hj⟩ : ∃ j, gk = j + 1 := ⟨gk - 1, by omega⟩
      subst hj
      obtain ⟨b, o, x, rfl, _, hx, hc⟩ := HS.out.at_ (k := j) (by omega)
      have HD : Hid (tk (l.drop j) = x.toNat + 256 * tk (l.drop (j + 1))) := by
        show _ = _
        obtain ⟨hl, hx'⟩ := List.getElem?_eq_some_iff.1 hx
        rw [List.drop_eq_getElem_cons hl, hx']
        rfl
      have htl := tk_lt (l.drop (j + 1)) 3 (by rw [List.length_drop]; have := HL.out; omega)
      have hx8 := x.toNat_lt
      have HV := Lib.hid (horner (tk (l.drop (j + 1))) x.toNat htl (by omega))
      clear hx htl
      generalize tk (l.drop (j + 1)) = a at *
      go_wp2
      go_roundg j
      case measure => omega
      case rel => exact ⟨by omega, rfl, by rw [HV.out, HD.out], rfl⟩
    · have hg : gk = 0 := by omega
      subst hg
      clear hlt hk
      go_wp2
      go_ret
      exact ⟨rfl, rfl⟩

/-! ### The reference's Close and Open -/
set_option maxRecDepth 100000 in
set_option maxHeartbeats 400000 in
theorem refClose_any (w : World) (A : Option Addr) (n c : Nat) (l : List UInt8) (hs : Sl w w.heap.size A n c l) (hb : l.length ≤ 900000) :
    Calls Tryd.prog 24 #[.slice A n c] w (Fresh w (closed l)) := by
  have HW := Lib.hid (wrap_u32 (sum l) (sum_lt l))
  have HSL := Lib.hid (sum_lt l)
  have HC : Hid (closed l = l ++ layN 4 (sum l)) := by show _ = _; rw [layN_four]; rfl
  go_enter Tryd.func24, Tryd.ntmps24
  go_wp2_with fail
  refine (refSum_any w _ A n c l hs).mono ?_
  rintro e w' ⟨rfl, rfl⟩
  go_wp2_with fail
  rw [HW.out]
  refine (lay_any w (sum l) 4 (by omega) HSL.out).mono ?_
  rintro e w2 ⟨A2, n2, c2, rfl, hown, hbel⟩
  have h2 := Sl.of_own hown
  have hs' := hs.on hbel (Nat.le_refl _)
  clear hown hs
  go_wp2_with fail
  refine (join_two _ w2.heap.size A A2 n c n2 c2 l (layN 4 (sum l)) (by simp) (by simp) (by simp) (by exact hs'.onA _) (by exact h2.onA _) (by rw [layN_len]; omega)).mono ?_
  rintro e w3 h3
  have h4 := h3.of (hbel.alloc hbel.size _)
  obtain ⟨A3, n3, c3, rfl, h5⟩ := h4
  go_wp2
  go_ret
  rw [HC.out]
  exact ⟨A3, n3, c3, rfl, h5⟩

set_option maxRecDepth 100000 in
set_option maxHeartbeats 400000 in
theorem refOpen_any (w : World) (A : Option Addr) (n c : Nat) (l : List UInt8) (hs : Sl w w.heap.size A n c l) (hb : l.length ≤ 900000) :
    Calls Tryd.prog 41 #[.slice A n c] w (Opened w (opn l).1 (opn l).2) := by
  have hle := hs.le
  have hmax := hs.max
  unfold maxLen at hmax
  have hln := hs.len
  by_cases h4 : n < 4
  · have ho : opn l = ([], 2) := by unfold opn; rw [if_pos (by omega)]
    rw [ho]
    have h4' : (n : Int) < 4 := by omega
    clear ho
    go_enter Tryd.func41, Tryd.ntmps41
    go_wp2
    go_ret2
    exact ⟨none, 0, 0, rfl, Sl.nil_ _ _ _ _ (by unfold maxLen; omega), Below.refl _ _⟩
  · have h4' : ¬ (n : Int) < 4 := by omega
    obtain ⟨m, hm⟩ : ∃ m, n = m + 4 := ⟨n - 4, by omega⟩
    subst hm
    have hah := hs.take (k := m) (m := c) (by omega) (by omega) (Nat.le_refl _)
    have hbk := hs.drop (k := m) (by omega)
    rw [if_neg (by omega), show m + 4 - m = 4 from by omega] at hbk
    have HO : Hid (opn l = if tk (l.drop m) = sum (l.take m) then (l.take m, 0) else ([], 3)) := by
      show _ = _
      have h5 := tk_iff (l := l) (by omega)
      rw [show l.length - 4 = m from by omega] at h5
      unfold opn
      rw [if_neg (by omega), show l.length - 4 = m from by omega]
      by_cases h6 : closed (l.take m) = l
      · rw [if_pos h6, if_pos (h5.2 h6)]
      · rw [if_neg h6, if_neg (fun h => h6 (h5.1 h))]
    have HQ1 : Hid (∀ q, Calls Tryd.prog 73 #[.slice (A.map (·.add m)) 4 (c - m)] (w.drewN q) fun e w'' => e = .returned (.int .u64 ((tk (l.drop m) : Nat) : Int)) ∧ ∃ k, w'' = w.drewN k) :=
      fun q => quiet_l (refTake_any _ _ _ _ _ _ (hbk.drewN q) (by omega))
    have HQ2 : Hid (∀ q, Calls Tryd.prog 49 #[.slice A m c] (w.drewN q) fun e w'' => e = .returned (.int .u32 ((sum (l.take m) : Nat) : Int)) ∧ ∃ k, w'' = w.drewN k) :=
      fun q => quiet_l (refSum_any _ _ _ _ _ _ (hah.drewN q))
    have hmc : ¬ c = m := by omega
    have hw1 := wrap_u32 (sum (l.take m)) (sum_lt _)
    by_cases heq : tk (l.drop m) = sum (l.take m)
    · have ho : opn l = (l.take m, 0) := by rw [HO.out, if_pos heq]
      have HO2 := Lib.hid ho
      have hne : (((tk (l.drop m) : Nat) : Int) != ((sum (l.take m) : Nat) : Int)) = false := by rw [heq]; simp
      have HLN := Lib.hid hln
      clear ho heq HO hln
      go_enter Tryd.func41, Tryd.ntmps41
      go_wp2_with fail
      go_quiet ((first
        | (go_at_call 73; with_reducible exact HQ1.out _)
        | (go_at_call 49; with_reducible exact HQ2.out _)))
      clear HQ1 HQ2
      go_wp2_with fail
      refine (join_one _ w.heap.size A m c (l.take m) (by exact cell_new1 (w.drewN nq) _ _) (by exact lt_new1 (w.drewN nq) _) (by exact (hah.onD nq).onA _) (by rw [List.length_take]; omega)).mono ?_
      rintro e w3 h3
      have h4 := h3.of (w := w) (((below_drewN (Below.refl w.heap.size w) nq)).alloc (Nat.le_refl _) _)
      obtain ⟨A3, n3, c3, rfl, hown, hbel⟩ := h4
      go_wp2
      go_ret2
      rw [HO2.out]
      exact ⟨A3, n3, c3, rfl, Sl.of_own hown, hbel⟩
    · have ho : opn l = ([], 3) := by rw [HO.out, if_neg heq]
      have HO2 := Lib.hid ho
      have hne : (((tk (l.drop m) : Nat) : Int) != ((sum (l.take m) : Nat) : Int)) = true := by rw [bne_iff_ne]; omega
      have HLN := Lib.hid hln
      clear ho heq HO hln
      go_enter Tryd.func41, Tryd.ntmps41
      go_wp2_with fail
      go_quiet ((first
        | (go_at_call 73; with_reducible exact HQ1.out _)
        | (go_at_call 49; with_reducible exact HQ2.out _)))
      clear HQ1 HQ2
      go_wp2
      go_ret2
      rw [HO2.out]
      exact ⟨none, 0, 0, rfl, Sl.nil_ _ _ _ _ (by unfold maxLen; omega), below_drewN (Below.refl _ w) _⟩
end Go.Proofs.YtlkcnpmgafckoaaDoor

/-! ## PackMath -/
namespace Go.Proofs.YtlkcnpmgafckoaaDoor

/-- 2^64, behind a name. -/
def two64 : Nat := 18446744073709551616

/-- A number's bytes. -/
def num (n : Nat) : List UInt8 := if n < 128 then [UInt8.ofNat n] else UInt8.ofNat (n % 128 + 128) :: num (n / 128)
  termination_by n
  decreasing_by omega

theorem num_lo {n : Nat} (h : n < 128) : num n = [UInt8.ofNat n] := by rw [num, if_pos h]
theorem num_hi {n : Nat} (h : 128 ≤ n) : num n = UInt8.ofNat (n % 128 + 128) :: num (n / 128) := by rw [num, if_neg (by omega)]
theorem num_len (n : Nat) (k : Nat) (h : n < 128 ^ (k + 1)) : (num n).length ≤ k + 1 := by
  induction k generalizing n with
  | zero => rw [num_lo (by simpa using h)]; simp
  | succ k ih =>
    by_cases hn : n < 128
    · rw [num_lo hn]; simp
    · rw [num_hi (by omega), List.length_cons]
      have := ih (n / 128) (by rw [Nat.div_lt_iff_lt_mul (by omega)]; rw [Nat.pow_succ] at h; exact h)
      omega
theorem num_len10 (n : Nat) (h : n < two64) : (num n).length ≤ 10 := num_len n 9 (by unfold two64 at h; omega)
/-- Reading: the value, how many bytes, the error (2: the form, 7: too great). -/
def rdGo : Nat → Nat → List UInt8 → Nat × Nat × Nat
  | _, _, [] => (0, 0, 2)
  | i, acc, b :: t =>
    if i = 9 ∧ 1 < b.toNat then (0, 0, 7)
    else if 128 ≤ b.toNat then rdGo (i + 1) (acc + b.toNat % 128 * 128 ^ i) t
    else if b.toNat = 0 ∧ 0 < i then (0, 0, 2)
    else (acc + b.toNat % 128 * 128 ^ i, i + 1, 0)
def rd (l : List UInt8) : Nat × Nat × Nat := rdGo 0 0 l

/-- What is read was written. -/
theorem rdGo_back (l : List UInt8) : ∀ (i acc v s : Nat), i ≤ 9 → rdGo i acc l = (v, s, 0) → ∃ m, v = acc + m * 128 ^ i ∧ i < s ∧ s - i ≤ l.length ∧ l.take (s - i) = num m ∧ (m = 0 → i = 0) := by
  induction l with
  | nil => intro i acc v s _ h; simp [rdGo] at h
  | cons b t ih =>
    intro i acc v s hi h
    have hb := b.toNat_lt
    simp only [rdGo] at h
    split at h
    · simp at h
    · rename_i h9
      split at h
      · rename_i h128
        have hi9 : i < 9 := by
          rcases Nat.lt_or_ge i 9 with h | h
          · exact h
          · exact absurd ⟨by omega, by omega⟩ h9
        obtain ⟨m, hv, hs, hl, ht, h0⟩ := ih (i + 1) _ v s (by omega) h
        have hm : m ≠ 0 := fun e => by have := h0 e; omega
        refine ⟨b.toNat % 128 + 128 * m, ?_, by omega, by simp; omega, ?_, fun e => by omega⟩
        · rw [hv, Nat.pow_succ, Nat.add_mul, Nat.mul_comm 128 m, Nat.mul_assoc m, Nat.mul_comm 128 (128 ^ i)]
          omega
        · have hs' : s - i = (s - (i + 1)) + 1 := by omega
          rw [hs', List.take_succ_cons, ht, num_hi (n := b.toNat % 128 + 128 * m) (by omega)]
          have e1 : (b.toNat % 128 + 128 * m) / 128 = m := by omega
          have e2 : (b.toNat % 128 + 128 * m) % 128 + 128 = b.toNat := by omega
          rw [e1, e2]
          simp
      · rename_i h128
        split at h
        · simp at h
        · rename_i h0
          simp only [Prod.mk.injEq] at h
          obtain ⟨rfl, rfl, _⟩ := h
          refine ⟨b.toNat, ?_, by omega, by simp, ?_, fun e => ?_⟩
          · rw [Nat.mod_eq_of_lt (by omega)]
          · rw [show i + 1 - i = 1 from by omega, num_lo (by omega)]
            simp
          · rcases Nat.eq_zero_or_pos i with h | h
            · exact h
            · exact absurd ⟨e, h⟩ h0

theorem rdGo_bd (l : List UInt8) : ∀ (i acc v s e : Nat), i ≤ 9 → acc < 128 ^ i → rdGo i acc l = (v, s, e) → v < two64 ∧ s ≤ i + l.length ∧ s ≤ 10 ∧ (e ≠ 0 → v = 0 ∧ s = 0) ∧ e < 8 := by
  induction l with
  | nil =>
    intro i acc v s e _ _ h
    simp only [rdGo, Prod.mk.injEq] at h
    obtain ⟨rfl, rfl, rfl⟩ := h
    exact ⟨by unfold two64; omega, by omega, by omega, fun _ => ⟨rfl, rfl⟩, by omega⟩
  | cons b t ih =>
    intro i acc v s e hi ha h
    have hb := b.toNat_lt
    have z : (0 : Nat) < two64 := by unfold two64; omega
    have hstep : acc + b.toNat % 128 * 128 ^ i < 128 ^ (i + 1) := by
      have : b.toNat % 128 ≤ 127 := by omega
      have := Nat.mul_le_mul_right (128 ^ i) this
      rw [Nat.pow_succ]
      omega
    simp only [rdGo] at h
    split at h
    · simp only [Prod.mk.injEq] at h
      obtain ⟨rfl, rfl, rfl⟩ := h
      exact ⟨z, by omega, by omega, fun _ => ⟨rfl, rfl⟩, by omega⟩
    · rename_i h9
      split at h
      · rename_i h128
        have hi9 : i < 9 := by
          rcases Nat.lt_or_ge i 9 with h | h
          · exact h
          · exact absurd ⟨by omega, by omega⟩ h9
        have := ih (i + 1) _ v s e (by omega) hstep h
        exact ⟨this.1, by have := this.2.1; simp; omega, this.2.2⟩
      · split at h
        · simp only [Prod.mk.injEq] at h
          obtain ⟨rfl, rfl, rfl⟩ := h
          exact ⟨z, by omega, by omega, fun _ => ⟨rfl, rfl⟩, by omega⟩
        · simp only [Prod.mk.injEq] at h
          obtain ⟨rfl, rfl, rfl⟩ := h
          refine ⟨?_, by simp, by omega, fun h => absurd rfl h, by omega⟩
          rcases Nat.lt_or_ge i 9 with hi9 | hi9
          · have : 128 ^ (i + 1) ≤ 128 ^ 9 := Nat.pow_le_pow_right (by omega) (by omega)
            unfold two64
            omega
          · have : i = 9 := by omega
            subst this
            have : b.toNat ≤ 1 := by
              rcases Nat.lt_or_ge 1 b.toNat with h1 | h1
              · exact absurd ⟨rfl, h1⟩ h9
              · exact h1
            have h2 : b.toNat % 128 ≤ 1 := by omega
            have := Nat.mul_le_mul_right (128 ^ 9) h2
            unfold two64
            omega

theorem rd_bd {l : List UInt8} {v s e : Nat} (h : rd l = (v, s, e)) : v < two64 ∧ s ≤ l.length ∧ s ≤ 10 ∧ (e ≠ 0 → v = 0 ∧ s = 0) ∧ e < 8 := by
  have := rdGo_bd l 0 0 v s e (by omega) (by simp) h
  simpa using this
theorem rd_back {l : List UInt8} {v s : Nat} (h : rd l = (v, s, 0)) : l.take s = num v := by
  obtain ⟨m, hv, _, _, ht, _⟩ := rdGo_back l 0 0 v s (by omega) h
  simp at hv ht
  rw [hv]; exact ht

/-- What the readers come to: the value, what is left, the error. -/
def stNum (l : List UInt8) (er : Nat) : Nat × List UInt8 × Nat :=
  if er = 0 then (if (rd l).2.2 = 0 then ((rd l).1, l.drop (rd l).2.1, 0) else (0, l, (rd l).2.2)) else (0, l, er)
def judgeN (v : Nat) (most : Int) (left : Nat) : Nat := if most < 0 ∨ most < (v : Int) then 6 else if left < v then 2 else 0
def stBytes (l : List UInt8) (er : Nat) (most : Int) : List UInt8 × List UInt8 × Nat :=
  if er = 0 then
    (if (rd l).2.2 = 0 then
      (if judgeN (rd l).1 most (l.length - (rd l).2.1) = 0 then ((l.drop (rd l).2.1).take (rd l).1, l.drop ((rd l).2.1 + (rd l).1), 0) else ([], l, judgeN (rd l).1 most (l.length - (rd l).2.1)))
    else ([], l, (rd l).2.2))
  else ([], l, er)
def stByte (l : List UInt8) (er : Nat) : Nat × List UInt8 × Nat :=
  if er = 0 then (match l with | [] => (0, [], 2) | b :: t => (b.toNat, t, 0)) else (0, l, er)
/-- The bytes, how many ahead. -/
def byts (b : List UInt8) : List UInt8 := num b.length ++ b

end Go.Proofs.YtlkcnpmgafckoaaDoor

/-! ## PackNum -/
namespace Go.Proofs.YtlkcnpmgafckoaaDoor
open Go.RowKit

/-- A slice of one byte that was just made. -/
theorem one_sl (w : World) (t : TypeId) {u : Value} {b : UInt8} (h : u = cb b) : Sl (w.alloc (.cells #[u] t)) (w.heap.size + 1) (some ⟨w.heap.size, 0, none⟩) 1 1 [b] :=
  ⟨rfl, Nat.le_refl _, by unfold maxLen; omega, fun _ => ⟨w.heap.size, 0, rfl, by omega, fun j x hx => by
    rcases j with _ | j
    · simp at hx; subst hx; subst h; simp
    · simp at hx⟩⟩

theorem or_all : ∀ m : Fin 256, bits .or .u8 (m.val : Int) 128 = ((m.val % 128 + 128 : Nat) : Int) := by decide +kernel
theorem or_byte (gk : Nat) : Value.int .u8 (bits .or .u8 ((gk : Int) % 256) 128) = cb (UInt8.ofNat (gk % 128 + 128)) := by
  have h := or_all ⟨gk % 256, by omega⟩
  have e : ((gk : Int) % 256) = ((gk % 256 : Nat) : Int) := by omega
  rw [e]
  simp only at h
  rw [h]
  unfold cb
  congr 1
  simp
  omega
theorem low_byte {gk : Nat} (h : gk < 128) : Value.int .u8 (gk : Int) = cb (UInt8.ofNat gk) := by
  unfold cb
  congr 1
  simp
  omega
theorem u64_div (k : Nat) : Value.int .u64 ((k : Int) / 128) = Value.int .u64 ((k / 128 : Nat) : Int) := by
  congr 1

def NumRel (w : World) (tot : List UInt8) (k : Nat) (p n : Value) (wr : World) : Prop :=
  ∃ (A : Option Addr) (m c : Nat) (l : List UInt8), n = .int .u64 (k : Int) ∧ p = .slice A m c ∧ Dst wr w.heap.size 5 A m c l ∧ tot = l ++ num k ∧ Below w.heap.size w wr ∧ k < two64

set_option maxRecDepth 100000 in
set_option maxHeartbeats 400000 in
theorem packNum_any (w : World) (A : Option Addr) (m c : Nat) (l : List UInt8) (x : Nat) (hs : Sl w w.heap.size A m c l) (hx : x < two64) (hb : l.length ≤ 1000000) :
    Calls Tryd.prog 62 #[.slice A m c, .int .u64 (x : Int)] w (Fresh w (l ++ num x)) := by
  have hle := hs.le
  have hmax := hs.max
  unfold maxLen at hmax
  have hd : Dst w w.heap.size 5 A m m l := .inl ⟨rfl, by have h := hs.take (k := m) (m := m) (Nat.le_refl _) (Nat.le_refl _) hle; rwa [List.take_of_length_le (by rw [hs.len]; omega)] at h⟩
  have HTL : Hid ((l ++ num x).length ≤ 1000010) := by show _ ≤ _; rw [List.length_append]; have := num_len10 x hx; omega
  obtain ⟨tot, HT⟩ : ∃ tot, Hid (tot = l ++ num x) := ⟨_, rfl⟩
  rw [← HT.out] at HTL
  go_enter Tryd.func62, Tryd.ntmps62
  go_wp2
  go_loopg [0, 1] x (fun k p n wr => NumRel w tot k p n wr)
  case atStart => exact ⟨A, m, m, l, rfl, rfl, hd, HT.out, Below.refl _ _, hx⟩
  case round =>
    clear hd hs hle hmax
    obtain ⟨A', m', c', l', rfl, rfl, hd, ht, hbel, hk⟩ := hrel
    have HT' := Lib.hid ht; clear ht
    have hm' := hd.sl.len
    have hbd : m' + 1 ≤ 140737488355328 := by
      have h1 := HTL.out
      rw [HT'.out, List.length_append] at h1
      omega
    clear hm'
    have HBD := Lib.hid hbd; clear hbd
    have HK := Lib.hid hk; clear hk
    have HX := Lib.hid hx; clear hx
    obtain ⟨i0, hi0, hz0, hz1, hz2⟩ := info_parts u8_info
    by_cases h128 : 128 ≤ gk
    · have hi128 : (128 : Int) ≤ (gk : Int) := by omega
      have hbyte := or_byte gk
      have HBY := Lib.hid hbyte; clear hbyte
      go_wp2_with (at_builtin; refine wpList_append_dst _ rfl (.tmp 13) (.tmp 17) 37 37 rfl w.heap.size 5 i0 Tryd.underlying37 hi0 hz0 hz1 hz2 A' m' c' l' rfl (hd.alloc _) _ 1 [UInt8.ofNat (gk % 128 + 128)] rfl ((one_sl _ _ HBY.out).src Tryd.underlying37) HBD.out (by simp; have := hbel.size; omega) ?_; intro A2 c2 w2 h1 h2 h3 h4 h5)
      go_roundg (gk / 128)
      case measure => omega
      case rel =>
        refine ⟨A2, m' + 1, c2, _, u64_div gk, rfl, h1, ?_, (hbel.alloc hbel.size _).trans h4, ?_⟩
        · rw [HT'.out, num_hi h128, List.append_assoc]; rfl
        · have := HK.out; omega
    · have hi128 : ¬ (128 : Int) ≤ (gk : Int) := by omega
      have hbyte := low_byte (gk := gk) (by omega)
      have HBY := Lib.hid hbyte; clear hbyte
      go_wp2_with (at_builtin; refine wpList_append_dst _ rfl (.tmp 21) (.tmp 24) 37 37 rfl w.heap.size 5 i0 Tryd.underlying37 hi0 hz0 hz1 hz2 A' m' c' l' rfl (hd.alloc _) _ 1 [UInt8.ofNat gk] rfl ((one_sl _ _ HBY.out).src Tryd.underlying37) HBD.out (by simp; have := hbel.size; omega) ?_; intro A2 c2 w2 h1 h2 h3 h4 h5)
      go_ret
      refine ⟨A2, m' + 1, c2, rfl, ?_, (hbel.alloc hbel.size _).trans h4⟩
      have h6 := h2 (by omega)
      rw [← num_lo (by omega), ← HT'.out, HT.out] at h6
      exact h6

/-! ### The reference's Num: it calls itself -/
end Go.Proofs.YtlkcnpmgafckoaaDoor

/-! ## PackBytes -/
namespace Go.Proofs.YtlkcnpmgafckoaaDoor
open Go.RowKit

set_option maxRecDepth 100000 in
set_option maxHeartbeats 400000 in
theorem packBytes_any (w : World) (A A' : Option Addr) (m c m' c' : Nat) (l b : List UInt8) (hs : Sl w w.heap.size A m c l) (hs' : Sl w w.heap.size A' m' c' b) (hb : l.length + b.length ≤ 900000) :
    Calls Tryd.prog 94 #[.slice A m c, .slice A' m' c'] w (Fresh w (l ++ byts b)) := by
  have hmax := hs'.max
  have hle := hs'.le
  unfold maxLen at hmax
  have hlen' := hs'.len
  have hm : m' ≤ 1000000 := by omega
  clear hmax hle
  obtain ⟨i0, hi0, hz0, hz1, hz2⟩ := info_parts u8_info
  have HL := Lib.hid hlen'; clear hlen'
  go_enter Tryd.func94, Tryd.ntmps94
  go_wp2_with fail
  refine (packNum_any w A m c l m' hs (by unfold two64; omega) (by omega)).mono ?_
  rintro e w' ⟨A2, n2, c2, rfl, hown, hbel⟩
  have hsl' : Sl w' w.heap.size A' m' c' b := hs'.below hbel (Nat.le_refl _)
  have hl2 := (Sl.of_own hown).len
  have h10 := num_len10 m' (by unfold two64; omega)
  have HBD : Hid (n2 + m' ≤ 140737488355328) := by show _ ≤ _; rw [List.length_append] at hl2; omega
  clear hl2 h10
  go_wp2_with (at_builtin; refine wpList_append_dst _ rfl (.tmp 9) (.tmp 10) 37 37 rfl w.heap.size 5 i0 Tryd.underlying37 hi0 hz0 hz1 hz2 A2 n2 c2 (l ++ num m') rfl (.inr hown) _ m' b rfl (hsl'.src Tryd.underlying37) HBD.out hbel.size ?_; intro A3 c3 w3 h1 h2 h3 h4 h5)
  go_ret
  refine ⟨A3, n2 + m', c3, rfl, ?_, hbel.trans h4⟩
  have h6 := h3 hown
  rw [List.append_assoc] at h6
  unfold byts
  rw [HL.out]
  exact h6

theorem own_none (w : World) : (w.alloc (.cells #[] 5)).ownsRow w.heap.size 5 1 (.slice (some ⟨w.heap.size, 0, none⟩) 0 0) 0 (cbs []) :=
  ⟨rfl, .inr ⟨w.heap.size, 0, _, rfl, Nat.le_refl _, heap_alloc_new w _, Nat.le_refl _, by unfold maxLen; omega, rfl, rfl⟩⟩
theorem eqIn_nil (w : World) (d : Nat) (a : Option Addr) (l c : Nat) : (Op.equalIn (d + 1) 37 (.slice a l c) (.slice none 0 0)).run Tryd.prog w = .ok a.isNone w := by
  cases a <;> simp [Op.equalIn, run_underlying Tryd.underlying37]
theorem eql_nil (w : World) (a : Option Addr) (l c : Nat) : (binOp .eql 37 (.slice a l c) (.slice none 0 0)).run Tryd.prog w = .ok (.bool a.isNone) w := by
  have h : (Op.equal 37 (.slice a l c) (.slice none 0 0)).run Tryd.prog w = .ok a.isNone w := eqIn_nil w 9999 a l c
  simp [binOp, h]

set_option maxHeartbeats 400000 in
theorem clone_any (w : World) (A : Option Addr) (n c : Nat) (l : List UInt8) (hs : Sl w w.heap.size A n c l) (hb : l.length ≤ 2000000) :
    Calls Tryd.prog 66 #[.slice A n c] w (Fresh w l) := by
  obtain ⟨i0, hi0, hz0, hz1, hz2⟩ := info_parts u8_info
  have HBD : Hid (0 + n ≤ 140737488355328) := by show _ ≤ _; have := hs.len; omega
  rcases A with _ | ad
  · have hn : n = 0 := by
      rcases Nat.eq_zero_or_pos n with h | h
      · exact h
      · obtain ⟨b, o, h1, _⟩ := hs.cell h
        cases h1
    subst hn
    have hl : l = [] := List.eq_nil_of_length_eq_zero hs.len
    subst hl
    have hq := eql_nil w none 0 c
    go_enter Tryd.func66, Tryd.ntmps66
    go_wp2_with fail
    go_ret
    exact ⟨none, 0, 0, rfl, ⟨rfl, .inl ⟨rfl, rfl⟩⟩, Below.refl _ _⟩
  · have hq := eql_nil w (some ad) n c
    go_enter Tryd.func66, Tryd.ntmps66
    go_wp2_with (at_builtin; refine wpList_append_dst _ rfl (.tmp 5) (.tmp 6) 37 37 rfl w.heap.size 5 i0 Tryd.underlying37 hi0 hz0 hz1 hz2 _ 0 0 [] rfl (.inr (own_none w)) _ n l rfl ((hs.alloc (Nat.le_refl _) _).src Tryd.underlying37) HBD.out (by simp) ?_; intro A3 c3 w3 h1 h2 h3 h4 h5)
    go_ret
    exact ⟨A3, 0 + n, c3, by simp, h3 (own_none w), ((Below.refl _ w).alloc (Nat.le_refl _) _).trans h4⟩
end Go.Proofs.YtlkcnpmgafckoaaDoor

/-! ## PackRead -/
namespace Go.Proofs.YtlkcnpmgafckoaaDoor
open Go.RowKit

def Triple (w : World) (v s e : Nat) (en : Ending) (w' : World) : Prop :=
  en = .returned (.tuple #[.int .u64 (v : Int), .int .i64 (s : Int), .int .i64 (e : Int)]) ∧ w = w'

theorem drop_at {l : List UInt8} {j : Nat} {x : UInt8} (h : l[j]? = some x) : l.drop j = x :: l.drop (j + 1) := by
  obtain ⟨hl, hx⟩ := List.getElem?_eq_some_iff.1 h
  rw [List.drop_eq_getElem_cons hl, hx]
theorem ret3 {u v x : Value} {u' v' x' : Value} (h1 : u = u') (h2 : v = v') (h3 : x = x') : Ending.returned (.tuple #[u, v, x]) = .returned (.tuple #[u', v', x']) := by rw [h1, h2, h3]
theorem andNot_all : ∀ m : Fin 256, bits .andNot .u8 (m.val : Int) 128 = ((m.val % 128 : Nat) : Int) := by decide +kernel
theorem acc_step (a j x : Nat) (ha : a < 128 ^ j) (hj : j ≤ 9) (hx : x < 256) (h9 : j = 9 → x ≤ 1) :
    bits .or .u64 (a : Int) (IntKind.u64.wrap (IntKind.u64.wrap (bits .andNot .u8 (x : Int) 128) * 2 ^ (7 * j))) = ((a + x % 128 * 128 ^ j : Nat) : Int) := by
  have h1 : bits .andNot .u8 (x : Int) 128 = ((x % 128 : Nat) : Int) := andNot_all ⟨x, hx⟩
  have hp : (2 : Int) ^ (7 * j) = ((128 ^ j : Nat) : Int) := by rw [Int.pow_mul]; simp
  have hpn : (2 : Nat) ^ (7 * j) = 128 ^ j := by rw [Nat.pow_mul]
  have hbd : x % 128 * 128 ^ j < 18446744073709551616 ∧ 128 ^ j ≤ 9223372036854775808 := by
    rcases Nat.lt_or_ge j 9 with h | h
    · have h2 : (128 : Nat) ^ j ≤ 128 ^ 8 := Nat.pow_le_pow_right (by omega) (by omega)
      have h3 : x % 128 ≤ 127 := by omega
      have h4 := Nat.mul_le_mul_right (128 ^ j) h3
      omega
    · have : j = 9 := by omega
      subst this
      have h3 : x % 128 ≤ 1 := by have := h9 rfl; omega
      have h4 := Nat.mul_le_mul_right (128 ^ 9) h3
      omega
  have hw1 : IntKind.u64.wrap ((x % 128 : Nat) : Int) = ((x % 128 : Nat) : Int) := by rw [IntKind.wrap_u64]; omega
  have hw2 : IntKind.u64.wrap (((x % 128 : Nat) : Int) * ((128 ^ j : Nat) : Int)) = ((x % 128 * 128 ^ j : Nat) : Int) := by
    rw [← Int.natCast_mul, IntKind.wrap_u64]; omega
  rw [h1, hw1, hp, hw2, u64_or_nat a (x % 128 * 128 ^ j) (by omega) hbd.1]
  congr 1
  rw [Nat.or_comm, ← hpn, nat_join (7 * j) _ a (by rw [Nat.mul_mod_left]) (by rw [hpn]; exact ha), Nat.add_comm]

def ReadRel (l : List UInt8) (n : Nat) (k : Nat) (acc i : Value) (w wr : World) : Prop :=
  ∃ (j a : Nat), k + j = n ∧ j ≤ 9 ∧ i = .int .i64 (j : Int) ∧ acc = .int .u64 (a : Int) ∧ a < 128 ^ j ∧ rd l = rdGo j a (l.drop j) ∧ w = wr

set_option maxRecDepth 100000 in
set_option maxHeartbeats 400000 in
theorem number_any (w : World) (B : Nat) (A : Option Addr) (n c : Nat) (l : List UInt8) (v s e : Nat) (hs : Sl w B A n c l) (hr : rd l = (v, s, e)) (hb : l.length ≤ 2000000) :
    Calls Tryd.prog 86 #[.slice A n c] w (Triple w v s e) := by
  have hlen := hs.len
  have hn : n ≤ 2000000 := by omega
  have HL := Lib.hid hlen; clear hlen hb
  have HR := Lib.hid hr; clear hr
  have HS := Lib.hid hs; clear hs
  go_enter Tryd.func86, Tryd.ntmps86
  go_wp2
  go_loopg [5, 10] n (fun k acc i wr => ReadRel l n k acc i w wr)
  case atStart => exact ⟨0, 0, by omega, by omega, rfl, rfl, by simp, rfl, rfl⟩
  case round =>
    obtain ⟨j, a, hj, hj9, rfl, rfl, ha, hrd, rfl⟩ := hrel
    have HJ := Lib.hid hj; clear hj
    have HA := Lib.hid ha; clear ha
    have HRD := Lib.hid hrd; clear hrd
    by_cases hlt : j < n
    · obtain ⟨b, o, x, rfl, _, hx, hc⟩ := HS.out.at_ hlt
      have HX := Lib.hid hx; clear hx
      have hx8 := x.toNat_lt
      have hdrop : l.drop j = x :: l.drop (j + 1) := drop_at HX.out
      have HD := Lib.hid hdrop; clear hdrop
      by_cases h9 : j = 9 ∧ 1 < x.toNat
      · obtain ⟨h9, h1⟩ := h9
        subst h9
        have hfin : (v, s, e) = (0, 0, 7) := by rw [← HR.out, HRD.out, HD.out]; simp [rdGo, h1]
        have HF := Lib.hid hfin; clear hfin
        go_wp2
        go_ret3
        have hf := HF.out
        simp only [Prod.mk.injEq] at hf
        obtain ⟨rfl, rfl, rfl⟩ := hf
        exact ⟨rfl, rfl⟩
      · have HST : Hid (Value.int .u64 (bits .or .u64 (a : Int) (IntKind.u64.wrap (IntKind.u64.wrap (bits .andNot .u8 (x.toNat : Int) 128) * 2 ^ (7 * j)))) = Value.int .u64 ((a + x.toNat % 128 * 128 ^ j : Nat) : Int)) := by
          show _ = _
          rw [acc_step a j x.toNat HA.out hj9 (by omega) (by omega)]
        by_cases h128 : 128 ≤ x.toNat
        · have hj9' : j < 9 := by omega
          have hq9 : ((j : Int) == 9) = false := by simp; omega
          have HF : Hid (rd l = rdGo (j + 1) (a + x.toNat % 128 * 128 ^ j) (l.drop (j + 1))) := by
            show _ = _
            rw [HRD.out, HD.out]
            simp only [rdGo]
            rw [if_neg h9, if_pos h128]
          clear h9
          go_wp2
          go_roundg (gk - 1)
          case measure => have := HJ.out; omega
          case rel =>
            refine ⟨j + 1, a + x.toNat % 128 * 128 ^ j, by have := HJ.out; omega, by omega, by go_num, HST.out, ?_, HF.out, rfl⟩
            have h1 := HA.out
            have h2 : x.toNat % 128 ≤ 127 := by omega
            have h3 := Nat.mul_le_mul_right (128 ^ j) h2
            rw [Nat.pow_succ]
            omega
        · by_cases h0 : x.toNat = 0 ∧ 0 < j
          · obtain ⟨h0, hj0⟩ := h0
            have hfin : (v, s, e) = (0, 0, 2) := by rw [← HR.out, HRD.out, HD.out]; simp [rdGo, h0, hj0]
            have HF := Lib.hid hfin; clear hfin
            have hx0 : ((x.toNat : Int) == 0) = true := by simp; omega
            have H0 := Lib.hid h0; clear h0 h9
            by_cases hj9' : j = 9
            · subst hj9'
              have hx1 : ¬ (1 : Int) < (x.toNat : Int) := by have := H0.out; omega
              go_wp2
              go_ret3
              have hf := HF.out
              simp only [Prod.mk.injEq] at hf
              obtain ⟨rfl, rfl, rfl⟩ := hf
              exact ⟨rfl, rfl⟩
            · have hq9 : ((j : Int) == 9) = false := by simp; omega
              go_wp2
              go_ret3
              have hf := HF.out
              simp only [Prod.mk.injEq] at hf
              obtain ⟨rfl, rfl, rfl⟩ := hf
              exact ⟨rfl, rfl⟩
          · have hfin : (v, s, e) = (a + x.toNat % 128 * 128 ^ j, j + 1, 0) := by
              rw [← HR.out, HRD.out, HD.out]
              simp only [rdGo]
              rw [if_neg h9, if_neg h128, if_neg h0]
            have HF := Lib.hid hfin; clear hfin
            have H9 := Lib.hid h9; clear h9
            have H0 := Lib.hid h0; clear h0
            by_cases hj9' : j = 9
            · subst hj9'
              have hx1 : ¬ (1 : Int) < (x.toNat : Int) := by have := H9.out; omega
              have hx0 : ((x.toNat : Int) == 0) = false := by have := H0.out; simp; omega
              go_wp2
              go_ret3
              have hf := HF.out
              simp only [Prod.mk.injEq] at hf
              obtain ⟨rfl, rfl, rfl⟩ := hf
              exact ⟨ret3 HST.out rfl rfl, rfl⟩
            · have hq9 : ((j : Int) == 9) = false := by simp; omega
              by_cases hx0' : x.toNat = 0
              · have hj00 : ¬ (0 : Int) < (j : Int) := by have := H0.out; omega
                have hx0 : ((x.toNat : Int) == 0) = true := by simp; omega
                have HX0 := Lib.hid hx0'; clear hx0'
                go_wp2
                go_ret3
                have hf := HF.out
                simp only [Prod.mk.injEq] at hf
                obtain ⟨rfl, rfl, rfl⟩ := hf
                exact ⟨ret3 HST.out rfl (by go_num), rfl⟩
              · have hx0 : ((x.toNat : Int) == 0) = false := by simp; omega
                go_wp2
                go_ret3
                have hf := HF.out
                simp only [Prod.mk.injEq] at hf
                obtain ⟨rfl, rfl, rfl⟩ := hf
                exact ⟨ret3 HST.out rfl (by go_num), rfl⟩
    · have hfin : (v, s, e) = (0, 0, 2) := by
        rw [← HR.out, HRD.out, List.drop_eq_nil_of_le (by have := HL.out; omega)]; simp [rdGo]
      have HF := Lib.hid hfin; clear hfin
      go_wp2
      go_ret3
      have hf := HF.out
      simp only [Prod.mk.injEq] at hf
      obtain ⟨rfl, rfl, rfl⟩ := hf
      exact ⟨rfl, rfl⟩
end Go.Proofs.YtlkcnpmgafckoaaDoor

/-! ## PackIn -/
namespace Go.Proofs.YtlkcnpmgafckoaaDoor
open Go.RowKit

/-- A reader in block g: what is left to read (below g), the error. -/
structure InAt (w : World) (g : Nat) (A : Option Addr) (n c : Nat) (er : Nat) (l : List UInt8) : Prop where
  blk : w.heap[g]? = some (.cells #[.slice A n c, .int .i64 (er : Int)] 112 (0, 0))
  sl : Sl w g A n c l
  small : l.length ≤ 2000000

section
variable {w w' : World} {g : Nat} {A : Option Addr} {n c er : Nat} {l : List UInt8}
theorem InAt.lt (h : InAt w g A n c er l) : g < w.heap.size := (Array.getElem?_eq_some_iff.1 h.blk).1
theorem InAt.cell0 (h : InAt w g A n c er l) : w.cell? ⟨g, 0, none⟩ = some (.slice A n c) := by rw [cell_of_row w g 0 _ _ _ h.blk]; rfl
theorem InAt.cell1 (h : InAt w g A n c er l) : w.cell? ⟨g, 1, none⟩ = some (.int .i64 (er : Int)) := by rw [cell_of_row w g 1 _ _ _ h.blk]; rfl
theorem InAt.frz (h : InAt w g A n c er l) (i : Nat) : w.frozen? ⟨g, i, none⟩ = false := by simp [World.frozen?, h.blk]
theorem InAt.drewN (h : InAt w g A n c er l) (k : Nat) : InAt (w.drewN k) g A n c er l := ⟨h.blk, h.sl.drewN k, h.small⟩
theorem InAt.kept {row : Option Nat} (h : InAt w g A n c er l) (hg : w.grownBy w' row) (hr : ∀ k, row = some k → g < k) : InAt w' g A n c er l := by
  have hb : ∀ k, k ≤ g → w'.heap[k]? = w.heap[k]? := fun k hk => hg.block k (Nat.lt_of_le_of_lt hk h.lt) (fun e => by have := hr k e.symm; omega)
  exact ⟨(hb g (Nat.le_refl _)).trans h.blk, h.sl.keep fun b o hbg => World.cell?_of_block (a := ⟨b, o, none⟩) (hb b (by omega)), h.small⟩
theorem InAt.below {B : Nat} (h : InAt w g A n c er l) (hb : Below B w w') (hB : g < B) : InAt w' g A n c er l :=
  ⟨(hb.block g hB).trans h.blk, h.sl.below hb (by omega), h.small⟩
theorem InAt.setErr (h : InAt w g A n c er l) (e : Nat) : InAt (w.setCell ⟨g, 1, none⟩ (.int .i64 (e : Int))) g A n c e l := by
  refine ⟨?_, h.sl.setCell (p := ⟨g, 1, none⟩) (Nat.le_refl _) _, h.small⟩
  have hb := h.blk
  simp [World.setCell, Array.getElem?_modify, hb]
theorem InAt.setRest (h : InAt w g A n c er l) {A' : Option Addr} {n' c' : Nat} {l' : List UInt8} (hs : Sl w g A' n' c' l') (hl : l'.length ≤ 2000000) : InAt (w.setCell ⟨g, 0, none⟩ (.slice A' n' c')) g A' n' c' er l' := by
  refine ⟨?_, hs.setCell (p := ⟨g, 0, none⟩) (Nat.le_refl _) _, hl⟩
  have hb := h.blk
  simp [World.setCell, Array.getElem?_modify, hb]
theorem only_set (w : World) (g i : Nat) (u : Value) : w.grownBy (w.setCell ⟨g, i, none⟩ u) (some g) :=
  ⟨rfl, rfl, rfl, by simp [World.setCell], fun k _ hne => Below.heap_setCell w ⟨g, i, none⟩ u k (fun e => hne (by rw [e]))⟩
theorem only_refl (w : World) (row : Option Nat) : w.grownBy w row := ⟨rfl, rfl, rfl, Nat.le_refl _, fun _ _ _ => rfl⟩
theorem only_trans {a b c : World} {row : Option Nat} (h : a.grownBy b row) (k : b.grownBy c row) : a.grownBy c row :=
  ⟨k.os.trans h.os, k.tape.trans h.tape, k.output.trans h.output, Nat.le_trans h.size k.size, fun i hi hne => (k.block i (Nat.lt_of_lt_of_le hi h.size) hne).trans (h.block i hi hne)⟩
theorem only_below {a b : World} (h : Below a.heap.size a b) (row : Option Nat) : a.grownBy b row := ⟨h.os, h.tape, h.output, h.size, fun i hi _ => h.block i hi⟩
theorem only_drewN {a w : World} {row : Option Nat} (h : a.grownBy w row) (n : Nat) : a.grownBy (w.drewN n) row := ⟨h.os, h.tape, h.output, h.size, h.block⟩
end

/-! ### judge -/
set_option maxRecDepth 100000 in
set_option maxHeartbeats 400000 in
theorem judge_any (w : World) (v : Nat) (most : Int) (left : Nat) (hv : v < two64) (hm : IntKind.u64.wrap most = most ∨ most < 0) (hl : left ≤ 2000000) :
    Calls Tryd.prog 96 #[.int .u64 (v : Int), .int .i64 most, .int .i64 (left : Int)] w fun e w' => e = .returned (.int .i64 (judgeN v most left : Nat)) ∧ w = w' := by
  have HV := Lib.hid hv; clear hv
  by_cases h1 : most < 0
  · have hj : judgeN v most left = 6 := by unfold judgeN; rw [if_pos (.inl h1)]
    rw [hj]
    clear hm hj
    go_enter Tryd.func96, Tryd.ntmps96
    go_wp2
    go_ret
    exact ⟨rfl, rfl⟩
  · have hm' : IntKind.u64.wrap most = most := hm.resolve_right h1
    by_cases h2 : most < (v : Int)
    · have hj : judgeN v most left = 6 := by unfold judgeN; rw [if_pos (.inr h2)]
      rw [hj]
      clear hm hj
      go_enter Tryd.func96, Tryd.ntmps96
      go_wp2
      go_ret
      exact ⟨rfl, rfl⟩
    · by_cases h3 : left < v
      · have hj : judgeN v most left = 2 := by unfold judgeN; rw [if_neg (by omega), if_pos h3]
        rw [hj]
        clear hm hj
        go_enter Tryd.func96, Tryd.ntmps96
        go_wp2
        go_ret
        exact ⟨rfl, rfl⟩
      · have hj : judgeN v most left = 0 := by unfold judgeN; rw [if_neg (by omega), if_neg h3]
        rw [hj]
        clear hm hj
        go_enter Tryd.func96, Tryd.ntmps96
        go_wp2
        go_ret
        exact ⟨rfl, rfl⟩

/-! ### The short ones -/
set_option maxHeartbeats 400000 in
theorem reads_yes {w : World} {g : Nat} {A : Option Addr} {n c : Nat} {l : List UInt8} (h : InAt w g A n c 0 l) :
    Calls Tryd.prog 84 #[.pointer (some ⟨g, 0, none⟩)] w fun e w' => e = .returned (.bool true) ∧ w = w' := by
  have hc := h.cell1
  clear h
  go_enter Tryd.func84, Tryd.ntmps84
  go_wp2
  go_ret
  exact ⟨rfl, rfl⟩
set_option maxHeartbeats 400000 in
theorem reads_no {w : World} {g : Nat} {A : Option Addr} {n c er : Nat} {l : List UInt8} (h : InAt w g A n c er l) (he : er ≠ 0) :
    Calls Tryd.prog 84 #[.pointer (some ⟨g, 0, none⟩)] w fun e w' => e = .returned (.bool false) ∧ w = w' := by
  have hc := h.cell1
  have hq : ((er : Int) == 0) = false := by simp; omega
  clear h he
  go_enter Tryd.func84, Tryd.ntmps84
  go_wp2
  go_ret
  exact ⟨rfl, rfl⟩
set_option maxHeartbeats 400000 in
theorem err_any {w : World} {g : Nat} {A : Option Addr} {n c er : Nat} {l : List UInt8} (h : InAt w g A n c er l) :
    Calls Tryd.prog 72 #[.pointer (some ⟨g, 0, none⟩)] w fun e w' => e = .returned (.int .i64 (er : Int)) ∧ w = w' := by
  have hc := h.cell1
  clear h
  go_enter Tryd.func72, Tryd.ntmps72
  go_wp2
  go_ret
  exact ⟨rfl, rfl⟩
set_option maxHeartbeats 400000 in
theorem left_any {w : World} {g : Nat} {A : Option Addr} {n c er : Nat} {l : List UInt8} (h : InAt w g A n c er l) :
    Calls Tryd.prog 71 #[.pointer (some ⟨g, 0, none⟩)] w fun e w' => e = .returned (.int .i64 (n : Int)) ∧ w = w' := by
  have hc := h.cell0
  clear h
  go_enter Tryd.func71, Tryd.ntmps71
  go_wp2
  go_ret
  exact ⟨rfl, rfl⟩
/-! ### take -/
def Took (w : World) (g : Nat) (k : Nat) (l : List UInt8) (er : Nat) (e : Ending) (w' : World) : Prop :=
  ∃ A1 c1 A2 n2 c2, e = .returned (.slice A1 k c1) ∧ Sl w' g A1 k c1 (l.take k) ∧ InAt w' g A2 n2 c2 er (l.drop k) ∧ w.grownBy w' (some g)
set_option maxHeartbeats 400000 in
theorem take_any {w : World} {g : Nat} {A : Option Addr} {n c er : Nat} {l : List UInt8} (h : InAt w g A n c er l) (k : Nat) (hk : k ≤ l.length) :
    Calls Tryd.prog 85 #[.pointer (some ⟨g, 0, none⟩), .int .i64 (k : Int)] w (Took w g k l er) := by
  have hc := h.cell0
  have hf := h.frz 0
  have hln := h.sl.len
  have hkn : k ≤ n := by omega
  have hle := h.sl.le
  have hmax := h.sl.max
  unfold maxLen at hmax
  have ht := h.sl.take (k := k) (m := c) hkn (by omega) (Nat.le_refl _)
  have hd := h.sl.drop (k := k) hkn
  have HI := Lib.hid h; clear h
  have HLN := Lib.hid hln; clear hln hk
  have hsm : (l.drop k).length ≤ 2000000 := by have := HI.out.small; rw [List.length_drop]; omega
  by_cases hck : c = k
  · subst hck
    rw [if_pos rfl, Nat.sub_self, show n - c = 0 from by omega] at hd
    go_enter Tryd.func85, Tryd.ntmps85
    go_wp2
    go_ret
    exact ⟨A, c, _, _, _, rfl, ht.setCell (p := ⟨g, 0, none⟩) (Nat.le_refl _) _, HI.out.setRest hd hsm, only_set w g 0 _⟩
  · rw [if_neg hck] at hd
    go_enter Tryd.func85, Tryd.ntmps85
    go_wp2
    go_ret
    exact ⟨A, c, _, _, _, rfl, ht.setCell (p := ⟨g, 0, none⟩) (Nat.le_refl _) _, HI.out.setRest hd hsm, only_set w g 0 _⟩

/-! ### Num, Byte, Bytes -/
/-- A number is handed back; the reader has gone on to l', with the error er'. -/
def Told (w : World) (g : Nat) (v : Value) (l' : List UInt8) (er' : Nat) (e : Ending) (w' : World) : Prop :=
  ∃ A n c, e = .returned v ∧ InAt w' g A n c er' l' ∧ w.grownBy w' (some g)

set_option maxHeartbeats 400000 in
theorem inNum_any {w : World} {g : Nat} {A : Option Addr} {n c er : Nat} {l : List UInt8} (h : InAt w g A n c er l) :
    Calls Tryd.prog 70 #[.pointer (some ⟨g, 0, none⟩)] w (Told w g (.int .u64 ((stNum l er).1 : Nat)) (stNum l er).2.1 (stNum l er).2.2) := by
  by_cases her : er = 0
  · subst her
    obtain ⟨⟨v, s, e⟩, hr⟩ : ∃ x, rd l = x := ⟨_, rfl⟩
    have hbd := rd_bd hr
    have hc := h.cell0
    have hf := h.frz 1
    have hc1 := h.cell1
    by_cases he : e = 0
    · subst he
      have hst : stNum l 0 = (v, l.drop s, 0) := by simp [stNum, hr]
      rw [hst]
      have HB := Lib.hid hbd
      have HR := Lib.hid hr
      have HI := Lib.hid h
      clear hst hbd hr h
      go_enter Tryd.func70, Tryd.ntmps70
      go_wp2_with fail
      refine (reads_yes HI.out).mono ?_
      rintro e w' ⟨rfl, rfl⟩
      go_wp2_with fail
      refine (number_any w g A n c l v s 0 HI.out.sl HR.out HI.out.small).mono ?_
      rintro e w' ⟨rfl, rfl⟩
      go_wp2_with fail
      refine (take_any HI.out s HB.out.2.1).mono ?_
      rintro e w' ⟨A1, c1, A2, n2, c2, rfl, _, hin, hg⟩
      go_wp2
      go_ret
      exact ⟨A2, n2, c2, rfl, hin, hg⟩
    · have hst : stNum l 0 = (0, l, e) := by simp [stNum, hr, he]
      rw [hst]
      have HR := Lib.hid hr
      have HI := Lib.hid h
      have hne : ((e : Int) != 0) = true := by simp; omega
      clear hst hbd hr h he
      go_enter Tryd.func70, Tryd.ntmps70
      go_wp2_with fail
      refine (reads_yes HI.out).mono ?_
      rintro e w' ⟨rfl, rfl⟩
      go_wp2_with fail
      refine (number_any w g A n c l v s _ HI.out.sl HR.out HI.out.small).mono ?_
      rintro e w' ⟨rfl, rfl⟩
      go_wp2
      go_ret
      exact ⟨A, n, c, rfl, HI.out.setErr _, only_set w g 1 _⟩
  · have hst : stNum l er = (0, l, er) := by simp [stNum, her]
    rw [hst]
    have HI := Lib.hid h
    clear hst h
    go_enter Tryd.func70, Tryd.ntmps70
    go_wp2_with fail
    refine (reads_no HI.out her).mono ?_
    rintro e w' ⟨rfl, rfl⟩
    go_wp2
    go_ret
    exact ⟨A, n, c, rfl, HI.out, only_refl _ _⟩

/-- Bytes are handed back, in a new row; the reader has gone on. -/
def ToldRow (w : World) (g : Nat) (b : List UInt8) (l' : List UInt8) (er' : Nat) (e : Ending) (w' : World) : Prop :=
  ∃ A n c A1 n1 c1, e = .returned (.slice A1 n1 c1) ∧ w'.ownsRow w.heap.size 5 1 (.slice A1 n1 c1) n1 (cbs b) ∧ InAt w' g A n c er' l' ∧ w.grownBy w' (some g)

theorem own_nil (w : World) (base : Nat) : w.ownsRow base 5 1 (.slice none 0 0) 0 (cbs []) := ⟨rfl, .inl ⟨rfl, rfl⟩⟩

theorem own_lower {w : World} {base base' : Nat} {v : Value} {n : Nat} {xs : List Value} (h : w.ownsRow base 5 1 v n xs) (hb : base' ≤ base) : w.ownsRow base' 5 1 v n xs := by
  refine ⟨h.1, ?_⟩
  rcases h.2 with hn | ⟨g, cap, cur, hv, hbg, rest⟩
  · exact .inl hn
  · exact .inr ⟨g, cap, cur, hv, Nat.le_trans hb hbg, rest⟩
set_option maxRecDepth 100000 in
set_option maxHeartbeats 400000 in
theorem inBytes_any {w : World} {g : Nat} {A : Option Addr} {n c er : Nat} {l : List UInt8} (h : InAt w g A n c er l) (most : Int) (hm : IntKind.u64.wrap most = most ∨ most < 0) :
    Calls Tryd.prog 95 #[.pointer (some ⟨g, 0, none⟩), .int .i64 most] w (ToldRow w g (stBytes l er most).1 (stBytes l er most).2.1 (stBytes l er most).2.2) := by
  have HM := Lib.hid hm; clear hm
  by_cases her : er = 0
  · subst her
    obtain ⟨⟨v, s, e⟩, hr⟩ : ∃ x, rd l = x := ⟨_, rfl⟩
    have hbd := rd_bd hr
    have hc := h.cell0
    have hf := h.frz 1
    have hc1 := h.cell1
    have hln := h.sl.len
    have hsm := h.small
    by_cases he : e = 0
    · subst he
      have hsn : s ≤ n := by omega
      have hn2 : n ≤ 2000000 := by omega
      have hsub : ((n : Int) - (s : Int)) = ((n - s : Nat) : Int) := by omega
      have HSUB := Lib.hid hsub; clear hsub
      obtain ⟨jv, hjv⟩ : ∃ jv, judgeN v most (l.length - s) = jv := ⟨_, rfl⟩
      by_cases hj : jv = 0
      · subst hj
        have hst : stBytes l 0 most = ((l.drop s).take v, l.drop (s + v), 0) := by simp [stBytes, hr, hjv]
        have hv : v ≤ (l.drop s).length := by
          rw [List.length_drop]
          unfold judgeN at hjv
          by_cases h1 : most < 0 ∨ most < (v : Int)
          · rw [if_pos h1] at hjv; omega
          · rw [if_neg h1] at hjv
            by_cases h2 : l.length - s < v
            · rw [if_pos h2] at hjv; omega
            · omega
        rw [hst]
        rw [hln] at hjv
        have hvn : v ≤ n - s := by rw [List.length_drop] at hv; omega
        have HV := Lib.hid hv
        have HB := Lib.hid hbd
        have HR := Lib.hid hr
        have HI := Lib.hid h
        have HJ := Lib.hid hjv
        clear hst hbd hr h hjv hln hsm hv
        go_enter Tryd.func95, Tryd.ntmps95
        go_wp2_with fail
        refine (reads_yes HI.out).mono ?_
        rintro e w' ⟨rfl, rfl⟩
        go_wp2_with fail
        refine (number_any w g A n c l v s 0 HI.out.sl HR.out HI.out.small).mono ?_
        rintro e w' ⟨rfl, rfl⟩
        go_wp2_with fail
        rw [HSUB.out]
        refine (judge_any w v most (n - s) HB.out.1 HM.out (by omega)).mono ?_
        rintro e w' ⟨rfl, rfl⟩
        rw [HJ.out]
        go_wp2_with fail
        refine (take_any HI.out s HB.out.2.1).mono ?_
        rintro e w' ⟨A1, c1, A2, n2, c2, rfl, _, hin, hg⟩
        go_wp2_with fail
        refine (take_any hin v HV.out).mono ?_
        rintro e w2 ⟨A3, c3, A4, n4, c4, rfl, hsl, hin2, hg2⟩
        clear hc hf hc1
        go_wp2_with fail
        refine (clone_any w2 A3 v c3 ((l.drop s).take v) (hsl.more (Nat.le_of_lt hin2.lt)) ?_).mono ?_
        · have := HV.out; rw [List.length_take]; omega
        rintro e w3 ⟨A5, n5, c5, rfl, hown, hbel⟩
        go_wp2
        go_ret
        refine ⟨A4, n4, c4, A5, n5, c5, rfl, own_lower hown (Nat.le_trans hg.size hg2.size), ?_, only_trans (only_trans hg hg2) (only_below hbel _)⟩
        have hin3 := hin2.below hbel hin2.lt
        rw [List.drop_drop] at hin3
        exact hin3
      · have hst : stBytes l 0 most = ([], l, jv) := by simp [stBytes, hr, hjv, hj]
        rw [hst]
        rw [hln] at hjv
        have hne : ((jv : Int) != 0) = true := by simp; omega
        have HB := Lib.hid hbd
        have HR := Lib.hid hr
        have HI := Lib.hid h
        have HJ := Lib.hid hjv
        clear hst hbd hr h hjv hln hsm hj
        go_enter Tryd.func95, Tryd.ntmps95
        go_wp2_with fail
        refine (reads_yes HI.out).mono ?_
        rintro e w' ⟨rfl, rfl⟩
        go_wp2_with fail
        refine (number_any w g A n c l v s 0 HI.out.sl HR.out HI.out.small).mono ?_
        rintro e w' ⟨rfl, rfl⟩
        go_wp2_with fail
        rw [HSUB.out]
        refine (judge_any w v most (n - s) HB.out.1 HM.out (by omega)).mono ?_
        rintro e w' ⟨rfl, rfl⟩
        rw [HJ.out]
        go_wp2
        go_ret
        exact ⟨A, n, c, none, 0, 0, rfl, own_nil _ _, HI.out.setErr _, only_set w g 1 _⟩
    · have hst : stBytes l 0 most = ([], l, e) := by simp [stBytes, hr, he]
      rw [hst]
      have HR := Lib.hid hr
      have HI := Lib.hid h
      have hne : ((e : Int) != 0) = true := by simp; omega
      have hne' : ((e : Int) == 0) = false := by simp; omega
      clear hst hbd hr h he hln hsm
      go_enter Tryd.func95, Tryd.ntmps95
      go_wp2_with fail
      refine (reads_yes HI.out).mono ?_
      rintro e w' ⟨rfl, rfl⟩
      go_wp2_with fail
      refine (number_any w g A n c l v s _ HI.out.sl HR.out HI.out.small).mono ?_
      rintro e w' ⟨rfl, rfl⟩
      go_wp2
      go_ret
      exact ⟨A, n, c, none, 0, 0, rfl, own_nil _ _, HI.out.setErr _, only_set w g 1 _⟩
  · have hst : stBytes l er most = ([], l, er) := by simp [stBytes, her]
    rw [hst]
    have HI := Lib.hid h
    clear hst h
    go_enter Tryd.func95, Tryd.ntmps95
    go_wp2_with fail
    refine (reads_no HI.out her).mono ?_
    rintro e w' ⟨rfl, rfl⟩
    go_wp2
    go_ret
    exact ⟨A, n, c, none, 0, 0, rfl, own_nil _ _, HI.out, only_refl _ _⟩

set_option maxHeartbeats 400000 in
theorem inByte_any {w : World} {g : Nat} {A : Option Addr} {n c er : Nat} {l : List UInt8} (h : InAt w g A n c er l) :
    Calls Tryd.prog 67 #[.pointer (some ⟨g, 0, none⟩)] w (Told w g (.int .u8 ((stByte l er).1 : Nat)) (stByte l er).2.1 (stByte l er).2.2) := by
  by_cases her : er = 0
  · subst her
    have hc := h.cell0
    have hf := h.frz 1
    have hc1 := h.cell1
    have hln := h.sl.len
    rcases l with _ | ⟨b, t⟩
    · have hn : n = 0 := by simpa using hln.symm
      subst hn
      have hst : stByte [] 0 = (0, [], 2) := by simp [stByte]
      rw [hst]
      have HI := Lib.hid h
      clear hst h hln
      go_enter Tryd.func67, Tryd.ntmps67
      go_wp2_with fail
      refine (reads_yes HI.out).mono ?_
      rintro e w' ⟨rfl, rfl⟩
      go_wp2
      go_ret
      exact ⟨A, 0, c, rfl, HI.out.setErr 2, only_set w g 1 _⟩
    · have hst : stByte (b :: t) 0 = (b.toNat, t, 0) := by simp [stByte]
      have hn : ((n : Int) == 0) = false := by simp at hln; simp; omega
      rw [hst]
      have HI := Lib.hid h
      clear hst h hln
      go_enter Tryd.func67, Tryd.ntmps67
      go_wp2_with fail
      refine (reads_yes HI.out).mono ?_
      rintro e w' ⟨rfl, rfl⟩
      go_wp2_with fail
      refine (take_any HI.out 1 (by simp)).mono ?_
      rintro e w' ⟨A1, c1, A2, n2, c2, rfl, hsl, hin, hg⟩
      obtain ⟨b', o', x, rfl, _, hx, hcell⟩ := hsl.at_ (k := 0) (by omega)
      have hxb : x = b := by simpa using hx.symm
      subst hxb
      simp only [Nat.add_zero] at hcell
      clear hc hf hc1 hx
      go_wp2
      go_ret
      exact ⟨A2, n2, c2, rfl, hin, hg⟩
  · have hst : stByte l er = (0, l, er) := by simp [stByte, her]
    rw [hst]
    have HI := Lib.hid h
    clear hst h
    go_enter Tryd.func67, Tryd.ntmps67
    go_wp2_with fail
    refine (reads_no HI.out her).mono ?_
    rintro e w' ⟨rfl, rfl⟩
    go_wp2
    go_ret
    exact ⟨A, n, c, rfl, HI.out, only_refl _ _⟩

/-! ### Fail, End, Of -/
def failN (er e : Nat) : Nat := if er = 0 then e else er
def endN (l : List UInt8) (er : Nat) : Nat := if 0 < l.length then failN er 2 else er
def Done (w : World) (g : Nat) (l' : List UInt8) (er' : Nat) (e : Ending) (w' : World) : Prop :=
  ∃ A n c, e = .returned (.tuple #[]) ∧ InAt w' g A n c er' l' ∧ w.grownBy w' (some g)
set_option maxHeartbeats 400000 in
theorem fail_any {w : World} {g : Nat} {A : Option Addr} {n c er : Nat} {l : List UInt8} (h : InAt w g A n c er l) (e : Nat) :
    Calls Tryd.prog 68 #[.pointer (some ⟨g, 0, none⟩), .int .i64 (e : Int)] w (Done w g l (failN er e)) := by
  by_cases her : er = 0
  · subst her
    have hst : failN 0 e = e := by simp [failN]
    rw [hst]
    have hf := h.frz 1
    have hc1 := h.cell1
    have HI := Lib.hid h
    clear hst h
    go_enter Tryd.func68, Tryd.ntmps68
    go_wp2_with fail
    refine (reads_yes HI.out).mono ?_
    rintro e w' ⟨rfl, rfl⟩
    go_wp2
    go_end0
    exact ⟨A, n, c, rfl, HI.out.setErr _, only_set w g 1 _⟩
  · have hst : failN er e = er := by simp [failN, her]
    rw [hst]
    have HI := Lib.hid h
    clear hst h
    go_enter Tryd.func68, Tryd.ntmps68
    go_wp2_with fail
    refine (reads_no HI.out her).mono ?_
    rintro e w' ⟨rfl, rfl⟩
    go_wp2
    go_end0
    exact ⟨A, n, c, rfl, HI.out, only_refl _ _⟩
end Go.Proofs.YtlkcnpmgafckoaaDoor

/-! ## PackEnd -/
namespace Go.Proofs.YtlkcnpmgafckoaaDoor
open Go.RowKit

set_option maxHeartbeats 400000 in
theorem end_any {w : World} {g : Nat} {A : Option Addr} {n c er : Nat} {l : List UInt8} (h : InAt w g A n c er l) :
    Calls Tryd.prog 40 #[.pointer (some ⟨g, 0, none⟩)] w (Told w g (.int .i64 (endN l er : Nat)) l (endN l er)) := by
  have hln := h.sl.len
  by_cases hl : 0 < n
  · have hst : endN l er = failN er 2 := by unfold endN; rw [if_pos (by omega)]
    rw [hst]
    have HI := Lib.hid h
    clear hst h hln
    have hl' : (0 : Int) < (n : Int) := by omega
    go_enter Tryd.func40, Tryd.ntmps40
    go_wp2_with fail
    refine (left_any HI.out).mono ?_
    rintro e w' ⟨rfl, rfl⟩
    go_wp2_with fail
    refine (fail_any HI.out 2).mono ?_
    rintro e w' ⟨A2, n2, c2, rfl, hin, hg⟩
    go_wp2_with fail
    refine (err_any hin).mono ?_
    rintro e w' ⟨rfl, rfl⟩
    go_wp2
    go_ret
    exact ⟨A2, n2, c2, rfl, hin, hg⟩
  · have hst : endN l er = er := by unfold endN; rw [if_neg (by omega)]
    rw [hst]
    have HI := Lib.hid h
    clear hst h hln
    have hl' : ¬ (0 : Int) < (n : Int) := by omega
    go_enter Tryd.func40, Tryd.ntmps40
    go_wp2_with fail
    refine (left_any HI.out).mono ?_
    rintro e w' ⟨rfl, rfl⟩
    go_wp2_with fail
    refine (err_any HI.out).mono ?_
    rintro e w' ⟨rfl, rfl⟩
    go_wp2
    go_ret
    exact ⟨A, n, c, rfl, HI.out, only_refl _ _⟩

/-- A new reader is handed back. -/
def Reader (w : World) (l : List UInt8) (e : Ending) (w' : World) : Prop :=
  ∃ g A n c, w.heap.size ≤ g ∧ e = .returned (.pointer (some ⟨g, 0, none⟩)) ∧ InAt w' g A n c 0 l ∧ Below w.heap.size w w'

set_option maxHeartbeats 400000 in
theorem of_any (w : World) (A : Option Addr) (n c : Nat) (l : List UInt8) (hs : Sl w w.heap.size A n c l) (hb : l.length ≤ 2000000) :
    Calls Tryd.prog 38 #[.slice A n c] w (Reader w l) := by
  go_enter Tryd.func38, Tryd.ntmps38
  go_wp2_with fail
  refine (clone_any w A n c l hs hb).mono ?_
  rintro e w' ⟨A1, n1, c1, rfl, hown, hbel⟩
  go_wp2
  go_ret
  have hsl := Sl.of_own hown
  refine ⟨w'.heap.size, A1, n1, c1, hbel.size, rfl, ⟨heap_alloc_new w' _, hsl.alloc (Nat.le_refl _) _, hb⟩, hbel.alloc hbel.size _⟩

end Go.Proofs.YtlkcnpmgafckoaaDoor

/-! ## ReadMath -/
namespace Go.Proofs.YtlkcnpmgafckoaaDoor

def hor : List UInt8 → Nat
  | [] => 0
  | b :: t => b.toNat % 128 + 128 * hor t
theorem hor_snoc (l : List UInt8) (x : UInt8) : hor (l ++ [x]) = hor l + x.toNat % 128 * 128 ^ l.length := by
  induction l with
  | nil => simp [hor]
  | cons b t ih =>
    rw [List.cons_append, hor, hor, ih, List.length_cons, Nat.pow_succ, Nat.mul_add, Nat.mul_comm (128 ^ t.length) 128, Nat.mul_left_comm 128]
    omega
theorem hor_take_succ {l : List UInt8} {j : Nat} {x : UInt8} (h : l[j]? = some x) : hor (l.take (j + 1)) = hor (l.take j) + x.toNat % 128 * 128 ^ j := by
  obtain ⟨hl, _⟩ := List.getElem?_eq_some_iff.1 h
  rw [take_snoc h, hor_snoc, List.length_take, Nat.min_eq_left (by omega)]
theorem drop_cons {l : List UInt8} {j : Nat} {x : UInt8} (h : l[j]? = some x) : l.drop j = x :: l.drop (j + 1) := by
  obtain ⟨hl, hx⟩ := List.getElem?_eq_some_iff.1 h
  rw [List.drop_eq_getElem_cons hl, hx]
/-- The first j bytes have their highest bit set. -/
def High (l : List UInt8) (j : Nat) : Prop := ∀ i x, i < j → l[i]? = some x → 128 ≤ x.toNat
theorem High.succ {l : List UInt8} {j : Nat} {x : UInt8} (h : High l j) (hx : l[j]? = some x) (h128 : 128 ≤ x.toNat) : High l (j + 1) := by
  intro i y hi hy
  by_cases e : i = j
  · subst e
    rw [hx] at hy
    injection hy with hy
    rw [← hy]
    exact h128
  · exact h i y (by omega) hy
theorem rd_skip (l : List UInt8) : ∀ j, j ≤ 9 → j ≤ l.length → High l j → rd l = rdGo j (hor (l.take j)) (l.drop j) := by
  intro j
  induction j with
  | zero => intro _ _ _; simp [rd, hor]
  | succ j ih =>
    intro h9 hl hh
    have h1 := ih (by omega) (by omega) (fun i x hi hx => hh i x (by omega) hx)
    have hx : l[j]? = some l[j] := List.getElem?_eq_getElem (by omega)
    have hb := hh j _ (by omega) hx
    rw [h1, drop_cons hx, hor_take_succ hx]
    simp only [rdGo]
    rw [if_neg (by omega), if_pos hb]
/-- How it ends. -/
theorem rd_none {l : List UInt8} {j : Nat} (h9 : j ≤ 9) (hl : j = l.length) (hh : High l j) : rd l = (0, 0, 2) := by
  rw [rd_skip l j h9 (by omega) hh, List.drop_eq_nil_of_le (by omega)]; rfl
theorem rd_over {l : List UInt8} {x : UInt8} (hx : l[9]? = some x) (h1 : 1 < x.toNat) (hh : High l 9) : rd l = (0, 0, 7) := by
  obtain ⟨hl, _⟩ := List.getElem?_eq_some_iff.1 hx
  rw [rd_skip l 9 (by omega) (by omega) hh, drop_cons hx]
  simp [rdGo, h1]
theorem rd_zero {l : List UInt8} {j : Nat} {x : UInt8} (h9 : j ≤ 9) (hx : l[j]? = some x) (h0 : x.toNat = 0) (hj : 0 < j) (hh : High l j) : rd l = (0, 0, 2) := by
  obtain ⟨hl, _⟩ := List.getElem?_eq_some_iff.1 hx
  rw [rd_skip l j h9 (by omega) hh, drop_cons hx]
  simp only [rdGo]
  rw [if_neg (by omega), if_neg (by omega), if_pos ⟨h0, hj⟩]
theorem rd_good {l : List UInt8} {j : Nat} {x : UInt8} (h9 : j ≤ 9) (hx : l[j]? = some x) (hlo : x.toNat < 128) (ho : ¬ (j = 9 ∧ 1 < x.toNat)) (h0 : ¬ (x.toNat = 0 ∧ 0 < j)) (hh : High l j) : rd l = (hor (l.take (j + 1)), j + 1, 0) := by
  obtain ⟨hl, _⟩ := List.getElem?_eq_some_iff.1 hx
  rw [rd_skip l j h9 (by omega) hh, drop_cons hx, hor_take_succ hx]
  simp only [rdGo]
  rw [if_neg ho, if_neg (by omega), if_neg h0]
theorem hor_drop (l : List UInt8) : ∀ k, hor (l.drop k) ≤ hor l := by
  induction l with
  | nil => intro k; simp
  | cons b t ih =>
    intro k
    rcases k with _ | k
    · exact Nat.le_refl _
    · have := ih k
      rw [List.drop_succ_cons, hor]
      omega
theorem hor_step {l : List UInt8} {k : Nat} {x : UInt8} (h : l[k]? = some x) : hor (l.drop k) = x.toNat % 128 + 128 * hor (l.drop (k + 1)) := by
  rw [drop_cons h, hor]
end Go.Proofs.YtlkcnpmgafckoaaDoor

/-! ## SpanOne -/
namespace Go.Proofs.YtlkcnpmgafckoaaDoor
open Go.RowKit

/-- A span as a value. -/
def spv (C : Int) (A : Option Addr) (n c : Nat) : Value := .agg #[.int .i64 C, .slice A n c]
def rightB (C : Int) (n : Nat) : Bool := decide (0 ≤ C) && decide (C < 8) && decide (n ≤ 4096)


set_option maxHeartbeats 400000 in
theorem right_any (w : World) (C : Int) (A : Option Addr) (n c : Nat) :
    Calls Tryd.prog 89 #[spv C A n c] w (Says w (.bool (rightB C n))) := by
  unfold spv
  go_enter Tryd.func89, Tryd.ntmps89
  go_wp2
  all_goals (go_ret; refine ⟨congrArg (fun b => Ending.returned (.bool b)) ?_, below_box w _⟩; rw [Bool.eq_iff_iff]; simp [rightB]; try omega)

set_option maxHeartbeats 400000 in
theorem refRight_any (w : World) (C : Int) (A : Option Addr) (n c : Nat) :
    Calls Tryd.prog 30 #[spv C A n c] w (Says w (.bool (rightB C n))) := by
  unfold spv
  go_enter Tryd.func30, Tryd.ntmps30
  go_wp2
  all_goals (go_ret; refine ⟨congrArg (fun b => Ending.returned (.bool b)) ?_, below_box w _⟩; rw [Bool.eq_iff_iff]; simp [rightB]; try omega)

/-- Are two spans alike? -/
def sameS (C : Int) (l : List UInt8) (C' : Int) (l' : List UInt8) : Bool := decide (C = C') && sameB l l'
set_option maxHeartbeats 400000 in
theorem spanSame_any (w : World) (C C' : Int) (A A' : Option Addr) (n c n' c' : Nat) (l l' : List UInt8) (hs : Sl w w.heap.size A n c l) (hs' : Sl w w.heap.size A' n' c' l') :
    Calls Tryd.prog 60 #[spv C A n c, spv C' A' n' c'] w (Says w (.bool (sameS C l C' l'))) := by
  unfold spv
  have HS := Lib.hid hs
  have HS' := Lib.hid hs'
  clear hs hs'
  by_cases hC : C = C'
  · have hq : (C == C') = true := by simp [hC]
    go_enter Tryd.func60, Tryd.ntmps60
    go_wp2_with fail
    refine (equal_any _ (w.heap.size + 2) A A' n c n' c' l l' ?_ ?_).mono ?_
    · exact ((HS.out.onA _).onA _).more (by simp)
    · exact ((HS'.out.onA _).onA _).more (by simp)
    rintro e w' ⟨rfl, rfl⟩
    go_wp2
    go_ret
    exact ⟨by simp [sameS, hC], (below_box w _).alloc (by simp) _⟩
  · have hq : (C == C') = false := by simp [hC]
    go_enter Tryd.func60, Tryd.ntmps60
    go_wp2
    go_ret
    exact ⟨by simp [sameS, hC], (below_box w _).alloc (by simp) _⟩

set_option maxHeartbeats 400000 in
theorem refSpanSame_any (w : World) (C C' : Int) (A A' : Option Addr) (n c n' c' : Nat) (l l' : List UInt8) (hs : Sl w w.heap.size A n c l) (hs' : Sl w w.heap.size A' n' c' l') :
    Calls Tryd.prog 47 #[spv C A n c, spv C' A' n' c'] w (Says w (.bool (sameS C l C' l'))) := by
  unfold spv
  have HS := Lib.hid hs
  have HS' := Lib.hid hs'
  clear hs hs'
  by_cases hC : C = C'
  · have hq : (C == C') = true := by simp [hC]
    go_enter Tryd.func47, Tryd.ntmps47
    go_wp2_with fail
    refine (same_any _ (w.heap.size + 2) A A' n c n' c' l l' ?_ ?_).mono ?_
    · exact ((HS.out.onA _).onA _).more (by simp)
    · exact ((HS'.out.onA _).onA _).more (by simp)
    rintro e w' ⟨rfl, q, rfl⟩
    go_wp2
    go_ret
    exact ⟨by simp [sameS, hC], below_drewN ((below_box w _).alloc (by simp) _) q⟩
  · have hq : (C == C') = false := by simp [hC]
    go_enter Tryd.func47, Tryd.ntmps47
    go_wp2
    go_ret
    exact ⟨by simp [sameS, hC], (below_box w _).alloc (by simp) _⟩
end Go.Proofs.YtlkcnpmgafckoaaDoor

/-! ## SpanPut -/
namespace Go.Proofs.YtlkcnpmgafckoaaDoor
open Go.RowKit

/-- A class as a byte; a span's bytes, an item's. -/
def clsB (C : Int) : UInt8 := UInt8.ofNat (C % 256).toNat
def spanB (C : Int) (b : List UInt8) : List UInt8 := clsB C :: byts b
def itemB (N : Nat) (C : Int) (b : List UInt8) : List UInt8 := num N ++ spanB C b
theorem cls_cb (C : Int) : Value.int .u8 (C % 256) = cb (clsB C) := by
  unfold cb clsB
  congr 1
  simp
  omega
theorem cls_wrap (C : Int) : Value.int .u8 (IntKind.u8.wrap C) = cb (clsB C) := by
  rw [← cls_cb, IntKind.wrap_u8]
theorem byts_len (b : List UInt8) (h : b.length ≤ 1000000) : (byts b).length ≤ b.length + 10 := by
  unfold byts
  rw [List.length_append]
  have := num_len10 b.length (by unfold two64; omega)
  omega
theorem spanB_len (C : Int) (b : List UInt8) (h : b.length ≤ 1000000) : (spanB C b).length ≤ b.length + 11 := by
  unfold spanB
  rw [List.length_cons]
  have := byts_len b h
  omega

set_option maxRecDepth 100000 in
set_option maxHeartbeats 400000 in
theorem spanPut_any (w : World) (C : Int) (A A' : Option Addr) (m c m' c' : Nat) (l b : List UInt8) (hs : Sl w w.heap.size A m c l) (hs' : Sl w w.heap.size A' m' c' b) (hb : l.length + b.length ≤ 800000) :
    Calls Tryd.prog 90 #[spv C A' m' c', .slice A m c] w (Fresh w (l ++ spanB C b)) := by
  unfold spv
  have hle := hs.le
  have hmax := hs.max
  have hln := hs.len
  unfold maxLen at hmax
  have hm : m ≤ 800000 := by omega
  obtain ⟨i0, hi0, hz0, hz1, hz2⟩ := info_parts u8_info
  have HS := Lib.hid hs
  have HS' := Lib.hid hs'
  have HL := Lib.hid hln
  clear hs hs' hln
  go_enter Tryd.func90, Tryd.ntmps90
  go_wp2_with fail
  have hcC : (w.alloc (Obj.cells #[.int .i64 C, .slice A' m' c'] 56)).cell? ⟨w.heap.size, 0, none⟩ = some (.int .i64 C) := by simp
  have hcB : (w.alloc (Obj.cells #[.int .i64 C, .slice A' m' c'] 56)).cell? ⟨w.heap.size, 1, none⟩ = some (.slice A' m' c') := by simp
  have hzb : w.heap.size < (w.alloc (Obj.cells #[.int .i64 C, .slice A' m' c'] 56)).heap.size := by simp
  have hsA := HS.out.onA (Obj.cells #[.int .i64 C, .slice A' m' c'] 56)
  have hsA' := HS'.out.onA (Obj.cells #[.int .i64 C, .slice A' m' c'] 56)
  have hbA := below_box w (Obj.cells #[.int .i64 C, .slice A' m' c'] 56)
  generalize w.alloc (Obj.cells #[.int .i64 C, .slice A' m' c'] 56) = wb at *
  generalize hgw : w.heap.size = g at *
  have HG := Lib.hid hgw; clear hgw
  have hcA : ∀ o, (wb.alloc o).drew.cell? ⟨g, 0, none⟩ = some (.int .i64 C) := fun o => (World.cell?_alloc_lt wb o ⟨g, 0, none⟩ hzb).trans hcC
  have hd : Dst wb (g + 1) 5 A m m l := .inl ⟨rfl, by have h := hsA.take (k := m) (m := m) (Nat.le_refl _) (Nat.le_refl _) hle; rwa [List.take_of_length_le (by rw [HL.out]; omega)] at h⟩
  have HC := Lib.hid (cls_wrap C)
  go_region_held3 (fun w' => w'.cell? ⟨g, 0, none⟩ = some (.int .i64 C)) (first | assumption | exact hcC | exact hcA _) (first
    | (refine step_append_dst _ rfl (.tmp 10) (.tmp 14) 37 37 rfl (g + 1) 5 i0 Tryd.underlying37 hi0 hz0 hz1 hz2 A m m l rfl ((hd.alloc _).drewN 1) _ 1 [clsB C] rfl (((one_sl wb _ HC.out).drewN 1).src Tryd.underlying37) (by omega) (by simp; omega) ?_
       intro A2 c2 w2 h1 h2 h3 h4 h5
       have hc2 : w2.cell? ⟨g, 0, none⟩ = some (.int .i64 C) := (h4.cell (p := ⟨g, 0, none⟩) (Nat.lt_succ_self _)).trans (hcA _)))
  have hb2 : Below g w w2 := (hbA.alloc (Nat.le_of_lt hzb) _).trans ((below_drewN (Below.refl _ _) 1).trans (h4.mono (by omega)))
  have hc3 : w2.cell? ⟨g, 1, none⟩ = some (.slice A' m' c') := (h4.cell (p := ⟨g, 1, none⟩) (Nat.lt_succ_self _)).trans ((World.cell?_alloc_lt wb _ ⟨g, 1, none⟩ hzb).trans hcB)
  have hs2 := Sl.of_own (h2 (by omega))
  have hs2' : Sl w2 g A' m' c' b := HS'.out.below hb2 (Nat.le_refl _)
  clear hcC hcB hcA hd hc2 h1 h2 h3 h4 h5 hsA hsA'
  go_wp2_with fail
  refine (packBytes_any w2 A2 A' (m + 1) c2 m' c' (l ++ [clsB C]) b hs2 (hs2'.more (HG.out ▸ hb2.size)) (by simp; omega)).mono ?_
  rintro e w3 ⟨A3, n3, c3, rfl, hown, hbel⟩
  go_wp2
  go_ret
  have hgw := HG.out
  subst hgw
  refine ⟨A3, n3, c3, rfl, ?_, hb2.trans (hbel.mono hb2.size)⟩
  have h6 := own_lower hown hb2.size
  rw [List.append_assoc] at h6
  exact h6

/-- An item as a value. -/
def itv (N : Nat) (C : Int) (A : Option Addr) (n c : Nat) : Value := .agg #[.int .u64 (N : Int), .int .i64 C, .slice A n c]

set_option maxRecDepth 100000 in
set_option maxHeartbeats 400000 in
theorem itemPut_any (w : World) (N : Nat) (C : Int) (A A' : Option Addr) (m c m' c' : Nat) (l b : List UInt8) (hN : N < two64) (hs : Sl w w.heap.size A m c l) (hs' : Sl w w.heap.size A' m' c' b) (hb : l.length + b.length ≤ 700000) :
    Calls Tryd.prog 80 #[itv N C A' m' c', .slice A m c] w (Fresh w (l ++ itemB N C b)) := by
  unfold itv
  have HS := Lib.hid hs
  have HS' := Lib.hid hs'
  have HN := Lib.hid hN
  clear hs hs' hN
  go_enter Tryd.func80, Tryd.ntmps80
  go_wp2_with fail
  have hc0 : (w.alloc (Obj.cells #[.int .u64 (N : Int), .int .i64 C, .slice A' m' c'] 58)).cell? ⟨w.heap.size, 0, none⟩ = some (.int .u64 (N : Int)) := by simp
  have hc1 : (w.alloc (Obj.cells #[.int .u64 (N : Int), .int .i64 C, .slice A' m' c'] 58)).cell? ⟨w.heap.size, 1, none⟩ = some (.int .i64 C) := by simp
  have hc2 : (w.alloc (Obj.cells #[.int .u64 (N : Int), .int .i64 C, .slice A' m' c'] 58)).cell? ⟨w.heap.size, 2, none⟩ = some (.slice A' m' c') := by simp
  have hzb : w.heap.size < (w.alloc (Obj.cells #[.int .u64 (N : Int), .int .i64 C, .slice A' m' c'] 58)).heap.size := by simp
  have hsA := HS.out.onA (Obj.cells #[.int .u64 (N : Int), .int .i64 C, .slice A' m' c'] 58)
  have hsA' := HS'.out.onA (Obj.cells #[.int .u64 (N : Int), .int .i64 C, .slice A' m' c'] 58)
  have hbA := below_box w (Obj.cells #[.int .u64 (N : Int), .int .i64 C, .slice A' m' c'] 58)
  generalize w.alloc (Obj.cells #[.int .u64 (N : Int), .int .i64 C, .slice A' m' c'] 58) = wb at *
  generalize hgw : w.heap.size = g at *
  have HG := Lib.hid hgw; clear hgw
  go_region_held3 (fun w' => w'.cell? ⟨g, 0, none⟩ = some (.int .u64 (N : Int)) ∧ w'.cell? ⟨g, 1, none⟩ = some (.int .i64 C) ∧ w'.cell? ⟨g, 2, none⟩ = some (.slice A' m' c')) (first | exact ⟨hc0, hc1, hc2⟩ | exact hk1 | exact hk2) (first
    | (go_at_call 62
       refine (packNum_any _ A m c l N (by exact hsA.onD 1) HN.out (by omega)).mono ?_
       rintro e w2 ⟨A2, n2, c2, rfl, hown2, hbel2⟩
       have hk1 : w2.cell? ⟨g, 0, none⟩ = some (.int .u64 (N : Int)) ∧ w2.cell? ⟨g, 1, none⟩ = some (.int .i64 C) ∧ w2.cell? ⟨g, 2, none⟩ = some (.slice A' m' c') := ⟨(hbel2.cell (p := ⟨g, 0, none⟩) hzb).trans hc0, (hbel2.cell (p := ⟨g, 1, none⟩) hzb).trans hc1, (hbel2.cell (p := ⟨g, 2, none⟩) hzb).trans hc2⟩
       have h2 := Sl.of_own hown2
       have h2' := (hsA'.onD 1).on hbel2 (Nat.le_refl _)
       have hz2 := Nat.lt_of_lt_of_le hzb hbel2.size)
    | (go_at_call 90
       refine (spanPut_any _ C A2 A' n2 c2 m' c' (l ++ num N) b h2 h2' (by have := num_len10 N HN.out; rw [List.length_append]; omega)).mono ?_
       rintro e w3 ⟨A3, n3, c3, rfl, hown3, hbel3⟩
       have hk2 : w3.cell? ⟨g, 0, none⟩ = some (.int .u64 (N : Int)) ∧ w3.cell? ⟨g, 1, none⟩ = some (.int .i64 C) ∧ w3.cell? ⟨g, 2, none⟩ = some (.slice A' m' c') := ⟨(hbel3.cell (p := ⟨g, 0, none⟩) hz2).trans hk1.1, (hbel3.cell (p := ⟨g, 1, none⟩) hz2).trans hk1.2.1, (hbel3.cell (p := ⟨g, 2, none⟩) hz2).trans hk1.2.2⟩))
  go_wp2
  go_ret
  have hgw := HG.out
  subst hgw
  have hb2 : Below w.heap.size w w2 := hbA.trans ((below_drewN (Below.refl _ _) 1).trans (hbel2.mono hbA.size))
  refine ⟨A3, n3, c3, rfl, ?_, hb2.trans (hbel3.mono hb2.size)⟩
  have h6 := own_lower hown3 hb2.size
  rw [List.append_assoc] at h6
  exact h6

/-! ### awake -/
end Go.Proofs.YtlkcnpmgafckoaaDoor

/-! ## SpanGet -/
namespace Go.Proofs.YtlkcnpmgafckoaaDoor
open Go.RowKit

/-- What Get comes to: the class, the body, what is left, the error. -/
def cls8 (k e : Nat) : Nat := if 8 ≤ k then failN e 2 else e
def stSpan (l : List UInt8) (er : Nat) : Nat × List UInt8 × List UInt8 × Nat :=
  let x := stByte l er
  let y := stBytes x.2.1 (cls8 x.1 x.2.2) 4096
  if y.2.2 = 0 then (x.1, y.1, y.2.1, 0) else (0, [], y.2.1, y.2.2)
theorem stSpan_ok {l l1 l2 b : List UInt8} {er k e1 : Nat} (h1 : stByte l er = (k, l1, e1)) (h2 : stBytes l1 (cls8 k e1) 4096 = (b, l2, 0)) : stSpan l er = (k, b, l2, 0) := by simp [stSpan, h1, h2]
theorem stSpan_no {l l1 l2 b : List UInt8} {er k e1 e3 : Nat} (h1 : stByte l er = (k, l1, e1)) (h2 : stBytes l1 (cls8 k e1) 4096 = (b, l2, e3)) (h3 : e3 ≠ 0) : stSpan l er = (0, [], l2, e3) := by simp [stSpan, h1, h2, h3]
theorem stByte_lt {l l1 : List UInt8} {er k e1 : Nat} (h : stByte l er = (k, l1, e1)) : k < 256 := by
  unfold stByte at h
  split at h
  · cases l with
    | nil => simp at h; omega
    | cons x t => simp at h; have := x.toNat_lt; omega
  · simp at h; omega

/-- A span is handed back; the reader has gone on. -/
def ToldSpan (w : World) (g : Nat) (k : Nat) (b l' : List UInt8) (er' : Nat) (e : Ending) (w' : World) : Prop :=
  ∃ A n c A1 n1 c1, e = .returned (spv (k : Int) A1 n1 c1) ∧ w'.ownsRow w.heap.size 5 1 (.slice A1 n1 c1) n1 (cbs b) ∧ InAt w' g A n c er' l' ∧ w.grownBy w' (some g)

/-- A block that lies still while others turn. -/
theorem only_block {w w' : World} {row : Option Nat} {r : Nat} {o : Obj} (hg : w.grownBy w' row) (h : w.heap[r]? = some o) (hr : some r ≠ row) : w'.heap[r]? = some o := (hg.block r (Array.getElem?_eq_some_iff.1 h).1 hr).trans h
theorem frz_block {w : World} {r i : Nat} {cs : Array Value} {t : TypeId} (h : w.heap[r]? = some (.cells cs t (0, 0))) : w.frozen? ⟨r, i, none⟩ = false := by simp [World.frozen?, h]
theorem only_new {w w' : World} {row : Option Nat} {r : Nat} {p : Addr} {u : Value} (hg : w.grownBy w' row) (hr : w.heap.size ≤ r) (hp : p.block = r) : w.grownBy (w'.setCell p u) row :=
  ⟨hg.os, hg.tape, hg.output, by simpa [World.setCell] using hg.size, fun k hk hne => (Below.heap_setCell w' p u k (by omega)).trans (hg.block k hk hne)⟩
theorem only_box {w w' : World} {o : Obj} {row : Option Nat} (hg : (w.alloc o).grownBy w' row) : w.grownBy w' row :=
  ⟨hg.os, hg.tape, hg.output, Nat.le_trans (by simp) hg.size, fun k hk hne => (hg.block k (by simp; omega) hne).trans (Below.heap_alloc w o k hk)⟩

theorem cells_set2 {w : World} {r : Nat} {a0 a1 : Value} (u0 u1 : Value) (h0 : w.cell? ⟨r, 0, none⟩ = some a0) (h1 : w.cell? ⟨r, 1, none⟩ = some a1) :
    ((w.setCell ⟨r, 0, none⟩ u0).setCell ⟨r, 1, none⟩ u1).cell? ⟨r, 0, none⟩ = some u0 ∧ ((w.setCell ⟨r, 0, none⟩ u0).setCell ⟨r, 1, none⟩ u1).cell? ⟨r, 1, none⟩ = some u1 := by
  refine ⟨?_, ?_⟩
  · rw [World.cell?_setCell_other _ _ _ _ (by simp)]
    exact World.cell?_setCell_same _ _ _ h0
  · exact World.cell?_setCell_same _ _ _ (by rw [World.cell?_setCell_other _ _ _ _ (by simp)]; exact h1)
theorem own_other {w : World} {base : Nat} {e : TypeId} {v : Value} {n : Nat} {xs : List Value} {p : Addr} (u : Value) (h : w.ownsRow base e 1 v n xs) (hp : p.block < base) : (w.setCell p u).ownsRow base e 1 v n xs := by
  refine ⟨h.1, ?_⟩
  rcases h.2 with hn | ⟨g, cap, cur, hv, hbg, hh, rest⟩
  · exact .inl hn
  · exact .inr ⟨g, cap, cur, hv, hbg, (Below.heap_setCell w p u g (by omega)).trans hh, rest⟩
/-- A span laid into its result's cells, behind which the reader and the row stand as they stood. -/
theorem told_set {w w4 : World} {g base r : Nat} {A5 : Option Addr} {n5 c5 : Nat} {b : List UInt8} {A4 : Option Addr} {n4 c4 e3 : Nat} {l2 : List UInt8} (k : Nat) (u0 u1 : Value) (hgz : w.grownBy w4 (some g)) (hgw : g < w.heap.size) (hr : w.heap.size ≤ r) (hin : InAt w4 g A4 n4 c4 e3 l2) (hown : w4.ownsRow base 5 1 (.slice A5 n5 c5) n5 (cbs b)) (hrb : r < base) :
    ToldSpan w g k b l2 e3 (.returned (spv (k : Int) A5 n5 c5)) ((w4.setCell ⟨r, 0, none⟩ u0).setCell ⟨r, 1, none⟩ u1) := by
  refine ⟨A4, n4, c4, A5, n5, c5, rfl, own_lower (own_other u1 (own_other u0 hown hrb) hrb) (by omega), ?_, only_new (only_new hgz hr rfl) hr rfl⟩
  exact (hin.kept (only_set w4 r 0 u0) (fun k hk => by injection hk; omega)).kept (only_set _ r 1 u1) (fun k hk => by injection hk; omega)

set_option maxRecDepth 100000 in
set_option maxHeartbeats 1000000 in
theorem get_any {w : World} {g : Nat} {A : Option Addr} {n c er : Nat} {l : List UInt8} (h : InAt w g A n c er l) :
    Calls Tryd.prog 91 #[.pointer (some ⟨g, 0, none⟩)] w (ToldSpan w g (stSpan l er).1 (stSpan l er).2.1 (stSpan l er).2.2.1 (stSpan l er).2.2.2) := by
  obtain ⟨⟨k, l1, e1⟩, h1⟩ : ∃ x, stByte l er = x := ⟨_, rfl⟩
  obtain ⟨⟨b, l2, e3⟩, h3⟩ : ∃ x, stBytes l1 (cls8 k e1) 4096 = x := ⟨_, rfl⟩
  have hk := stByte_lt h1
  have HI := Lib.hid h
  have H1 := Lib.hid h1
  have H3 := Lib.hid h3
  have hgw := h.lt
  clear h h1 h3
  obtain ⟨st, HST⟩ : ∃ st, Hid (st = stSpan l er) := ⟨_, rfl⟩
  rw [← HST.out]
  go_enter Tryd.func91, Tryd.ntmps91
  go_wp2_with fail
  have hin := HI.out.below (below_box w (Obj.cells #[.int .i64 0, .slice none 0 0] 56)) hgw
  have hres := heap_alloc_new w (Obj.cells #[.int .i64 0, .slice none 0 0] 56)
  generalize hwb : w.alloc (Obj.cells #[.int .i64 0, .slice none 0 0] 56) = wb at *
  have HWB := Lib.hid hwb; clear hwb
  have c1 := inByte_any hin
  rw [H1.out] at c1
  refine c1.mono ?_
  rintro e w2 ⟨A2, n2, c2, rfl, hin2, hg2⟩
  have hres2 := only_block hg2 hres (by intro e; injection e with e; omega)
  clear c1 hin hres
  rcases Nat.lt_or_ge k 8 with h8 | h8
  all_goals first
   | (have h8l : k < 8 := h8
      have h8I : ¬ (8 : Int) ≤ (k : Int) := by omega
      have e2 : cls8 k e1 = e1 := by unfold cls8; rw [if_neg (by omega)]
      have hin3 : InAt w2 g A2 n2 c2 (cls8 k e1) l1 := by rw [e2]; exact hin2
      have hres3 := hres2
      have hga := hg2
      clear hin2 hg2 hres2
      go_wp2_with fail)
   | (have h8l : 8 ≤ k := h8
      have h8I : (8 : Int) ≤ (k : Int) := by omega
      go_wp2_with fail
      have c2 := fail_any hin2 2
      have e2 : failN e1 2 = cls8 k e1 := by simp [cls8, h8]
      rw [e2] at c2
      refine c2.mono ?_
      rintro e w3 ⟨A3, n3, c3, rfl, hin3, hg3⟩
      have hres3 := only_block hg3 hres2 (by intro e; injection e with e; omega)
      have hga := only_trans hg2 hg3
      clear c2 e2 hin2 hg2 hg3 hres2
      go_wp2_with fail)
  all_goals (
    have c3' := inBytes_any hin3 4096 (.inl (by rw [IntKind.wrap_u64]; omega))
    rw [H3.out] at c3'
    refine c3'.mono ?_
    rintro e w4 ⟨A4, n4, c4, A5, n5, c5, rfl, hown4, hin4, hg4⟩
    have hres4 := only_block hg4 hres3 (by intro e; injection e with e; omega)
    have hgb := only_trans hga hg4
    have hrb := (Array.getElem?_eq_some_iff.1 hres3).1
    clear c3' hin3 hg4 hres3 hga
    go_wp2_with fail
    refine (err_any hin4).mono ?_
    rintro e w5 ⟨rfl, rfl⟩
    have hq0 : w4.cell? ⟨w.heap.size, 0, none⟩ = some (.int .i64 0) := by rw [cell_of_row w4 w.heap.size 0 _ _ _ hres4]; rfl
    have hq1 : w4.cell? ⟨w.heap.size, 1, none⟩ = some (.slice none 0 0) := by rw [cell_of_row w4 w.heap.size 1 _ _ _ hres4]; rfl
    have hf0 := frz_block (i := 0) hres4
    have hf1 := frz_block (i := 1) hres4
    have hgz : w.grownBy w4 (some g) := by rw [← HWB.out] at hgb; exact only_box hgb
    clear hres4 hgb HWB
    by_cases he3 : e3 = 0
    · have he3I : ((e3 : Int) != 0) = false := by simp; omega
      have hst : st = (k, b, l2, 0) := by rw [HST.out]; exact stSpan_ok H1.out (by rw [H3.out, he3])
      subst he3
      go_wp2
      obtain ⟨f0, f1⟩ := cells_set2 (.int .i64 (k : Int)) (.slice A5 n5 c5) hq0 hq1
      refine bodyPost_ret (v := .agg #[.int .i64 (k : Int), .slice A5 n5 c5]) (by simp [results, Tryd.results91, go_sem, f0, f1]) rfl ?_
      rw [hst]
      exact told_set k _ _ hgz hgw (Nat.le_refl _) hin4 hown4 hrb
    · have he3I : ((e3 : Int) != 0) = true := by simp; omega
      have hst : st = (0, [], l2, e3) := by rw [HST.out]; exact stSpan_no H1.out H3.out he3
      go_wp2
      obtain ⟨f0, f1⟩ := cells_set2 (.int .i64 0) (.slice none 0 0) hq0 hq1
      refine bodyPost_ret (v := .agg #[.int .i64 0, .slice none 0 0]) (by simp [results, Tryd.results91, go_sem, f0, f1]) rfl ?_
      rw [hst]
      exact told_set 0 _ _ hgz hgw (Nat.le_refl _) hin4 (own_nil w4 _) (Nat.lt_succ_self _))

/-! ### GetItem -/
def stItem (l : List UInt8) (er : Nat) : Nat × Nat × List UInt8 × List UInt8 × Nat :=
  let x := stNum l er
  let y := stSpan x.2.1 x.2.2
  if y.2.2.2 = 0 then (x.1, y.1, y.2.1, y.2.2.1, 0) else (0, 0, [], y.2.2.1, y.2.2.2)
theorem stItem_ok {l l1 l2 b : List UInt8} {er N e1 k : Nat} (h1 : stNum l er = (N, l1, e1)) (h2 : stSpan l1 e1 = (k, b, l2, 0)) : stItem l er = (N, k, b, l2, 0) := by simp [stItem, h1, h2]
theorem stItem_no {l l1 l2 b : List UInt8} {er N e1 k e3 : Nat} (h1 : stNum l er = (N, l1, e1)) (h2 : stSpan l1 e1 = (k, b, l2, e3)) (h3 : e3 ≠ 0) : stItem l er = (0, 0, [], l2, e3) := by simp [stItem, h1, h2, h3]

def ToldItem (w : World) (g : Nat) (N k : Nat) (b l' : List UInt8) (er' : Nat) (e : Ending) (w' : World) : Prop :=
  ∃ A n c A1 n1 c1, e = .returned (itv N (k : Int) A1 n1 c1) ∧ w'.ownsRow w.heap.size 5 1 (.slice A1 n1 c1) n1 (cbs b) ∧ InAt w' g A n c er' l' ∧ w.grownBy w' (some g)

theorem cells_set3 {w : World} {r : Nat} {a0 a1 a2 : Value} (u0 u1 u2 : Value) (h0 : w.cell? ⟨r, 0, none⟩ = some a0) (h1 : w.cell? ⟨r, 1, none⟩ = some a1) (h2 : w.cell? ⟨r, 2, none⟩ = some a2) :
    (((w.setCell ⟨r, 0, none⟩ u0).setCell ⟨r, 1, none⟩ u1).setCell ⟨r, 2, none⟩ u2).cell? ⟨r, 0, none⟩ = some u0 ∧ (((w.setCell ⟨r, 0, none⟩ u0).setCell ⟨r, 1, none⟩ u1).setCell ⟨r, 2, none⟩ u2).cell? ⟨r, 1, none⟩ = some u1 ∧
      (((w.setCell ⟨r, 0, none⟩ u0).setCell ⟨r, 1, none⟩ u1).setCell ⟨r, 2, none⟩ u2).cell? ⟨r, 2, none⟩ = some u2 := by
  obtain ⟨f0, f1⟩ := cells_set2 u0 u1 h0 h1
  refine ⟨?_, ?_, ?_⟩
  · rw [World.cell?_setCell_other _ _ _ _ (by simp)]; exact f0
  · rw [World.cell?_setCell_other _ _ _ _ (by simp)]; exact f1
  · exact World.cell?_setCell_same _ _ _ (by rw [World.cell?_setCell_other _ _ _ _ (by simp), World.cell?_setCell_other _ _ _ _ (by simp)]; exact h2)
theorem told_set3 {w w4 : World} {g base r : Nat} {A5 : Option Addr} {n5 c5 : Nat} {b : List UInt8} {A4 : Option Addr} {n4 c4 e3 : Nat} {l2 : List UInt8} (N k : Nat) (u0 u1 u2 : Value) (hgz : w.grownBy w4 (some g)) (hgw : g < w.heap.size) (hr : w.heap.size ≤ r) (hin : InAt w4 g A4 n4 c4 e3 l2) (hown : w4.ownsRow base 5 1 (.slice A5 n5 c5) n5 (cbs b)) (hrb : r < base) :
    ToldItem w g N k b l2 e3 (.returned (itv N (k : Int) A5 n5 c5)) (((w4.setCell ⟨r, 0, none⟩ u0).setCell ⟨r, 1, none⟩ u1).setCell ⟨r, 2, none⟩ u2) := by
  refine ⟨A4, n4, c4, A5, n5, c5, rfl, own_lower (own_other u2 (own_other u1 (own_other u0 hown hrb) hrb) hrb) (by omega), ?_, only_new (only_new (only_new hgz hr rfl) hr rfl) hr rfl⟩
  exact ((hin.kept (only_set w4 r 0 u0) (fun k hk => by injection hk; omega)).kept (only_set _ r 1 u1) (fun k hk => by injection hk; omega)).kept (only_set _ r 2 u2) (fun k hk => by injection hk; omega)

set_option maxRecDepth 100000 in
set_option maxHeartbeats 1000000 in
theorem getItem_any {w : World} {g : Nat} {A : Option Addr} {n c er : Nat} {l : List UInt8} (h : InAt w g A n c er l) :
    Calls Tryd.prog 81 #[.pointer (some ⟨g, 0, none⟩)] w (ToldItem w g (stItem l er).1 (stItem l er).2.1 (stItem l er).2.2.1 (stItem l er).2.2.2.1 (stItem l er).2.2.2.2) := by
  obtain ⟨⟨N, l1, e1⟩, h1⟩ : ∃ x, stNum l er = x := ⟨_, rfl⟩
  obtain ⟨⟨k, b, l2, e3⟩, h3⟩ : ∃ x, stSpan l1 e1 = x := ⟨_, rfl⟩
  have HI := Lib.hid h
  have H1 := Lib.hid h1
  have H3 := Lib.hid h3
  have hgw := h.lt
  clear h h1 h3
  obtain ⟨st, HST⟩ : ∃ st, Hid (st = stItem l er) := ⟨_, rfl⟩
  rw [← HST.out]
  go_enter Tryd.func81, Tryd.ntmps81
  go_wp2_with fail
  have hin := HI.out.below (below_box w (Obj.cells #[.int .u64 0, .int .i64 0, .slice none 0 0] 58)) hgw
  have hres := heap_alloc_new w (Obj.cells #[.int .u64 0, .int .i64 0, .slice none 0 0] 58)
  generalize hwb : w.alloc (Obj.cells #[.int .u64 0, .int .i64 0, .slice none 0 0] 58) = wb at *
  have HWB := Lib.hid hwb; clear hwb
  have c1 := inNum_any hin
  rw [H1.out] at c1
  refine c1.mono ?_
  rintro e w2 ⟨A2, n2, c2, rfl, hin2, hg2⟩
  have hres2 := only_block hg2 hres (by intro e; injection e with e; omega)
  clear c1 hin hres
  go_wp2_with fail
  have c3' := get_any hin2
  simp only [H3.out] at c3'
  refine c3'.mono ?_
  rintro e w4 ⟨A4, n4, c4, A5, n5, c5, rfl, hown4, hin4, hg4⟩
  have hres4 := only_block hg4 hres2 (by intro e; injection e with e; omega)
  have hgb := only_trans hg2 hg4
  have hrb := (Array.getElem?_eq_some_iff.1 hres2).1
  have hgz : w.grownBy w4 (some g) := by rw [← HWB.out] at hgb; exact only_box hgb
  have hz4 := Nat.lt_of_lt_of_le hgw hgz.size
  clear c3' hin2 hg4 hres2 hg2 hgb HWB
  unfold spv
  go_wp2_with fail
  have hin5 := hin4.below (below_box w4 (Obj.cells #[.int .i64 (k : Int), .slice A5 n5 c5] 56)) hz4
  have hown5 := hown4.alloc (Obj.cells #[.int .i64 (k : Int), .slice A5 n5 c5] 56)
  have hres5 := (Below.heap_alloc w4 (Obj.cells #[.int .i64 (k : Int), .slice A5 n5 c5] 56) _ (Array.getElem?_eq_some_iff.1 hres4).1).trans hres4
  have hg5 : w.grownBy (w4.alloc (Obj.cells #[.int .i64 (k : Int), .slice A5 n5 c5] 56)) (some g) := only_trans hgz (only_below (below_box w4 _) _)
  have hs0 : (w4.alloc (Obj.cells #[.int .i64 (k : Int), .slice A5 n5 c5] 56)).cell? ⟨w4.heap.size, 0, none⟩ = some (.int .i64 (k : Int)) := by simp
  have hs1 : (w4.alloc (Obj.cells #[.int .i64 (k : Int), .slice A5 n5 c5] 56)).cell? ⟨w4.heap.size, 1, none⟩ = some (.slice A5 n5 c5) := by simp
  generalize w4.alloc (Obj.cells #[.int .i64 (k : Int), .slice A5 n5 c5] 56) = w5 at *
  refine (err_any hin5).mono ?_
  rintro e w6 ⟨rfl, rfl⟩
  have hq0 : w5.cell? ⟨w.heap.size, 0, none⟩ = some (.int .u64 0) := by rw [cell_of_row w5 w.heap.size 0 _ _ _ hres5]; rfl
  have hq1 : w5.cell? ⟨w.heap.size, 1, none⟩ = some (.int .i64 0) := by rw [cell_of_row w5 w.heap.size 1 _ _ _ hres5]; rfl
  have hq2 : w5.cell? ⟨w.heap.size, 2, none⟩ = some (.slice none 0 0) := by rw [cell_of_row w5 w.heap.size 2 _ _ _ hres5]; rfl
  have hf0 := frz_block (i := 0) hres5
  have hf1 := frz_block (i := 1) hres5
  have hf2 := frz_block (i := 2) hres5
  clear hres4 hres5 hin4 hown4 hgz
  by_cases he3 : e3 = 0
  · have he3I : ((e3 : Int) != 0) = false := by simp; omega
    have hst : st = (N, k, b, l2, 0) := by rw [HST.out]; exact stItem_ok H1.out (by rw [H3.out, he3])
    subst he3
    go_wp2
    obtain ⟨f0, f1, f2⟩ := cells_set3 (.int .u64 (N : Int)) (.int .i64 (k : Int)) (.slice A5 n5 c5) hq0 hq1 hq2
    refine bodyPost_ret (v := .agg #[.int .u64 (N : Int), .int .i64 (k : Int), .slice A5 n5 c5]) (by simp [results, Tryd.results81, go_sem, f0, f1, f2]) rfl ?_
    rw [hst]
    exact told_set3 N k _ _ _ hg5 hgw (Nat.le_refl _) hin5 hown5 hrb
  · have he3I : ((e3 : Int) != 0) = true := by simp; omega
    have hst : st = (0, 0, [], l2, e3) := by rw [HST.out]; exact stItem_no H1.out H3.out he3
    go_wp2
    obtain ⟨f0, f1, f2⟩ := cells_set3 (.int .u64 0) (.int .i64 0) (.slice none 0 0) hq0 hq1 hq2
    refine bodyPost_ret (v := .agg #[.int .u64 0, .int .i64 0, .slice none 0 0]) (by simp [results, Tryd.results81, go_sem, f0, f1, f2]) rfl ?_
    rw [hst]
    exact told_set3 0 0 _ _ _ hg5 hgw (Nat.le_refl _) hin5 (own_nil w5 _) (Nat.lt_succ_self _)
end Go.Proofs.YtlkcnpmgafckoaaDoor

/-! ## RefRead -/
namespace Go.Proofs.YtlkcnpmgafckoaaDoor
open Go.RowKit

def SkipRel (w : World) (l : List UInt8) (a n gk : Nat) (k : Value) (wr : World) : Prop :=
  ∃ (j kk : Nat), gk + j = 9 ∧ kk = a + j ∧ kk ≤ n ∧ k = .int .i64 (kk : Int) ∧ High (l.drop a) j ∧ w = wr
def HornRel (w : World) (L : List UInt8) (a J gk : Nat) (acc i : Value) (wr : World) : Prop :=
  gk ≤ J ∧ i = .int .i64 ((a : Int) + (gk : Int) - 1) ∧ acc = .int .u64 ((hor (L.drop gk) : Nat) : Int) ∧ w = wr
theorem horn_u64 (a x : Nat) (h : x % 128 + 128 * a < two64) : Value.int .u64 (IntKind.u64.wrap (IntKind.u64.wrap (128 * (a : Int)) + (x : Int) % 128)) = Value.int .u64 ((x % 128 + 128 * a : Nat) : Int) := by
  unfold two64 at h
  rw [IntKind.wrap_u64, IntKind.wrap_u64]
  congr 1
  omega
theorem at_drop {l : List UInt8} {a j : Nat} {x : UInt8} (h : l[a + j]? = some x) : (l.drop a)[j]? = some x := by rw [List.getElem?_drop]; exact h

set_option maxRecDepth 100000 in
set_option maxHeartbeats 1000000 in
theorem refRead_any (w : World) (B : Nat) (A : Option Addr) (n c a : Nat) (l : List UInt8) (v s e : Nat) (hs : Sl w B A n c l) (ha : a ≤ n) (hr : rd (l.drop a) = (v, s, e)) (hb : l.length ≤ 1000000) :
    Calls Tryd.prog 74 #[.slice A n c, .int .i64 (a : Int)] w (Triple w v s e) := by
  have hlen := hs.len
  have hn : n ≤ 1000000 := by omega
  have HL := Lib.hid hlen
  have HR := Lib.hid hr
  have HS := Lib.hid hs
  clear hlen hr hs hb
  go_enter Tryd.func74, Tryd.ntmps74
  go_wp2
  go_loopg [7] 9 (fun gk k wr => SkipRel w l a n gk k wr)
  case atStart => exact ⟨0, a, by omega, rfl, ha, rfl, fun i x hi _ => absurd hi (Nat.not_lt_zero _), rfl⟩
  case round =>
    obtain ⟨j, kk, hj, hkk, hkn, rfl, hh, rfl⟩ := hrel
    have HJ := Lib.hid hj
    have HK := Lib.hid hkk
    have HH := Lib.hid hh
    clear hj hkk hh
    by_cases hlt : kk < n
    · obtain ⟨b, o, x, rfl, _, hx, hc⟩ := HS.out.at_ hlt
      have hxd : (l.drop a)[j]? = some x := at_drop (by rw [← HK.out]; exact hx)
      have HXD := Lib.hid hxd
      have hx8 := x.toNat_lt
      have hltI : (kk : Int) < (n : Int) := by omega
      clear hx hxd
      by_cases h9 : kk < a + 9
      · have h9I : (kk : Int) < (a : Int) + 9 := by omega
        have h9e : ((kk : Int) == (a : Int) + 9) = false := by simp; omega
        by_cases h128 : 128 ≤ x.toNat
        · have h128I : (128 : Int) ≤ (x.toNat : Int) := by omega
          have HNX := Lib.hid (HH.out.succ HXD.out h128)
          go_wp2
          go_roundg (gk - 1)
          case measure => have := HJ.out; have := HK.out; omega
          case rel => exact ⟨j + 1, kk + 1, by have := HJ.out; have := HK.out; omega, by have := HK.out; omega, by omega, by go_num, HNX.out, rfl⟩
        · have h128I : ¬ (128 : Int) ≤ (x.toNat : Int) := by omega
          by_cases hj0 : 0 < j
          · have hgt : (a : Int) < (kk : Int) := by have := HK.out; omega
            by_cases h0 : x.toNat = 0
            · have h0I : ((x.toNat : Int) == 0) = true := by simp; omega
              have HF := Lib.hid (HR.out.symm.trans (rd_zero (by have := HK.out; omega) HXD.out h0 hj0 HH.out))
              clear h0
              go_wp2
              go_ret3
              have hf := HF.out
              simp only [Prod.mk.injEq] at hf
              obtain ⟨rfl, rfl, rfl⟩ := hf
              exact ⟨rfl, rfl⟩
            · have h0I : ((x.toNat : Int) == 0) = false := by simp; omega
              have HG : Hid (rd (l.drop a) = (hor ((l.drop a).take (j + 1)), j + 1, 0)) := rd_good (by have := HK.out; omega) HXD.out (by omega) (by have := HK.out; omega) (by omega) HH.out
              have hfin : (v, s, e) = (hor ((l.drop a).take (j + 1)), j + 1, 0) := HR.out.symm.trans HG.out
              have HF := Lib.hid hfin
              have HVB : Hid (hor ((l.drop a).take (j + 1)) < two64) := (rd_bd HG.out).1
              clear hfin HG
              have hkk1 : (kk : Int) - (a : Int) + 1 = ((j + 1 : Nat) : Int) := by have := HK.out; omega
              have HKK := Lib.hid hkk1; clear hkk1
              go_wp2
              go_loopg [8, 9] (j + 1) (fun gk acc i wr => HornRel w ((l.drop a).take (j + 1)) a (j + 1) gk acc i wr)
              case atStart => exact ⟨Nat.le_refl _, by rw [HK.out]; congr 1; omega, by rw [List.drop_eq_nil_of_le (by rw [List.length_take]; omega)]; rfl, rfl⟩
              case round =>
                obtain ⟨hgk, rfl, rfl, rfl⟩ := hrel
                by_cases hpos : 0 < gk
                · obtain ⟨g', hg'⟩ : ∃ g', gk = g' + 1 := ⟨gk - 1, by omega⟩
                  subst hg'
                  obtain ⟨b2, o2, x2, hA2, _, hx2, hc2⟩ := HS.out.at_ (k := a + g') (by have := HK.out; omega)
                  injection hA2 with hA2
                  injection hA2 with hb2 ho2
                  subst hb2 ho2
                  have hi2 : (a : Int) + ((g' + 1 : Nat) : Int) - 1 = ((a + g' : Nat) : Int) := by omega
                  have hstep : hor (((l.drop a).take (j + 1)).drop g') = x2.toNat % 128 + 128 * hor (((l.drop a).take (j + 1)).drop (g' + 1)) := hor_step (by
                    rw [List.getElem?_take, if_pos (by omega), List.getElem?_drop]; exact hx2)
                  have hmono := hor_drop ((l.drop a).take (j + 1)) g'
                  have hvb := HVB.out
                  have hx28 := x2.toNat_lt
                  have HV := Lib.hid (horn_u64 (hor (((l.drop a).take (j + 1)).drop (g' + 1))) x2.toNat (by omega))
                  have HS2 := Lib.hid hstep
                  rw [hi2]
                  have hc2' : w.cell? ⟨b, o + (a + g'), none⟩ = some (.int .u8 (x2.toNat : Int)) := hc2
                  have hi3 : (0 : Int) ≤ ((a + g' : Nat) : Int) := by omega
                  have hi4 : ((a + g' : Nat) : Int) < (n : Int) := by have := HK.out; omega
                  have hi5 : (a : Int) ≤ ((a + g' : Nat) : Int) := by omega
                  have hn2 : ((a + g' : Nat) : Int) - 1 = (a : Int) + (g' : Int) - 1 := by omega
                  have HN2 := Lib.hid hn2
                  obtain ⟨m2, hm2⟩ : ∃ m2, m2 = a + g' := ⟨_, rfl⟩
                  rw [← hm2] at hc2' hi3 hi4 hi5 HN2 ⊢
                  have hm2b : m2 ≤ 2000000 := by omega
                  generalize hor (((l.drop a).take (j + 1)).drop (g' + 1)) = ac at *
                  clear hstep hmono hvb hi2 hc2 hx2 hn2 hm2 hx28
                  go_wp2
                  go_roundg g'
                  case measure => omega
                  case rel => exact ⟨by omega, by rw [HN2.out], by rw [HV.out, HS2.out], rfl⟩
                · have hg0 : gk = 0 := by omega
                  subst hg0
                  have hnn : ¬ (a : Int) ≤ (a : Int) + ((0 : Nat) : Int) - 1 := by omega
                  clear hpos
                  go_wp2
                  go_ret3
                  have hf := HF.out
                  simp only [Prod.mk.injEq] at hf
                  obtain ⟨rfl, rfl, rfl⟩ := hf
                  exact ⟨ret3 rfl (congrArg (fun z => Value.int .i64 z) HKK.out) rfl, rfl⟩
          · have hgt : ¬ (a : Int) < (kk : Int) := by have := HK.out; omega
            have HG : Hid (rd (l.drop a) = (hor ((l.drop a).take (j + 1)), j + 1, 0)) := rd_good (by have := HK.out; omega) HXD.out (by omega) (by omega) (by omega) HH.out
            have hfin : (v, s, e) = (hor ((l.drop a).take (j + 1)), j + 1, 0) := HR.out.symm.trans HG.out
            have HF := Lib.hid hfin
            have HVB : Hid (hor ((l.drop a).take (j + 1)) < two64) := (rd_bd HG.out).1
            clear hfin HG
            have hkk1 : (kk : Int) - (a : Int) + 1 = ((j + 1 : Nat) : Int) := by have := HK.out; omega
            have HKK := Lib.hid hkk1; clear hkk1
            go_wp2
            go_loopg [8, 9] (j + 1) (fun gk acc i wr => HornRel w ((l.drop a).take (j + 1)) a (j + 1) gk acc i wr)
            case atStart => exact ⟨Nat.le_refl _, by rw [HK.out]; congr 1; omega, by rw [List.drop_eq_nil_of_le (by rw [List.length_take]; omega)]; rfl, rfl⟩
            case round =>
              obtain ⟨hgk, rfl, rfl, rfl⟩ := hrel
              by_cases hpos : 0 < gk
              · obtain ⟨g', hg'⟩ : ∃ g', gk = g' + 1 := ⟨gk - 1, by omega⟩
                subst hg'
                obtain ⟨b2, o2, x2, hA2, _, hx2, hc2⟩ := HS.out.at_ (k := a + g') (by have := HK.out; omega)
                injection hA2 with hA2
                injection hA2 with hb2 ho2
                subst hb2 ho2
                have hi2 : (a : Int) + ((g' + 1 : Nat) : Int) - 1 = ((a + g' : Nat) : Int) := by omega
                have hstep : hor (((l.drop a).take (j + 1)).drop g') = x2.toNat % 128 + 128 * hor (((l.drop a).take (j + 1)).drop (g' + 1)) := hor_step (by
                  rw [List.getElem?_take, if_pos (by omega), List.getElem?_drop]; exact hx2)
                have hmono := hor_drop ((l.drop a).take (j + 1)) g'
                have hvb := HVB.out
                have hx28 := x2.toNat_lt
                have HV := Lib.hid (horn_u64 (hor (((l.drop a).take (j + 1)).drop (g' + 1))) x2.toNat (by omega))
                have HS2 := Lib.hid hstep
                rw [hi2]
                have hc2' : w.cell? ⟨b, o + (a + g'), none⟩ = some (.int .u8 (x2.toNat : Int)) := hc2
                have hi3 : (0 : Int) ≤ ((a + g' : Nat) : Int) := by omega
                have hi4 : ((a + g' : Nat) : Int) < (n : Int) := by have := HK.out; omega
                have hi5 : (a : Int) ≤ ((a + g' : Nat) : Int) := by omega
                have hn2 : ((a + g' : Nat) : Int) - 1 = (a : Int) + (g' : Int) - 1 := by omega
                have HN2 := Lib.hid hn2
                obtain ⟨m2, hm2⟩ : ∃ m2, m2 = a + g' := ⟨_, rfl⟩
                rw [← hm2] at hc2' hi3 hi4 hi5 HN2 ⊢
                have hm2b : m2 ≤ 2000000 := by omega
                generalize hor (((l.drop a).take (j + 1)).drop (g' + 1)) = ac at *
                clear hstep hmono hvb hi2 hc2 hx2 hn2 hm2 hx28
                go_wp2
                go_roundg g'
                case measure => omega
                case rel => exact ⟨by omega, by rw [HN2.out], by rw [HV.out, HS2.out], rfl⟩
              · have hg0 : gk = 0 := by omega
                subst hg0
                have hnn : ¬ (a : Int) ≤ (a : Int) + ((0 : Nat) : Int) - 1 := by omega
                clear hpos
                go_wp2
                go_ret3
                have hf := HF.out
                simp only [Prod.mk.injEq] at hf
                obtain ⟨rfl, rfl, rfl⟩ := hf
                exact ⟨ret3 rfl (congrArg (fun z => Value.int .i64 z) HKK.out) rfl, rfl⟩
      · have h9I : ¬ (kk : Int) < (a : Int) + 9 := by omega
        have h9e : ((kk : Int) == (a : Int) + 9) = true := by have := HK.out; have := HJ.out; simp; omega
        have hj9 : j = 9 := by have := HK.out; have := HJ.out; omega
        have hgt : (a : Int) < (kk : Int) := by omega
        subst hj9
        by_cases h1 : 1 < x.toNat
        · have h1I : (1 : Int) < (x.toNat : Int) := by omega
          have HF := Lib.hid (HR.out.symm.trans (rd_over HXD.out h1 HH.out))
          go_wp2
          go_ret3
          have hf := HF.out
          simp only [Prod.mk.injEq] at hf
          obtain ⟨rfl, rfl, rfl⟩ := hf
          exact ⟨rfl, rfl⟩
        · have h1I : ¬ (1 : Int) < (x.toNat : Int) := by omega
          by_cases h0 : x.toNat = 0
          · have h0I : ((x.toNat : Int) == 0) = true := by simp; omega
            have HF := Lib.hid (HR.out.symm.trans (rd_zero (by omega) HXD.out h0 (by omega) HH.out))
            clear h0
            go_wp2
            go_ret3
            have hf := HF.out
            simp only [Prod.mk.injEq] at hf
            obtain ⟨rfl, rfl, rfl⟩ := hf
            exact ⟨rfl, rfl⟩
          · have h0I : ((x.toNat : Int) == 0) = false := by simp; omega
            obtain ⟨j, hjj⟩ : ∃ j, 9 = j := ⟨9, rfl⟩
            rw [hjj] at HK HXD HH HJ
            have HJ9 := Lib.hid hjj
            clear hjj
            have HG : Hid (rd (l.drop a) = (hor ((l.drop a).take (j + 1)), j + 1, 0)) := rd_good (by have := HJ9.out; omega) HXD.out (by omega) (by omega) (by omega) HH.out
            have hfin : (v, s, e) = (hor ((l.drop a).take (j + 1)), j + 1, 0) := HR.out.symm.trans HG.out
            have HF := Lib.hid hfin
            have HVB : Hid (hor ((l.drop a).take (j + 1)) < two64) := (rd_bd HG.out).1
            clear hfin HG
            have hkk1 : (kk : Int) - (a : Int) + 1 = ((j + 1 : Nat) : Int) := by have := HK.out; omega
            have HKK := Lib.hid hkk1; clear hkk1
            go_wp2
            go_loopg [8, 9] (j + 1) (fun gk acc i wr => HornRel w ((l.drop a).take (j + 1)) a (j + 1) gk acc i wr)
            case atStart => exact ⟨Nat.le_refl _, by rw [HK.out]; congr 1; omega, by rw [List.drop_eq_nil_of_le (by rw [List.length_take]; omega)]; rfl, rfl⟩
            case round =>
              obtain ⟨hgk, rfl, rfl, rfl⟩ := hrel
              by_cases hpos : 0 < gk
              · obtain ⟨g', hg'⟩ : ∃ g', gk = g' + 1 := ⟨gk - 1, by omega⟩
                subst hg'
                obtain ⟨b2, o2, x2, hA2, _, hx2, hc2⟩ := HS.out.at_ (k := a + g') (by have := HK.out; omega)
                injection hA2 with hA2
                injection hA2 with hb2 ho2
                subst hb2 ho2
                have hi2 : (a : Int) + ((g' + 1 : Nat) : Int) - 1 = ((a + g' : Nat) : Int) := by omega
                have hstep : hor (((l.drop a).take (j + 1)).drop g') = x2.toNat % 128 + 128 * hor (((l.drop a).take (j + 1)).drop (g' + 1)) := hor_step (by
                  rw [List.getElem?_take, if_pos (by omega), List.getElem?_drop]; exact hx2)
                have hmono := hor_drop ((l.drop a).take (j + 1)) g'
                have hvb := HVB.out
                have hx28 := x2.toNat_lt
                have HV := Lib.hid (horn_u64 (hor (((l.drop a).take (j + 1)).drop (g' + 1))) x2.toNat (by omega))
                have HS2 := Lib.hid hstep
                rw [hi2]
                have hc2' : w.cell? ⟨b, o + (a + g'), none⟩ = some (.int .u8 (x2.toNat : Int)) := hc2
                have hi3 : (0 : Int) ≤ ((a + g' : Nat) : Int) := by omega
                have hi4 : ((a + g' : Nat) : Int) < (n : Int) := by have := HK.out; omega
                have hi5 : (a : Int) ≤ ((a + g' : Nat) : Int) := by omega
                have hn2 : ((a + g' : Nat) : Int) - 1 = (a : Int) + (g' : Int) - 1 := by omega
                have HN2 := Lib.hid hn2
                obtain ⟨m2, hm2⟩ : ∃ m2, m2 = a + g' := ⟨_, rfl⟩
                rw [← hm2] at hc2' hi3 hi4 hi5 HN2 ⊢
                have hm2b : m2 ≤ 2000000 := by omega
                generalize hor (((l.drop a).take (j + 1)).drop (g' + 1)) = ac at *
                clear hstep hmono hvb hi2 hc2 hx2 hn2 hm2 hx28
                go_wp2
                go_roundg g'
                case measure => omega
                case rel => exact ⟨by omega, by rw [HN2.out], by rw [HV.out, HS2.out], rfl⟩
              · have hg0 : gk = 0 := by omega
                subst hg0
                have hnn : ¬ (a : Int) ≤ (a : Int) + ((0 : Nat) : Int) - 1 := by omega
                clear hpos
                go_wp2
                go_ret3
                have hf := HF.out
                simp only [Prod.mk.injEq] at hf
                obtain ⟨rfl, rfl, rfl⟩ := hf
                exact ⟨ret3 rfl (congrArg (fun z => Value.int .i64 z) HKK.out) rfl, rfl⟩
    · have hltI : ¬ (kk : Int) < (n : Int) := by omega
      have hge : (n : Int) ≤ (kk : Int) := by omega
      have HF := Lib.hid (HR.out.symm.trans (rd_none (l := l.drop a) (j := j) (by have := HJ.out; omega) (by rw [List.length_drop]; have := HK.out; have := HL.out; omega) HH.out))
      go_wp2
      go_ret3
      have hf := HF.out
      simp only [Prod.mk.injEq] at hf
      obtain ⟨rfl, rfl, rfl⟩ := hf
      exact ⟨rfl, rfl⟩
end Go.Proofs.YtlkcnpmgafckoaaDoor

/-! ## RefIn -/
namespace Go.Proofs.YtlkcnpmgafckoaaDoor
open Go.RowKit

/-- The reference's reader in block g: the bytes (below g), the place, the error. -/
structure RefAt (w : World) (g : Nat) (A : Option Addr) (n c a er : Nat) (p : List UInt8) : Prop where
  blk : w.heap[g]? = some (.cells #[.slice A n c, .int .i64 (a : Int), .int .i64 (er : Int)] 92 (0, 0))
  sl : Sl w g A n c p
  le : a ≤ n
  small : p.length ≤ 1000000

section
variable {w w' : World} {g : Nat} {A : Option Addr} {n c a er : Nat} {p : List UInt8}
theorem RefAt.lt (h : RefAt w g A n c a er p) : g < w.heap.size := (Array.getElem?_eq_some_iff.1 h.blk).1
theorem RefAt.cell0 (h : RefAt w g A n c a er p) : w.cell? ⟨g, 0, none⟩ = some (.slice A n c) := by rw [cell_of_row w g 0 _ _ _ h.blk]; rfl
theorem RefAt.cell1 (h : RefAt w g A n c a er p) : w.cell? ⟨g, 1, none⟩ = some (.int .i64 (a : Int)) := by rw [cell_of_row w g 1 _ _ _ h.blk]; rfl
theorem RefAt.cell2 (h : RefAt w g A n c a er p) : w.cell? ⟨g, 2, none⟩ = some (.int .i64 (er : Int)) := by rw [cell_of_row w g 2 _ _ _ h.blk]; rfl
theorem RefAt.frz (h : RefAt w g A n c a er p) (i : Nat) : w.frozen? ⟨g, i, none⟩ = false := by simp [World.frozen?, h.blk]
theorem RefAt.drewN (h : RefAt w g A n c a er p) (k : Nat) : RefAt (w.drewN k) g A n c a er p := ⟨h.blk, h.sl.drewN k, h.le, h.small⟩
theorem RefAt.below {B : Nat} (h : RefAt w g A n c a er p) (hb : Below B w w') (hB : g < B) : RefAt w' g A n c a er p :=
  ⟨(hb.block g hB).trans h.blk, h.sl.below hb (by omega), h.le, h.small⟩
theorem RefAt.setErr (h : RefAt w g A n c a er p) (e : Nat) : RefAt (w.setCell ⟨g, 2, none⟩ (.int .i64 (e : Int))) g A n c a e p := by
  refine ⟨?_, h.sl.setCell (p := ⟨g, 2, none⟩) (Nat.le_refl _) _, h.le, h.small⟩
  have hb := h.blk
  simp [World.setCell, Array.getElem?_modify, hb]
theorem RefAt.setAt (h : RefAt w g A n c a er p) {a' : Nat} (ha : a' ≤ n) : RefAt (w.setCell ⟨g, 1, none⟩ (.int .i64 (a' : Int))) g A n c a' er p := by
  refine ⟨?_, h.sl.setCell (p := ⟨g, 1, none⟩) (Nat.le_refl _) _, ha, h.small⟩
  have hb := h.blk
  simp [World.setCell, Array.getElem?_modify, hb]
end

/-- A value is handed back; the reader has gone on so that l' is left, with the error er'. -/
def RefTold (w : World) (g : Nat) (A : Option Addr) (n c : Nat) (p : List UInt8) (v : Value) (l' : List UInt8) (er' : Nat) (e : Ending) (w' : World) : Prop :=
  ∃ a', e = .returned v ∧ RefAt w' g A n c a' er' p ∧ p.drop a' = l' ∧ w.grownBy w' (some g)

set_option maxRecDepth 100000 in
set_option maxHeartbeats 400000 in
theorem refByte_any {w : World} {g : Nat} {A : Option Addr} {n c a er : Nat} {p : List UInt8} (h : RefAt w g A n c a er p) :
    Calls Tryd.prog 42 #[.pointer (some ⟨g, 0, none⟩)] w (RefTold w g A n c p (.int .u8 ((stByte (p.drop a) er).1 : Nat)) (stByte (p.drop a) er).2.1 (stByte (p.drop a) er).2.2) := by
  have hc0 := h.cell0
  have hc1 := h.cell1
  have hc2 := h.cell2
  have hf1 := h.frz 1
  have hf2 := h.frz 2
  have hle := h.le
  have hln := h.sl.len
  have hsm := h.small
  have hnb : n ≤ 1000000 := by omega
  by_cases her : er = 0
  · subst her
    by_cases hat : a = n
    · have hst : stByte (p.drop a) 0 = (0, p.drop a, 2) := by
        rw [List.drop_eq_nil_of_le (by omega)]; simp [stByte]
      rw [hst]
      have hq : ((a : Int) == (n : Int)) = true := by simp; omega
      have HI := Lib.hid h
      clear hst h hat hln hsm
      go_enter Tryd.func42, Tryd.ntmps42
      go_wp2
      go_quiet (fail)
      go_wp2
      go_ret
      exact ⟨a, rfl, (HI.out.drewN _).setErr 2, rfl, only_trans (only_drewN (only_refl _ _) _) (only_set _ g 2 _)⟩
    · obtain ⟨b, o, x, rfl, hbb, hx, hcx⟩ := h.sl.at_ (k := a) (by omega)
      have hst : stByte (p.drop a) 0 = (x.toNat, p.drop (a + 1), 0) := by
        rw [drop_cons hx]; simp [stByte]
      rw [hst]
      have hq : ((a : Int) == (n : Int)) = false := by simp; omega
      have HI := Lib.hid h
      have hltn : a < n := by omega
      clear hst h hx hat hln hsm
      go_enter Tryd.func42, Tryd.ntmps42
      go_wp2
      go_quiet (fail)
      go_wp2
      have e1 : ((a + 1 : Nat) : Int) = (a : Int) + 1 := by omega
      have hI2 := (HI.out.drewN nq).setAt (a' := a + 1) hltn
      have hgr : w.grownBy ((w.drewN nq).setCell ⟨g, 1, none⟩ (.int .i64 ((a + 1 : Nat) : Int))) (some g) := only_trans (only_drewN (only_refl _ _) nq) (only_set _ g 1 _)
      have hbg : b < g := hbb
      have hcx2 : ((w.drewN nq).setCell ⟨g, 1, none⟩ (.int .i64 ((a + 1 : Nat) : Int))).cell? ⟨b, o + a, none⟩ = some (.int .u8 (x.toNat : Int)) := (World.cell?_setCell_other _ ⟨g, 1, none⟩ ⟨b, o + a, none⟩ _ (fun e => by injection e with e; omega)).trans hcx
      have hd0 := hI2.cell0
      have hd1 := hI2.cell1
      rw [e1] at hI2 hgr hcx2 hd0 hd1
      have hlt' : (a : Int) < (n : Int) := by omega
      clear hc0 hc1 hc2 hf1 hf2 e1 HI hcx
      generalize (w.drewN nq).setCell ⟨g, 1, none⟩ (.int .i64 ((a : Int) + 1)) = w2 at *
      go_quiet (fail)
      go_wp2
      go_ret
      exact ⟨a + 1, rfl, hI2.drewN _, rfl, only_drewN hgr _⟩
  · have hst : stByte (p.drop a) er = (0, p.drop a, er) := by simp [stByte, her]
    rw [hst]
    have hq : ((er : Int) != 0) = true := by simp; omega
    have HI := Lib.hid h
    clear hst h her hln hsm
    go_enter Tryd.func42, Tryd.ntmps42
    go_wp2
    go_ret
    exact ⟨a, rfl, HI.out, rfl, only_refl _ _⟩

set_option maxRecDepth 100000 in
set_option maxHeartbeats 400000 in
theorem refNumber_any {w : World} {g : Nat} {A : Option Addr} {n c a er : Nat} {p : List UInt8} (h : RefAt w g A n c a er p) :
    Calls Tryd.prog 44 #[.pointer (some ⟨g, 0, none⟩)] w (RefTold w g A n c p (.int .u64 ((stNum (p.drop a) er).1 : Nat)) (stNum (p.drop a) er).2.1 (stNum (p.drop a) er).2.2) := by
  have hc0 := h.cell0
  have hc1 := h.cell1
  have hc2 := h.cell2
  have hf1 := h.frz 1
  have hf2 := h.frz 2
  have hle := h.le
  have hln := h.sl.len
  have hsm := h.small
  have hnb : n ≤ 1000000 := by omega
  by_cases her : er = 0
  · subst her
    obtain ⟨⟨v, s, e⟩, hr⟩ : ∃ x, rd (p.drop a) = x := ⟨_, rfl⟩
    have hbd := rd_bd hr
    rw [List.length_drop] at hbd
    have hst : stNum (p.drop a) 0 = (v, p.drop (a + s), e) := by
      by_cases he : e = 0
      · subst he; simp [stNum, hr, List.drop_drop]
      · have h0 := hbd.2.2.2.1 he
        simp [stNum, hr, he, h0.1, h0.2]
    rw [hst]
    have hsn : a + s ≤ n := by omega
    have HR := Lib.hid hr
    have HQ : Hid (∀ q, Calls Tryd.prog 74 #[.slice A n c, .int .i64 (a : Int)] (w.drewN q) fun en w'' => en = .returned (.tuple #[.int .u64 (v : Int), .int .i64 (s : Int), .int .i64 (e : Int)]) ∧ ∃ m, w'' = w.drewN m) :=
      fun q => (refRead_any (w.drewN q) g A n c a p v s e (h.sl.drewN q) h.le HR.out h.small).mono fun _ _ ⟨he, hm⟩ => ⟨he, q, hm.symm⟩
    have HI := Lib.hid h
    clear hst h hbd hr hln hsm
    go_enter Tryd.func44, Tryd.ntmps44
    go_wp2
    go_quiet ((go_at_call 74; with_reducible exact HQ.out _))
    clear HQ
    go_wp2
    go_ret
    have e1 : ((a + s : Nat) : Int) = (a : Int) + (s : Int) := by omega
    have hI3 := ((HI.out.drewN nq).setAt hsn).setErr e
    have hgr := only_trans (only_drewN (only_refl w (some g)) nq) (only_trans (only_set (w.drewN nq) g 1 (.int .i64 ((a + s : Nat) : Int))) (only_set _ g 2 (.int .i64 (e : Int))))
    rw [e1] at hI3 hgr
    exact ⟨a + s, rfl, hI3, rfl, hgr⟩
  · have hst : stNum (p.drop a) er = (0, p.drop a, er) := by simp [stNum, her]
    rw [hst]
    have hq : ((er : Int) != 0) = true := by simp; omega
    have HI := Lib.hid h
    clear hst h her hln hsm
    go_enter Tryd.func44, Tryd.ntmps44
    go_wp2
    go_ret
    exact ⟨a, rfl, HI.out, rfl, only_refl _ _⟩

def RefDone (w : World) (g : Nat) (A : Option Addr) (n c a : Nat) (p : List UInt8) (er' : Nat) (e : Ending) (w' : World) : Prop :=
  e = .returned (.tuple #[]) ∧ RefAt w' g A n c a er' p ∧ w.grownBy w' (some g)
set_option maxRecDepth 100000 in
set_option maxHeartbeats 400000 in
theorem refFail_any {w : World} {g : Nat} {A : Option Addr} {n c a er : Nat} {p : List UInt8} (h : RefAt w g A n c a er p) (e : Nat) :
    Calls Tryd.prog 76 #[.pointer (some ⟨g, 0, none⟩), .int .i64 (e : Int)] w (RefDone w g A n c a p (failN er e)) := by
  have hc2 := h.cell2
  have hf2 := h.frz 2
  by_cases her : er = 0
  · subst her
    have hst : failN 0 e = e := by simp [failN]
    rw [hst]
    have HI := Lib.hid h
    clear hst h
    go_enter Tryd.func76, Tryd.ntmps76
    go_wp2
    go_end0
    exact ⟨rfl, HI.out.setErr e, only_set _ _ _ _⟩
  · have hst : failN er e = er := by simp [failN, her]
    rw [hst]
    have hq : ((er : Int) == 0) = false := by simp; omega
    have HI := Lib.hid h
    clear hst h her
    go_enter Tryd.func76, Tryd.ntmps76
    go_wp2
    go_end0
    exact ⟨rfl, HI.out, only_refl _ _⟩

set_option maxRecDepth 100000 in
set_option maxHeartbeats 400000 in
theorem refEnd_any {w : World} {g : Nat} {A : Option Addr} {n c a er : Nat} {p : List UInt8} (h : RefAt w g A n c a er p) :
    Calls Tryd.prog 46 #[.pointer (some ⟨g, 0, none⟩)] w (RefTold w g A n c p (.int .i64 (endN (p.drop a) er : Nat)) (p.drop a) (endN (p.drop a) er)) := by
  have hc0 := h.cell0
  have hc1 := h.cell1
  have hle := h.le
  have hln := h.sl.len
  by_cases hat : a < n
  · have hst : endN (p.drop a) er = failN er 2 := by unfold endN; rw [if_pos (by rw [List.length_drop]; omega)]
    rw [hst]
    have hatI : (a : Int) < (n : Int) := by omega
    have HI := Lib.hid h
    clear hst h hln
    go_enter Tryd.func46, Tryd.ntmps46
    go_wp2
    go_quiet (fail)
    clear hc0 hc1
    go_wp2_with fail
    refine (refFail_any (HI.out.drewN nq) 2).mono ?_
    rintro e w2 ⟨rfl, hI2, hg2⟩
    have hd := hI2.cell2
    go_wp2
    go_ret
    exact ⟨a, rfl, hI2, rfl, only_trans (only_drewN (only_refl _ _) nq) hg2⟩
  · have hst : endN (p.drop a) er = er := by unfold endN; rw [if_neg (by rw [List.length_drop]; omega)]
    rw [hst]
    have hatI : decide ((a : Int) < (n : Int)) = false := by simp; omega
    have hc2 := h.cell2
    have HI := Lib.hid h
    clear hst h hln
    go_enter Tryd.func46, Tryd.ntmps46
    go_wp2
    go_quiet (fail)
    go_wp2
    go_ret
    exact ⟨a, rfl, HI.out.drewN nq, rfl, only_drewN (only_refl _ _) nq⟩

/-- Bytes are handed back, in a new row; the reader has gone on. -/
def RefRow (w : World) (g : Nat) (A : Option Addr) (n c : Nat) (p : List UInt8) (b : List UInt8) (l' : List UInt8) (er' : Nat) (e : Ending) (w' : World) : Prop :=
  ∃ a' A1 n1 c1, e = .returned (.slice A1 n1 c1) ∧ w'.ownsRow w.heap.size 5 1 (.slice A1 n1 c1) n1 (cbs b) ∧ RefAt w' g A n c a' er' p ∧ p.drop a' = l' ∧ w.grownBy w' (some g)

set_option maxRecDepth 100000 in
set_option maxHeartbeats 1000000 in
theorem refSome_any {w : World} {g : Nat} {A : Option Addr} {n c a er : Nat} {p : List UInt8} (h : RefAt w g A n c a er p) (most : Int) (hm : IntKind.u64.wrap most = most ∨ most < 0) :
    Calls Tryd.prog 87 #[.pointer (some ⟨g, 0, none⟩), .int .i64 most] w (RefRow w g A n c p (stBytes (p.drop a) er most).1 (stBytes (p.drop a) er most).2.1 (stBytes (p.drop a) er most).2.2) := by
  have hc0 := h.cell0
  have hc1 := h.cell1
  have hc2 := h.cell2
  have hf1 := h.frz 1
  have hf2 := h.frz 2
  have hle := h.le
  have hln := h.sl.len
  have hsm := h.small
  have hnb : n ≤ 1000000 := by omega
  have HM := Lib.hid hm; clear hm
  by_cases her : er = 0
  · subst her
    obtain ⟨⟨v, s, e⟩, hr⟩ : ∃ x, rd (p.drop a) = x := ⟨_, rfl⟩
    have hbd := rd_bd hr
    rw [List.length_drop] at hbd
    have hsn : a + s ≤ n := by omega
    have HR := Lib.hid hr
    have HVB := Lib.hid hbd.1
    have HQ : Hid (∀ q, Calls Tryd.prog 74 #[.slice A n c, .int .i64 (a : Int)] (w.drewN q) fun en w'' => en = .returned (.tuple #[.int .u64 (v : Int), .int .i64 (s : Int), .int .i64 (e : Int)]) ∧ ∃ m, w'' = w.drewN m) :=
      fun q => (refRead_any (w.drewN q) g A n c a p v s e (h.sl.drewN q) h.le HR.out h.small).mono fun _ _ ⟨he, hm⟩ => ⟨he, q, hm.symm⟩
    by_cases he : e = 0
    · subst he
      by_cases hj1 : most < 0 ∨ most < (v : Int)
      · have hst : stBytes (p.drop a) 0 most = ([], p.drop a, 6) := by
          have hj : judgeN v most ((p.drop a).length - s) = 6 := by unfold judgeN; rw [if_pos hj1]
          unfold stBytes
          rw [hr, if_pos rfl]
          simp only
          rw [hj]
          rfl
        rw [hst]
        have HI := Lib.hid h
        clear hst h hbd hr hln hsm
        by_cases hm0 : most < 0
        · clear hj1
          go_enter Tryd.func87, Tryd.ntmps87
          go_wp2
          go_quiet ((go_at_call 74; with_reducible exact HQ.out _))
          clear HQ
          have hI1 := HI.out.drewN nq
          have hg1 : w.grownBy (w.drewN nq) (some g) := only_drewN (only_refl _ _) nq
          have hd0 := hI1.cell0
          have hd1 := hI1.cell1
          have hd2 := hI1.cell2
          have hk1 := hI1.frz 1
          have hk2 := hI1.frz 2
          have HI1 := Lib.hid hI1
          clear hc0 hc1 hc2 hf1 hf2 HI hI1
          generalize w.drewN nq = w2 at *
          go_wp2
          go_quiet (fail)
          go_wp2
          go_ret
          exact ⟨a, none, 0, 0, rfl, own_nil _ _, (HI1.out.drewN _).setErr 6, rfl, only_trans hg1 (only_trans (only_drewN (only_refl _ _) _) (only_set _ g 2 _))⟩
        · have hw1 : IntKind.u64.wrap most = most := HM.out.resolve_right hm0
          have hmv : most < (v : Int) := hj1.resolve_left hm0
          clear hj1
          go_enter Tryd.func87, Tryd.ntmps87
          go_wp2
          go_quiet ((go_at_call 74; with_reducible exact HQ.out _))
          clear HQ
          have hI1 := HI.out.drewN nq
          have hg1 : w.grownBy (w.drewN nq) (some g) := only_drewN (only_refl _ _) nq
          have hd0 := hI1.cell0
          have hd1 := hI1.cell1
          have hd2 := hI1.cell2
          have hk1 := hI1.frz 1
          have hk2 := hI1.frz 2
          have HI1 := Lib.hid hI1
          clear hc0 hc1 hc2 hf1 hf2 HI hI1
          generalize w.drewN nq = w2 at *
          go_wp2
          go_quiet (fail)
          go_wp2
          go_ret
          exact ⟨a, none, 0, 0, rfl, own_nil _ _, (HI1.out.drewN _).setErr 6, rfl, only_trans hg1 (only_trans (only_drewN (only_refl _ _) _) (only_set _ g 2 _))⟩
      · have hm0 : ¬ most < 0 := fun h => hj1 (.inl h)
        have hmv : ¬ most < (v : Int) := fun h => hj1 (.inr h)
        have hw1 : IntKind.u64.wrap most = most := HM.out.resolve_right hm0
        obtain ⟨r, hr2⟩ : ∃ r, r = n - a - s := ⟨_, rfl⟩
        have e6 : (n : Int) - (a : Int) - (s : Int) = (r : Int) := by omega
        have hrb : r ≤ 1000000 := by omega
        have hwr : IntKind.u64.wrap (r : Int) = (r : Int) := by rw [IntKind.wrap_u64]; omega
        have HRE := Lib.hid hr2
        by_cases hj2 : r < v
        · have hst : stBytes (p.drop a) 0 most = ([], p.drop a, 2) := by
            have hj : judgeN v most ((p.drop a).length - s) = 2 := by
              unfold judgeN; rw [if_neg hj1, if_pos (by rw [List.length_drop]; omega)]
            unfold stBytes
            rw [hr, if_pos rfl]
            simp only
            rw [hj]
            rfl
          rw [hst]
          have HI := Lib.hid h
          have hj2I : (r : Int) < (v : Int) := by omega
          clear hst h hbd hr hln hsm hj1 hr2
          go_enter Tryd.func87, Tryd.ntmps87
          go_wp2
          go_quiet ((go_at_call 74; with_reducible exact HQ.out _))
          clear HQ
          have hI1 := HI.out.drewN nq
          have hg1 : w.grownBy (w.drewN nq) (some g) := only_drewN (only_refl _ _) nq
          have hd0 := hI1.cell0
          have hd1 := hI1.cell1
          have hd2 := hI1.cell2
          have hk1 := hI1.frz 1
          have hk2 := hI1.frz 2
          have HI1 := Lib.hid hI1
          clear hc0 hc1 hc2 hf1 hf2 HI hI1
          generalize w.drewN nq = w2 at *
          go_wp2
          go_quiet (fail)
          go_wp2
          go_ret
          exact ⟨a, none, 0, 0, rfl, own_nil _ _, (HI1.out.drewN _).setErr 2, rfl, only_trans hg1 (only_trans (only_drewN (only_refl _ _) _) (only_set _ g 2 _))⟩
        · have hst : stBytes (p.drop a) 0 most = ((p.drop (a + s)).take v, p.drop (a + s + v), 0) := by
            have hj : judgeN v most ((p.drop a).length - s) = 0 := by
              unfold judgeN; rw [if_neg hj1, if_neg (by rw [List.length_drop]; omega)]
            unfold stBytes
            rw [hr, if_pos rfl]
            simp only
            rw [hj, List.drop_drop, List.drop_drop, ← Nat.add_assoc]
            rfl
          have HI := Lib.hid h
          have hj2I : ¬ (r : Int) < (v : Int) := by omega
          have hv3 : a + s + v ≤ n := by omega
          have HST := Lib.hid hst
          clear hst h hbd hr hln hsm hj1 hr2
          go_enter Tryd.func87, Tryd.ntmps87
          go_wp2
          go_quiet ((go_at_call 74; with_reducible exact HQ.out _))
          clear HQ
          have hI1 := HI.out.drewN nq
          have hg1 : w.grownBy (w.drewN nq) (some g) := only_drewN (only_refl _ _) nq
          have hd0 := hI1.cell0
          have hd1 := hI1.cell1
          have hd2 := hI1.cell2
          have hk1 := hI1.frz 1
          have hk2 := hI1.frz 2
          have HI1 := Lib.hid hI1
          clear hc0 hc1 hc2 hf1 hf2 HI hI1
          generalize w.drewN nq = w2 at *
          go_wp2
          go_quiet (fail)
          have hI3 := HI1.out.drewN nq
          have hg3 : w.grownBy (w2.drewN nq) (some g) := only_trans hg1 (only_drewN (only_refl _ _) nq)
          have hx0 := hI3.cell0
          have hx1 := hI3.cell1
          have hx2 := hI3.cell2
          have hy1 := hI3.frz 1
          have HI3 := Lib.hid hI3
          clear hd0 hd1 hd2 hk1 hk2 HI1 hI3 hg1
          generalize w2.drewN nq = w3 at *
          have hvb : v ≤ 1000000 := by omega
          obtain ⟨m, hm⟩ : ∃ m, m = a + s := ⟨_, rfl⟩
          have e7 : (a : Int) + (s : Int) = (m : Int) := by omega
          obtain ⟨u, hu⟩ : ∃ u, u = m + v := ⟨_, rfl⟩
          have e8 : (m : Int) + (v : Int) = (u : Int) := by omega
          have i0 : (0 : Int) ≤ (m : Int) := by omega
          have i1 : (m : Int) ≤ (u : Int) := by omega
          have hnc := HI3.out.sl.le
          have i2 : (u : Int) ≤ (c : Int) := by omega
          have hsl := (HI3.out.sl.take (k := u) (m := c) (by omega) (by omega) (Nat.le_refl _)).drop (k := m) (by omega)
          have HMU := Lib.hid (And.intro hm hu)
          clear hm hu hwr e6 hj2I hw1
          have w7 : IntKind.i64.wrap ((a : Int) + (s : Int)) = (m : Int) := by rw [e7]; exact IntWalk.i64_in _ (by omega)
          have w8 : IntKind.i64.wrap ((m : Int) + (v : Int)) = (u : Int) := by rw [e8]; exact IntWalk.i64_in _ (by omega)
          have w9 : IntKind.i64.wrap (v : Int) = (v : Int) := IntWalk.i64_in _ (by omega)
          clear e7 e8
          by_cases hcm : c = m
          · subst hcm
            have huc : u = c := by omega
            subst huc
            rw [if_pos rfl, Nat.sub_self] at hsl
            go_wp2
            go_still_tail 20, (by kernel_rfl)
            change wpList _ _ _ _ _ w3.drew
            have hI4 : RefAt w3.drew g A n u a 0 p := HI3.out.drewN 1
            have hg4 : w.grownBy w3.drew (some g) := only_drewN hg3 1
            have hsl4 := hsl.drew
            clear hx0 hx1 hx2 hy1 HI3 hsl hg3
            generalize w3.drew = w4 at *
            go_wp2_with fail
            have hsl5 : Sl w4 w4.heap.size A 0 0 ((p.drop (a + s)).take v) := by
              have h5 := hsl4.more (Nat.le_of_lt hI4.lt)
              have hmu := HMU.out
              have hl0 : (p.drop (a + s)).take v = [] := by rw [show v = 0 from by omega]; simp
              rw [hl0]
              exact Sl.nil_ _ _ _ _ (Nat.zero_le _)
            have hlen5 : ((p.drop (a + s)).take v).length ≤ 1000000 := by rw [List.length_take]; omega
            refine (join_one _ w4.heap.size A 0 0 ((p.drop (a + s)).take v) (by simp) (by simp) (by exact hsl5.onA _) hlen5).mono ?_
            rintro e w5 ⟨A5, n5, c5, rfl, hown5, hbel5⟩
            have hb5 : Below w4.heap.size w4 w5 := ((Below.refl _ w4).alloc (Nat.le_refl _) _).trans (hbel5.mono (by simp))
            have h5r : w5.ownsRow w4.heap.size 5 1 (.slice A5 n5 c5) n5 (cbs ((p.drop (a + s)).take v)) := own_lower hown5 (by simp)
            have hgw4 := hI4.lt
            have hzs4 := hg4.size
            have hI5 := hI4.below hb5 hI4.lt
            have hg5 := only_trans hg4 (only_below hb5 _)
            have hz1 := hI5.cell1
            have hzf := hI5.frz 1
            have HI5 := Lib.hid hI5
            clear hown5 hbel5 hb5 hI4 hI5 hsl4 hsl5 hlen5 hg4 w7 w8 w9
            go_wp2
            go_ret
            rw [HST.out]
            have e9 : ((a + (s + v) : Nat) : Int) = (a : Int) + ((s : Int) + (v : Int)) := by omega
            have hI6 := HI5.out.setAt (a' := a + (s + v)) (by omega)
            rw [e9] at hI6
            exact ⟨a + (s + v), A5, n5, c5, rfl, own_lower (ownsRow_setCell_below h5r (a := ⟨g, 1, none⟩) hgw4 _) hzs4, hI6, by rw [Nat.add_assoc], only_trans hg5 (only_set _ g 1 _)⟩
          · rw [if_neg hcm] at hsl
            go_wp2
            go_still_tail 20, (by kernel_rfl)
            change wpList _ _ _ _ _ w3.drew
            have hI4 : RefAt w3.drew g A n c a 0 p := HI3.out.drewN 1
            have hg4 : w.grownBy w3.drew (some g) := only_drewN hg3 1
            have hsl4 := hsl.drew
            clear hx0 hx1 hx2 hy1 HI3 hsl hg3
            generalize w3.drew = w4 at *
            go_wp2_with fail
            have hsl5 : Sl w4 w4.heap.size (A.map (·.add m)) (u - m) (c - m) ((p.drop (a + s)).take v) := by
              have h5 := hsl4.more (Nat.le_of_lt hI4.lt)
              have hmu := HMU.out
              rw [hmu.2, List.drop_take, show m + v - m = v from by omega, hmu.1] at h5
              rw [hmu.2, hmu.1, show a + s + v - (a + s) = v from by omega]
              exact h5
            have hlen5 : ((p.drop (a + s)).take v).length ≤ 1000000 := by rw [List.length_take]; omega
            refine (join_one _ w4.heap.size (A.map (·.add m)) (u - m) (c - m) ((p.drop (a + s)).take v) (by simp) (by simp) (by exact hsl5.onA _) hlen5).mono ?_
            rintro e w5 ⟨A5, n5, c5, rfl, hown5, hbel5⟩
            have hb5 : Below w4.heap.size w4 w5 := ((Below.refl _ w4).alloc (Nat.le_refl _) _).trans (hbel5.mono (by simp))
            have h5r : w5.ownsRow w4.heap.size 5 1 (.slice A5 n5 c5) n5 (cbs ((p.drop (a + s)).take v)) := own_lower hown5 (by simp)
            have hgw4 := hI4.lt
            have hzs4 := hg4.size
            have hI5 := hI4.below hb5 hI4.lt
            have hg5 := only_trans hg4 (only_below hb5 _)
            have hz1 := hI5.cell1
            have hzf := hI5.frz 1
            have HI5 := Lib.hid hI5
            clear hown5 hbel5 hb5 hI4 hI5 hsl4 hsl5 hlen5 hg4 w7 w8 w9
            go_wp2
            go_ret
            rw [HST.out]
            have e9 : ((a + (s + v) : Nat) : Int) = (a : Int) + ((s : Int) + (v : Int)) := by omega
            have hI6 := HI5.out.setAt (a' := a + (s + v)) (by omega)
            rw [e9] at hI6
            exact ⟨a + (s + v), A5, n5, c5, rfl, own_lower (ownsRow_setCell_below h5r (a := ⟨g, 1, none⟩) hgw4 _) hzs4, hI6, by rw [Nat.add_assoc], only_trans hg5 (only_set _ g 1 _)⟩
    · have hst : stBytes (p.drop a) 0 most = ([], p.drop a, e) := by simp [stBytes, hr, he]
      rw [hst]
      have hq1 : ((e : Int) == 0) = false := by simp; omega
      have hq2 : ((e : Int) != 0) = true := by simp; omega
      have HI := Lib.hid h
      clear hst h hbd hr hln hsm he
      go_enter Tryd.func87, Tryd.ntmps87
      go_wp2
      go_quiet ((go_at_call 74; with_reducible exact HQ.out _))
      clear HQ
      have hI1 := HI.out.drewN nq
      have hg1 : w.grownBy (w.drewN nq) (some g) := only_drewN (only_refl _ _) nq
      have hd0 := hI1.cell0
      have hd1 := hI1.cell1
      have hd2 := hI1.cell2
      have hk1 := hI1.frz 1
      have hk2 := hI1.frz 2
      have HI1 := Lib.hid hI1
      clear hc0 hc1 hc2 hf1 hf2 HI hI1
      generalize w.drewN nq = w2 at *
      go_wp2
      go_quiet (fail)
      go_wp2
      go_ret
      exact ⟨a, none, 0, 0, rfl, own_nil _ _, (HI1.out.drewN _).setErr e, rfl, only_trans hg1 (only_trans (only_drewN (only_refl _ _) _) (only_set _ g 2 _))⟩
  · have hst : stBytes (p.drop a) er most = ([], p.drop a, er) := by simp [stBytes, her]
    rw [hst]
    have hq : ((er : Int) != 0) = true := by simp; omega
    have HI := Lib.hid h
    clear hst h her hln hsm
    go_enter Tryd.func87, Tryd.ntmps87
    go_wp2
    go_ret
    exact ⟨a, none, 0, 0, rfl, own_nil _ _, HI.out, rfl, only_refl _ _⟩
end Go.Proofs.YtlkcnpmgafckoaaDoor

/-! ## RefSpan -/
namespace Go.Proofs.YtlkcnpmgafckoaaDoor
open Go.RowKit

theorem RefAt.kept {w w' : World} {g : Nat} {A : Option Addr} {n c a er : Nat} {p : List UInt8} {row : Option Nat} (h : RefAt w g A n c a er p) (hg : w.grownBy w' row) (hr : ∀ k, row = some k → g < k) : RefAt w' g A n c a er p := by
  have hb : ∀ k, k ≤ g → w'.heap[k]? = w.heap[k]? := fun k hk => hg.block k (Nat.lt_of_le_of_lt hk h.lt) (fun e => by have := hr k e.symm; omega)
  exact ⟨(hb g (Nat.le_refl _)).trans h.blk, h.sl.keep fun b o hbg => World.cell?_of_block (a := ⟨b, o, none⟩) (hb b (by omega)), h.le, h.small⟩

def RefSpanTold (w : World) (g : Nat) (A : Option Addr) (n c : Nat) (p : List UInt8) (k : Nat) (b l' : List UInt8) (er' : Nat) (e : Ending) (w' : World) : Prop :=
  ∃ a' A1 n1 c1, e = .returned (spv (k : Int) A1 n1 c1) ∧ w'.ownsRow w.heap.size 5 1 (.slice A1 n1 c1) n1 (cbs b) ∧ RefAt w' g A n c a' er' p ∧ p.drop a' = l' ∧ w.grownBy w' (some g)
def RefItemTold (w : World) (g : Nat) (A : Option Addr) (n c : Nat) (p : List UInt8) (N k : Nat) (b l' : List UInt8) (er' : Nat) (e : Ending) (w' : World) : Prop :=
  ∃ a' A1 n1 c1, e = .returned (itv N (k : Int) A1 n1 c1) ∧ w'.ownsRow w.heap.size 5 1 (.slice A1 n1 c1) n1 (cbs b) ∧ RefAt w' g A n c a' er' p ∧ p.drop a' = l' ∧ w.grownBy w' (some g)

theorem ref_set {w w4 : World} {g base r : Nat} {A5 : Option Addr} {n5 c5 : Nat} {b : List UInt8} {A : Option Addr} {n c a e3 : Nat} {p l2 : List UInt8} (k : Nat) (u0 u1 : Value) (hgz : w.grownBy w4 (some g)) (hgw : g < w.heap.size) (hr : w.heap.size ≤ r) (hin : RefAt w4 g A n c a e3 p) (hd : p.drop a = l2) (hown : w4.ownsRow base 5 1 (.slice A5 n5 c5) n5 (cbs b)) (hrb : r < base) :
    RefSpanTold w g A n c p k b l2 e3 (.returned (spv (k : Int) A5 n5 c5)) ((w4.setCell ⟨r, 0, none⟩ u0).setCell ⟨r, 1, none⟩ u1) := by
  refine ⟨a, A5, n5, c5, rfl, own_lower (own_other u1 (own_other u0 hown hrb) hrb) (by omega), ?_, hd, only_new (only_new hgz hr rfl) hr rfl⟩
  exact (hin.kept (only_set w4 r 0 u0) (fun k hk => by injection hk; omega)).kept (only_set _ r 1 u1) (fun k hk => by injection hk; omega)
theorem ref_set3 {w w4 : World} {g base r : Nat} {A5 : Option Addr} {n5 c5 : Nat} {b : List UInt8} {A : Option Addr} {n c a e3 : Nat} {p l2 : List UInt8} (N k : Nat) (u0 u1 u2 : Value) (hgz : w.grownBy w4 (some g)) (hgw : g < w.heap.size) (hr : w.heap.size ≤ r) (hin : RefAt w4 g A n c a e3 p) (hd : p.drop a = l2) (hown : w4.ownsRow base 5 1 (.slice A5 n5 c5) n5 (cbs b)) (hrb : r < base) :
    RefItemTold w g A n c p N k b l2 e3 (.returned (itv N (k : Int) A5 n5 c5)) (((w4.setCell ⟨r, 0, none⟩ u0).setCell ⟨r, 1, none⟩ u1).setCell ⟨r, 2, none⟩ u2) := by
  refine ⟨a, A5, n5, c5, rfl, own_lower (own_other u2 (own_other u1 (own_other u0 hown hrb) hrb) hrb) (by omega), ?_, hd, only_new (only_new (only_new hgz hr rfl) hr rfl) hr rfl⟩
  exact ((hin.kept (only_set w4 r 0 u0) (fun k hk => by injection hk; omega)).kept (only_set _ r 1 u1) (fun k hk => by injection hk; omega)).kept (only_set _ r 2 u2) (fun k hk => by injection hk; omega)

theorem RefItemTold.box {w w' : World} {g : Nat} {A : Option Addr} {n c N k er' : Nat} {p b l' : List UInt8} {e : Ending} (h : RefItemTold w g A n c p N k b l' er' e w') (o : Obj) : RefItemTold w g A n c p N k b l' er' e (w'.alloc o) := by
  obtain ⟨a', A1, n1, c1, he, hown, hr, hd, hg⟩ := h
  exact ⟨a', A1, n1, c1, he, hown.alloc o, hr.below (below_box w' o) hr.lt, hd, only_trans hg (only_below (below_box w' o) _)⟩
theorem cells_set3A {w : World} {r : Nat} {a0 a1 a2 : Value} (u0 u1 u2 : Value) (o : Obj) (h0 : w.cell? ⟨r, 0, none⟩ = some a0) (h1 : w.cell? ⟨r, 1, none⟩ = some a1) (h2 : w.cell? ⟨r, 2, none⟩ = some a2) (hr : r < w.heap.size) :
    ((((w.setCell ⟨r, 0, none⟩ u0).setCell ⟨r, 1, none⟩ u1).setCell ⟨r, 2, none⟩ u2).alloc o).cell? ⟨r, 0, none⟩ = some u0 ∧ ((((w.setCell ⟨r, 0, none⟩ u0).setCell ⟨r, 1, none⟩ u1).setCell ⟨r, 2, none⟩ u2).alloc o).cell? ⟨r, 1, none⟩ = some u1 ∧
      ((((w.setCell ⟨r, 0, none⟩ u0).setCell ⟨r, 1, none⟩ u1).setCell ⟨r, 2, none⟩ u2).alloc o).cell? ⟨r, 2, none⟩ = some u2 := by
  obtain ⟨f0, f1, f2⟩ := cells_set3 u0 u1 u2 h0 h1 h2
  have hz : r < (((w.setCell ⟨r, 0, none⟩ u0).setCell ⟨r, 1, none⟩ u1).setCell ⟨r, 2, none⟩ u2).heap.size := by simpa [World.setCell] using hr
  exact ⟨(World.cell?_alloc_lt _ o ⟨r, 0, none⟩ hz).trans f0, (World.cell?_alloc_lt _ o ⟨r, 1, none⟩ hz).trans f1, (World.cell?_alloc_lt _ o ⟨r, 2, none⟩ hz).trans f2⟩

set_option maxRecDepth 100000 in
set_option maxHeartbeats 1000000 in
theorem refGet_any {w : World} {g : Nat} {A : Option Addr} {n c a er : Nat} {p : List UInt8} (h : RefAt w g A n c a er p) :
    Calls Tryd.prog 75 #[.pointer (some ⟨g, 0, none⟩)] w (RefSpanTold w g A n c p (stSpan (p.drop a) er).1 (stSpan (p.drop a) er).2.1 (stSpan (p.drop a) er).2.2.1 (stSpan (p.drop a) er).2.2.2) := by
  obtain ⟨⟨k, l1, e1⟩, h1⟩ : ∃ x, stByte (p.drop a) er = x := ⟨_, rfl⟩
  obtain ⟨⟨b, l2, e3⟩, h3⟩ : ∃ x, stBytes l1 (cls8 k e1) 4096 = x := ⟨_, rfl⟩
  have hk := stByte_lt h1
  have HI := Lib.hid h
  have H1 := Lib.hid h1
  have H3 := Lib.hid h3
  have hgw := h.lt
  clear h h1 h3
  obtain ⟨st, HST⟩ : ∃ st, Hid (st = stSpan (p.drop a) er) := ⟨_, rfl⟩
  rw [← HST.out]
  go_enter Tryd.func75, Tryd.ntmps75
  go_wp2_with fail
  have hin := HI.out.below (below_box w (Obj.cells #[.int .i64 0, .slice none 0 0] 71)) hgw
  have hres := heap_alloc_new w (Obj.cells #[.int .i64 0, .slice none 0 0] 71)
  generalize hwb : w.alloc (Obj.cells #[.int .i64 0, .slice none 0 0] 71) = wb at *
  have HWB := Lib.hid hwb; clear hwb
  have c1 := refByte_any hin
  rw [H1.out] at c1
  refine c1.mono ?_
  rintro e w2 ⟨a2, rfl, hin2, hd2, hg2⟩
  have hres2 := only_block hg2 hres (by intro e; injection e with e; omega)
  clear c1 hin hres
  rcases Nat.lt_or_ge k 8 with h8 | h8
  all_goals first
   | (have h8l : k < 8 := h8
      have h8I : ¬ (7 : Int) < (k : Int) := by omega
      have e2 : cls8 k e1 = e1 := by unfold cls8; rw [if_neg (by omega)]
      have hin3 : RefAt w2 g A n c a2 (cls8 k e1) p := by rw [e2]; exact hin2
      have hres3 := hres2
      have hga := hg2
      clear hin2 hg2 hres2
      go_wp2_with fail)
   | (have h8l : 8 ≤ k := h8
      have h8I : (7 : Int) < (k : Int) := by omega
      go_wp2_with fail
      have c2 := refFail_any hin2 2
      have e2 : failN e1 2 = cls8 k e1 := by simp [cls8, h8]
      rw [e2] at c2
      refine c2.mono ?_
      rintro e w3 ⟨rfl, hin3, hg3⟩
      have hres3 := only_block hg3 hres2 (by intro e; injection e with e; omega)
      have hga := only_trans hg2 hg3
      clear c2 e2 hin2 hg2 hg3 hres2
      go_wp2_with fail)
  all_goals (
    have c3' := refSome_any hin3 4096 (.inl (by rw [IntKind.wrap_u64]; omega))
    rw [hd2, H3.out] at c3'
    refine c3'.mono ?_
    rintro e w4 ⟨a4, A5, n5, c5, rfl, hown4, hin4, hd4, hg4⟩
    have hres4 := only_block hg4 hres3 (by intro e; injection e with e; omega)
    have hgb := only_trans hga hg4
    have hrb := (Array.getElem?_eq_some_iff.1 hres3).1
    clear c3' hin3 hg4 hres3 hga
    have hce := hin4.cell2
    have hq0 : w4.cell? ⟨w.heap.size, 0, none⟩ = some (.int .i64 0) := by rw [cell_of_row w4 w.heap.size 0 _ _ _ hres4]; rfl
    have hq1 : w4.cell? ⟨w.heap.size, 1, none⟩ = some (.slice none 0 0) := by rw [cell_of_row w4 w.heap.size 1 _ _ _ hres4]; rfl
    have hf0 := frz_block (i := 0) hres4
    have hf1 := frz_block (i := 1) hres4
    have hgz : w.grownBy w4 (some g) := by rw [← HWB.out] at hgb; exact only_box hgb
    clear hres4 hgb HWB
    by_cases he3 : e3 = 0
    · have he3I : ((e3 : Int) != 0) = false := by simp; omega
      have hst : st = (k, b, l2, 0) := by rw [HST.out]; exact stSpan_ok H1.out (by rw [H3.out, he3])
      subst he3
      go_wp2
      obtain ⟨f0, f1⟩ := cells_set2 (.int .i64 (k : Int)) (.slice A5 n5 c5) hq0 hq1
      refine bodyPost_ret (v := .agg #[.int .i64 (k : Int), .slice A5 n5 c5]) (by simp [results, Tryd.results75, go_sem, f0, f1]) rfl ?_
      rw [hst]
      exact ref_set k _ _ hgz hgw (Nat.le_refl _) hin4 hd4 hown4 hrb
    · have he3I : ((e3 : Int) != 0) = true := by simp; omega
      have hst : st = (0, [], l2, e3) := by rw [HST.out]; exact stSpan_no H1.out H3.out he3
      go_wp2
      obtain ⟨f0, f1⟩ := cells_set2 (.int .i64 0) (.slice none 0 0) hq0 hq1
      refine bodyPost_ret (v := .agg #[.int .i64 0, .slice none 0 0]) (by simp [results, Tryd.results75, go_sem, f0, f1]) rfl ?_
      rw [hst]
      exact ref_set 0 _ _ hgz hgw (Nat.le_refl _) hin4 hd4 (own_nil w4 _) (Nat.lt_succ_self _))

set_option maxRecDepth 100000 in
set_option maxHeartbeats 1000000 in
theorem refGetItem_any {w : World} {g : Nat} {A : Option Addr} {n c a er : Nat} {p : List UInt8} (h : RefAt w g A n c a er p) :
    Calls Tryd.prog 45 #[.pointer (some ⟨g, 0, none⟩)] w (RefItemTold w g A n c p (stItem (p.drop a) er).1 (stItem (p.drop a) er).2.1 (stItem (p.drop a) er).2.2.1 (stItem (p.drop a) er).2.2.2.1 (stItem (p.drop a) er).2.2.2.2) := by
  obtain ⟨⟨N, l1, e1⟩, h1⟩ : ∃ x, stNum (p.drop a) er = x := ⟨_, rfl⟩
  obtain ⟨⟨k, b, l2, e3⟩, h3⟩ : ∃ x, stSpan l1 e1 = x := ⟨_, rfl⟩
  have HI := Lib.hid h
  have H1 := Lib.hid h1
  have H3 := Lib.hid h3
  have hgw := h.lt
  clear h h1 h3
  obtain ⟨st, HST⟩ : ∃ st, Hid (st = stItem (p.drop a) er) := ⟨_, rfl⟩
  rw [← HST.out]
  go_enter Tryd.func45, Tryd.ntmps45
  go_wp2_with fail
  have hin := HI.out.below (below_box w (Obj.cells #[.int .u64 0, .int .i64 0, .slice none 0 0] 73)) hgw
  have hres := heap_alloc_new w (Obj.cells #[.int .u64 0, .int .i64 0, .slice none 0 0] 73)
  generalize hwb : w.alloc (Obj.cells #[.int .u64 0, .int .i64 0, .slice none 0 0] 73) = wb at *
  have HWB := Lib.hid hwb; clear hwb
  have c1 := refNumber_any hin
  rw [H1.out] at c1
  refine c1.mono ?_
  rintro e w2 ⟨a2, rfl, hin2, hd2, hg2⟩
  have hres2 := only_block hg2 hres (by intro e; injection e with e; omega)
  clear c1 hin hres
  go_wp2_with fail
  have c3' := refGet_any hin2
  simp only [hd2, H3.out] at c3'
  refine c3'.mono ?_
  rintro e w4 ⟨a4, A5, n5, c5, rfl, hown4, hin4, hd4, hg4⟩
  have hres4 := only_block hg4 hres2 (by intro e; injection e with e; omega)
  have hgb := only_trans hg2 hg4
  have hrb := (Array.getElem?_eq_some_iff.1 hres2).1
  have hgz : w.grownBy w4 (some g) := by rw [← HWB.out] at hgb; exact only_box hgb
  have hz4 := Nat.lt_of_lt_of_le hgw hgz.size
  clear c3' hin2 hg4 hres2 hg2 hgb HWB
  have hin5 := hin4.below (below_box w4 (Obj.cells #[.int .i64 (k : Int), .slice A5 n5 c5] 71)) hz4
  have hown5 := hown4.alloc (Obj.cells #[.int .i64 (k : Int), .slice A5 n5 c5] 71)
  have hres5 := (Below.heap_alloc w4 (Obj.cells #[.int .i64 (k : Int), .slice A5 n5 c5] 71) _ (Array.getElem?_eq_some_iff.1 hres4).1).trans hres4
  have hg5 : w.grownBy (w4.alloc (Obj.cells #[.int .i64 (k : Int), .slice A5 n5 c5] 71)) (some g) := only_trans hgz (only_below (below_box w4 _) _)
  have hce := hin5.cell2
  have hs0 : (w4.alloc (Obj.cells #[.int .i64 (k : Int), .slice A5 n5 c5] 71)).cell? ⟨w4.heap.size, 0, none⟩ = some (.int .i64 (k : Int)) := by simp
  have hs1 : (w4.alloc (Obj.cells #[.int .i64 (k : Int), .slice A5 n5 c5] 71)).cell? ⟨w4.heap.size, 1, none⟩ = some (.slice A5 n5 c5) := by simp
  have hq0 : w4.cell? ⟨w.heap.size, 0, none⟩ = some (.int .u64 0) := by rw [cell_of_row w4 w.heap.size 0 _ _ _ hres4]; rfl
  have hq1 : w4.cell? ⟨w.heap.size, 1, none⟩ = some (.int .i64 0) := by rw [cell_of_row w4 w.heap.size 1 _ _ _ hres4]; rfl
  have hq2 : w4.cell? ⟨w.heap.size, 2, none⟩ = some (.slice none 0 0) := by rw [cell_of_row w4 w.heap.size 2 _ _ _ hres4]; rfl
  have hf0 := frz_block (i := 0) hres4
  have hf1 := frz_block (i := 1) hres4
  have hf2 := frz_block (i := 2) hres4
  have hrz := (Array.getElem?_eq_some_iff.1 hres4).1
  have hce4 := hin4.cell2
  clear hres4 hres5 hin5 hown5 hg5 hs0 hs1
  unfold spv
  by_cases he3 : e3 = 0
  · have he3I : ((e3 : Int) != 0) = false := by simp; omega
    have hst : st = (N, k, b, l2, 0) := by rw [HST.out]; exact stItem_ok H1.out (by rw [H3.out, he3])
    subst he3
    go_wp2
    obtain ⟨f0, f1, f2⟩ := cells_set3A (.int .u64 (N : Int)) (.int .i64 (k : Int)) (.slice A5 n5 c5) (Obj.cells #[.int .i64 (k : Int), .slice A5 n5 c5] 71) hq0 hq1 hq2 hrz
    refine bodyPost_ret (v := .agg #[.int .u64 (N : Int), .int .i64 (k : Int), .slice A5 n5 c5]) (by simp [results, Tryd.results45, go_sem, f0, f1, f2]) rfl ?_
    rw [hst]
    exact (ref_set3 N k _ _ _ hgz hgw (Nat.le_refl _) hin4 hd4 hown4 hrb).box _
  · have he3I : ((e3 : Int) != 0) = true := by simp; omega
    have hst : st = (0, 0, [], l2, e3) := by rw [HST.out]; exact stItem_no H1.out H3.out he3
    go_wp2
    obtain ⟨f0, f1, f2⟩ := cells_set3A (.int .u64 0) (.int .i64 0) (.slice none 0 0) (Obj.cells #[.int .i64 (k : Int), .slice A5 n5 c5] 71) hq0 hq1 hq2 hrz
    refine bodyPost_ret (v := .agg #[.int .u64 0, .int .i64 0, .slice none 0 0]) (by simp [results, Tryd.results45, go_sem, f0, f1, f2]) rfl ?_
    rw [hst]
    exact (ref_set3 0 0 _ _ _ hgz hgw (Nat.le_refl _) hin4 hd4 (own_nil w4 _) (Nat.lt_succ_self _)).box _
end Go.Proofs.YtlkcnpmgafckoaaDoor
