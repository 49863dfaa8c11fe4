/-
  THE WALK of the law SpanRows: whatever the items and the cut, it returns true, and turns nothing that was there.
-/
import Derived.Test.YtlkcnpmgafckoaaDoorRowsKept
import Derived.Deep.LoopGhost
namespace Go.Proofs.YtlkcnpmgafckoaaDoor
open Go.RowKit

theorem item_info : (Tryd.prog.info? 58).map (fun i => (i.zero, i.size, i.bytes)) = some (some (.agg #[.int .u64 0, .int .i64 0, .slice none 0 0]), 3, 40) := by kernel_rfl
theorem int_info : (Tryd.prog.info? 3).map (fun i => (i.zero, i.size, i.bytes)) = some (some (.int .i64 0), 1, 8) := by kernel_rfl

def putI (rs : List Ik) : List Value := rs.flatMap Ik.v
def RowsRel (wz : World) (ks : List Ik) (n gk : Nat) (p ends some_ i : Value) (wr : World) : Prop :=
  ∃ (j : Nat) (Ap : Option Addr) (np cp : Nat) (rs : List Ik), gk + j = n ∧ j ≤ 10 ∧ i = .int .i64 (j : Int) ∧ p = .slice Ap np cp ∧ rs.length = j ∧ rs.map Ik.it = (ks.take j).map cutI ∧
    wr.ownsRow wz.heap.size 5 1 (.slice Ap np cp) np (cbs (itsB (rs.map Ik.it))) ∧ wr.ownsRow wz.heap.size 3 1 ends j (endsV (rs.map Ik.it)) ∧ wr.ownsRow wz.heap.size 58 3 some_ j (putI rs) ∧
    Kept wr wz.heap.size ends some_ (rs.map Ik.q) ∧ Apart ends.ownBlock some_.ownBlock ∧ Below wz.heap.size wz wr

theorem item_one (N : Int) (C : Int) (A : Option Addr) (n c : Nat) : ∀ u ∈ [Value.int .u64 N, .int .i64 C, .slice A n c], u.oneCell' = true := by
  intro u hu
  simp only [List.mem_cons, List.not_mem_nil, or_false] at hu
  rcases hu with rfl | rfl | rfl <;> rfl
theorem itsB_len (ks : List Ik) (j : Nat) (h : ∀ k ∈ ks, k.N < two64) : (itsB ((ks.take j).map cutI)).length ≤ 61 * j := by
  induction j with
  | zero => simp [itsB]
  | succ j ih =>
    by_cases hj : j < ks.length
    · have hk : ks[j]? = some ks[j] := List.getElem?_eq_getElem hj
      have h1 : ((ks.map cutI))[j]? = some (cutI ks[j]) := by rw [List.getElem?_map, hk]; rfl
      rw [List.map_take] at ih ⊢
      rw [itsB_snoc h1, List.length_append]
      have := itemB_len (C := ks[j].C % 8) (b := ks[j].q.l.take 40) (h _ (List.getElem_mem hj)) (by rw [List.length_take]; omega)
      have e : itB (cutI ks[j]) = itemB ks[j].N (ks[j].C % 8) (ks[j].q.l.take 40) := rfl
      rw [e]
      omega
    · rw [List.take_of_length_le (by omega)]
      rw [List.take_of_length_le (by omega)] at ih
      omega
theorem own_onN {w w' : World} {base : Nat} {e : TypeId} {size : Nat} {v : Value} {n : Nat} {xs : List Value} (h : w.ownsRow base e size v n xs) (hb : Below w.heap.size w w') : w'.ownsRow base e size v n xs :=
  h.kept (only_below hb none) (by cases v.ownBlock <;> simp)

theorem own_form {w : World} {base : Nat} {e : TypeId} {size : Nat} {v : Value} {n : Nat} {xs : List Value} (h : w.ownsRow base e size v n xs) : ∃ A c, v = .slice A n c := by
  rcases h.2 with ⟨rfl, rfl⟩ | ⟨g, cap, cur, rfl, _⟩
  · exact ⟨none, 0, rfl⟩
  · exact ⟨_, cap, rfl⟩
theorem below_row {w0 w w' : World} {B : Nat} {row : Option Nat} (h : Below B w0 w) (hg : w.grownBy w' row) (hk : ∀ k, row = some k → B ≤ k) (hB : B ≤ w.heap.size) : Below B w0 w' :=
  ⟨hg.os.trans h.os, hg.tape.trans h.tape, hg.output.trans h.output, Nat.le_trans h.size hg.size, fun i hi => (hg.block i (by omega) (fun e => by have := hk i e.symm; omega)).trans (h.block i hi)⟩

/-- What stays of the rows once all items are written. -/
def RowsEv (w : World) (As Ae : Option Addr) (rs : List Ik) (w' : World) : Prop :=
  (∀ i r, rs[i]? = some r → (∃ gs, As = some ⟨gs, 0, none⟩ ∧ w'.cell? ⟨gs, i * 3, none⟩ = some (.int .u64 (r.N : Int)) ∧ w'.cell? ⟨gs, i * 3 + 1, none⟩ = some (.int .i64 r.C) ∧ w'.cell? ⟨gs, i * 3 + 2, none⟩ = some (.slice r.q.A r.q.n r.q.c)) ∧
    (∃ ge, Ae = some ⟨ge, 0, none⟩ ∧ w'.cell? ⟨ge, i, none⟩ = some (.int .i64 ((itsB ((rs.map Ik.it).take (i + 1))).length : Int))) ∧ Sl w' w'.heap.size r.q.A r.q.n r.q.c r.q.l) ∧ Below w.heap.size w w'
theorem putI_at {rs : List Ik} {i : Nat} {r : Ik} (h : rs[i]? = some r) (t : Nat) (ht : t < 3) : (putI rs)[i * 3 + t]? = r.v[t]? := by
  induction rs generalizing i with
  | nil => simp at h
  | cons a rs ih =>
    have hl : a.v.length = 3 := rfl
    unfold putI
    rw [List.flatMap_cons]
    rcases i with _ | i
    · simp at h
      subst h
      rw [List.getElem?_append_left (by omega)]
      simp
    · rw [List.getElem?_append_right (by omega), show (i + 1) * 3 + t - a.v.length = i * 3 + t from by omega]
      exact ih (by simpa using h)
theorem rows_ever {w wz wr : World} {A0 : Option Addr} {n0 c0 j cs ce : Nat} {ks rs : List Ik} {As Ae : Option Addr} (_ : Itms w w.heap.size A0 n0 c0 ks) (hbz : Below w.heap.size w wz) (hrl : rs.length = j) (_ : rs.map Ik.it = (ks.take j).map cutI)
    (hE : wr.ownsRow wz.heap.size 3 1 (.slice Ae j ce) j (endsV (rs.map Ik.it))) (hS : wr.ownsRow wz.heap.size 58 3 (.slice As j cs) j (putI rs)) (hK : Kept wr wz.heap.size (.slice Ae j ce) (.slice As j cs) (rs.map Ik.q)) (hbel : Below wz.heap.size wz wr) :
    Ever (RowsEv w As Ae rs) wr := by
  intro w' hw
  refine ⟨fun i r hr => ?_, (hbz.trans (hbel.mono hbz.size)).trans (hw.mono (Nat.le_trans hbz.size hbel.size))⟩
  have hij : i < j := by have := (List.getElem?_eq_some_iff.1 hr).1; omega
  refine ⟨?_, ?_, ?_⟩
  · obtain ⟨gs, cap, hv, _, _⟩ := hS.form (by omega)
    injection hv with hv _ _
    subst hv
    have hc := hS.cells (g := gs) rfl
    have h0 := hc (i * 3 + 0) _ (by rw [putI_at hr 0 (by omega)]; rfl)
    have h1 := hc (i * 3 + 1) _ (by rw [putI_at hr 1 (by omega)]; rfl)
    have h2 := hc (i * 3 + 2) _ (by rw [putI_at hr 2 (by omega)]; rfl)
    rw [add_plain, Nat.zero_add] at h0 h1 h2
    exact ⟨gs, rfl, ever_cell h0 _ hw, ever_cell h1 _ hw, ever_cell h2 _ hw⟩
  · obtain ⟨ge, cap, hv, _, _⟩ := hE.form (by omega)
    injection hv with hv _ _
    subst hv
    have h0 := hE.cells (g := ge) rfl i _ (endsV_at (by rw [List.length_map]; omega))
    rw [add_plain, Nat.zero_add] at h0
    exact ⟨ge, rfl, ever_cell h0 _ hw⟩
  · exact ever_sl (Sl.of_own (hK.own r.q (List.mem_map.2 ⟨r, List.mem_of_getElem? hr, rfl⟩))) _ hw
theorem rows_ok {w : World} {A0 : Option Addr} {n0 c0 j i : Nat} {ks rs : List Ik} {r : Ik} (h0 : Itms w w.heap.size A0 n0 c0 ks) (hrk : rs.map Ik.it = (ks.take j).map cutI) (hr : rs[i]? = some r) : r.it.ok := by
  have h1 : (rs.map Ik.it)[i]? = some r.it := by rw [List.getElem?_map, hr]; rfl
  rw [hrk, List.getElem?_map] at h1
  obtain ⟨k, hk, he⟩ := Option.map_eq_some_iff.1 h1
  rw [← he]
  exact cutI_ok (h0.sl k (List.mem_of_mem_take (List.mem_of_getElem? hk))).2
def BackRel (wq : World) (gi : Nat) (xs : List It) (m j gk : Nat) (i : Value) (wr : World) : Prop :=
  ∃ (i2 : Nat) (A : Option Addr) (n c : Nat), gk + i2 = j ∧ i = .int .i64 (i2 : Int) ∧ InAt wr gi A n c 0 (leftB xs m i2) ∧ (itsB (xs.take i2)).length ≤ m ∧ Below wq.heap.size wq wr

end Go.Proofs.YtlkcnpmgafckoaaDoor
