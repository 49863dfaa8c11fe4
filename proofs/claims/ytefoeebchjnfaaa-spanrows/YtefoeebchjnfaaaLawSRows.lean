/-
  THE WALK of the law SpanRows: whatever the items and the cut, it returns true, and turns nothing that was there.
-/
import Derived.Test.YtefoeebchjnfaaaRowsKept
import Derived.Deep.LoopGhost
namespace Go.Proofs.Ytefoeebchjnfaaa
open Go.RowKit

theorem item_info : (Try.prog.info? 72).map (fun i => (i.zero, i.size, i.bytes)) = some (some (.agg #[.int .u64 0, .int .i64 0, .slice none 0 0]), 3, 40) := by kernel_rfl
theorem int_info : (Try.prog.info? 3).map (fun i => (i.zero, i.size, i.bytes)) = some (some (.int .i64 0), 1, 8) := by kernel_rfl

def putI (rs : List Ik) : List Value := rs.flatMap Ik.v
def RowsRel (wz : World) (ks : List Ik) (n gk : Nat) (p ends some_ i : Value) (wr : World) : Prop :=
  ∃ (j : Nat) (Ap : Option Addr) (np cp : Nat) (rs : List Ik), gk + j = n ∧ j ≤ 10 ∧ i = .int .i64 (j : Int) ∧ p = .slice Ap np cp ∧ rs.length = j ∧ rs.map Ik.it = (ks.take j).map cutI ∧
    wr.ownsRow wz.heap.size 5 1 (.slice Ap np cp) np (cbs (itsB (rs.map Ik.it))) ∧ wr.ownsRow wz.heap.size 3 1 ends j (endsV (rs.map Ik.it)) ∧ wr.ownsRow wz.heap.size 72 3 some_ j (putI rs) ∧
    Kept wr wz.heap.size ends some_ (rs.map Ik.q) ∧ Apart ends.ownBlock some_.ownBlock ∧ Below wz.heap.size wz wr

theorem item_one (N : Int) (C : Int) (A : Option Addr) (n c : Nat) : ∀ u ∈ [Value.int .u64 N, .int .i64 C, .slice A n c], u.oneCell' = true := by
  intro u hu
  simp only [List.mem_cons, List.not_mem_nil, or_false] at hu
  rcases hu with rfl | rfl | rfl <;> rfl
theorem itsB_len (ks : List Ik) (j : Nat) (h : ∀ k ∈ ks, k.N < two64) : (itsB ((ks.take j).map cutI)).length ≤ 61 * j := by
  induction j with
  | zero => simp [itsB]
  | succ j ih =>
    by_cases hj : j < ks.length
    · have hk : ks[j]? = some ks[j] := List.getElem?_eq_getElem hj
      have h1 : ((ks.map cutI))[j]? = some (cutI ks[j]) := by rw [List.getElem?_map, hk]; rfl
      rw [List.map_take] at ih ⊢
      rw [itsB_snoc h1, List.length_append]
      have := itemB_len (C := ks[j].C % 8) (b := ks[j].q.l.take 40) (h _ (List.getElem_mem hj)) (by rw [List.length_take]; omega)
      have e : itB (cutI ks[j]) = itemB ks[j].N (ks[j].C % 8) (ks[j].q.l.take 40) := rfl
      rw [e]
      omega
    · rw [List.take_of_length_le (by omega)]
      rw [List.take_of_length_le (by omega)] at ih
      omega
theorem own_onN {w w' : World} {base : Nat} {e : TypeId} {size : Nat} {v : Value} {n : Nat} {xs : List Value} (h : w.ownsRow base e size v n xs) (hb : Below w.heap.size w w') : w'.ownsRow base e size v n xs :=
  h.kept (only_below hb none) (by cases v.ownBlock <;> simp)

theorem own_form {w : World} {base : Nat} {e : TypeId} {size : Nat} {v : Value} {n : Nat} {xs : List Value} (h : w.ownsRow base e size v n xs) : ∃ A c, v = .slice A n c := by
  rcases h.2 with ⟨rfl, rfl⟩ | ⟨g, cap, cur, rfl, _⟩
  · exact ⟨none, 0, rfl⟩
  · exact ⟨_, cap, rfl⟩
theorem below_row {w0 w w' : World} {B : Nat} {row : Option Nat} (h : Below B w0 w) (hg : w.grownBy w' row) (hk : ∀ k, row = some k → B ≤ k) (hB : B ≤ w.heap.size) : Below B w0 w' :=
  ⟨hg.os.trans h.os, hg.tape.trans h.tape, hg.output.trans h.output, Nat.le_trans h.size hg.size, fun i hi => (hg.block i (by omega) (fun e => by have := hk i e.symm; omega)).trans (h.block i hi)⟩

/-- What stays of the rows once all items are written. -/
def RowsEv (w : World) (As Ae : Option Addr) (rs : List Ik) (w' : World) : Prop :=
  (∀ i r, rs[i]? = some r → (∃ gs, As = some ⟨gs, 0, none⟩ ∧ w'.cell? ⟨gs, i * 3, none⟩ = some (.int .u64 (r.N : Int)) ∧ w'.cell? ⟨gs, i * 3 + 1, none⟩ = some (.int .i64 r.C) ∧ w'.cell? ⟨gs, i * 3 + 2, none⟩ = some (.slice r.q.A r.q.n r.q.c)) ∧
    (∃ ge, Ae = some ⟨ge, 0, none⟩ ∧ w'.cell? ⟨ge, i, none⟩ = some (.int .i64 ((itsB ((rs.map Ik.it).take (i + 1))).length : Int))) ∧ Sl w' w'.heap.size r.q.A r.q.n r.q.c r.q.l) ∧ Below w.heap.size w w'
theorem putI_at {rs : List Ik} {i : Nat} {r : Ik} (h : rs[i]? = some r) (t : Nat) (ht : t < 3) : (putI rs)[i * 3 + t]? = r.v[t]? := by
  induction rs generalizing i with
  | nil => simp at h
  | cons a rs ih =>
    have hl : a.v.length = 3 := rfl
    unfold putI
    rw [List.flatMap_cons]
    rcases i with _ | i
    · simp at h
      subst h
      rw [List.getElem?_append_left (by omega)]
      simp
    · rw [List.getElem?_append_right (by omega), show (i + 1) * 3 + t - a.v.length = i * 3 + t from by omega]
      exact ih (by simpa using h)
theorem rows_ever {w wz wr : World} {A0 : Option Addr} {n0 c0 j cs ce : Nat} {ks rs : List Ik} {As Ae : Option Addr} (_ : Itms w w.heap.size A0 n0 c0 ks) (hbz : Below w.heap.size w wz) (hrl : rs.length = j) (_ : rs.map Ik.it = (ks.take j).map cutI)
    (hE : wr.ownsRow wz.heap.size 3 1 (.slice Ae j ce) j (endsV (rs.map Ik.it))) (hS : wr.ownsRow wz.heap.size 72 3 (.slice As j cs) j (putI rs)) (hK : Kept wr wz.heap.size (.slice Ae j ce) (.slice As j cs) (rs.map Ik.q)) (hbel : Below wz.heap.size wz wr) :
    Ever (RowsEv w As Ae rs) wr := by
  intro w' hw
  refine ⟨fun i r hr => ?_, (hbz.trans (hbel.mono hbz.size)).trans (hw.mono (Nat.le_trans hbz.size hbel.size))⟩
  have hij : i < j := by have := (List.getElem?_eq_some_iff.1 hr).1; omega
  refine ⟨?_, ?_, ?_⟩
  · obtain ⟨gs, cap, hv, _, _⟩ := hS.form (by omega)
    injection hv with hv _ _
    subst hv
    have hc := hS.cells (g := gs) rfl
    have h0 := hc (i * 3 + 0) _ (by rw [putI_at hr 0 (by omega)]; rfl)
    have h1 := hc (i * 3 + 1) _ (by rw [putI_at hr 1 (by omega)]; rfl)
    have h2 := hc (i * 3 + 2) _ (by rw [putI_at hr 2 (by omega)]; rfl)
    rw [add_plain, Nat.zero_add] at h0 h1 h2
    exact ⟨gs, rfl, ever_cell h0 _ hw, ever_cell h1 _ hw, ever_cell h2 _ hw⟩
  · obtain ⟨ge, cap, hv, _, _⟩ := hE.form (by omega)
    injection hv with hv _ _
    subst hv
    have h0 := hE.cells (g := ge) rfl i _ (endsV_at (by rw [List.length_map]; omega))
    rw [add_plain, Nat.zero_add] at h0
    exact ⟨ge, rfl, ever_cell h0 _ hw⟩
  · exact ever_sl (Sl.of_own (hK.own r.q (List.mem_map.2 ⟨r, List.mem_of_getElem? hr, rfl⟩))) _ hw
theorem rows_ok {w : World} {A0 : Option Addr} {n0 c0 j i : Nat} {ks rs : List Ik} {r : Ik} (h0 : Itms w w.heap.size A0 n0 c0 ks) (hrk : rs.map Ik.it = (ks.take j).map cutI) (hr : rs[i]? = some r) : r.it.ok := by
  have h1 : (rs.map Ik.it)[i]? = some r.it := by rw [List.getElem?_map, hr]; rfl
  rw [hrk, List.getElem?_map] at h1
  obtain ⟨k, hk, he⟩ := Option.map_eq_some_iff.1 h1
  rw [← he]
  exact cutI_ok (h0.sl k (List.mem_of_mem_take (List.mem_of_getElem? hk))).2
def BackRel (wq : World) (gi : Nat) (xs : List It) (m j gk : Nat) (i : Value) (wr : World) : Prop :=
  ∃ (i2 : Nat) (A : Option Addr) (n c : Nat), gk + i2 = j ∧ i = .int .i64 (i2 : Int) ∧ InAt wr gi A n c 0 (leftB xs m i2) ∧ (itsB (xs.take i2)).length ≤ m ∧ Below wq.heap.size wq wr

set_option maxRecDepth 100000 in
set_option maxHeartbeats 2000000 in
theorem spanRows_walk (w : World) (A0 : Option Addr) (n0 c0 : Nat) (ks : List Ik) (h0 : Itms w w.heap.size A0 n0 c0 ks) (cut : Nat) (hc : cut < 65536) :
    Calls Try.prog 13 #[.slice A0 n0 c0, .int .u16 (cut : Int)] w (Yes w) := by
  have hm0 := h0.max
  have hl0 := h0.le
  unfold maxLen at hm0
  have H0 := Lib.hid h0
  clear h0
  go_enter Try.func13, Try.ntmps13
  go_wp2_with fail
  refine (awake4_any w).mono ?_
  rintro e wz ⟨rfl, hbz⟩
  go_wp2
  go_loopg [5, 6, 7, 19] n0 (fun gk p ends some_ i wr => RowsRel wz ks n0 gk p ends some_ i wr)
  case atStart =>
    exact ⟨0, none, 0, 0, [], by omega, by omega, rfl, rfl, rfl, rfl, ⟨rfl, .inl ⟨rfl, rfl⟩⟩, ⟨rfl, .inl ⟨rfl, rfl⟩⟩, ⟨rfl, .inl ⟨rfl, rfl⟩⟩, ⟨fun p hp => absurd hp List.not_mem_nil, fun p hp => absurd hp List.not_mem_nil⟩, .inl rfl, Below.refl _ _⟩
  case round =>
    obtain ⟨j, Ap, np, cp, rs, hj, hj10, rfl, rfl, hrl, hrk, hP, hE, hS, hK, hA, hbel⟩ := hrel
    have HJ := Lib.hid hj
    clear hj
    by_cases hlt : j < n0
    · obtain ⟨b, o, k, rfl, hbb, hk, hc0, hc1, hc2, hsl, hkN⟩ := H0.out.at_ hlt
      have hbr : Below w.heap.size w wr := hbz.trans (hbel.mono hbz.size)
      have hd0 := (hbr.cell (p := ⟨b, o + j * 3, none⟩) hbb).trans hc0
      have hd1 := (hbr.cell (p := ⟨b, o + j * 3 + 1, none⟩) hbb).trans hc1
      have hd2 := (hbr.cell (p := ⟨b, o + j * 3 + 2, none⟩) hbb).trans hc2
      have hslr := (hsl.below hbr (Nat.le_refl _)).more hbr.size
      clear hc0 hc1 hc2 hsl
      by_cases h10 : j < 10
      · have h10I : ¬ (10 : Int) ≤ (j : Int) := by omega
        have ha7 := and7 k.C
        go_wp2_with fail
        have hbx := below_box wr (Obj.cells #[.int .u64 (k.N : Int), .int .i64 (k.C % 8), .slice k.q.A k.q.n k.q.c] 72)
        have hblkx := heap_alloc_new wr (Obj.cells #[.int .u64 (k.N : Int), .int .i64 (k.C % 8), .slice k.q.A k.q.n k.q.c] 72)
        have hXx : wr.heap.size < (wr.alloc (Obj.cells #[.int .u64 (k.N : Int), .int .i64 (k.C % 8), .slice k.q.A k.q.n k.q.c] 72)).heap.size := by simp
        refine (cut_any _ k.q.A k.q.n k.q.c k.q.l 40 (by exact hslr.onA _) (by omega)).mono ?_
        rintro e w2 ⟨A2, n2, c2, rfl, hown2, hb2⟩
        have hblk2 := (hb2.block wr.heap.size hXx).trans hblkx
        have hb2r : Below wr.heap.size wr w2 := hbx.trans (hb2.mono (Nat.le_of_lt hXx))
        have hX2 := Nat.lt_of_lt_of_le hXx hb2.size
        have hr2 : w2.ownsRow (wr.heap.size + 1) 5 1 (.slice A2 n2 c2) n2 (cbs (k.q.l.take 40)) := own_lower hown2 hXx
        have hlq : (k.q.l.take 40).length ≤ 40 := by rw [List.length_take]; omega
        have hq0 : w2.cell? ⟨wr.heap.size, 0, none⟩ = some (.int .u64 (k.N : Int)) := by rw [cell_of_row w2 _ 0 _ _ _ hblk2]; rfl
        have hq1 : w2.cell? ⟨wr.heap.size, 1, none⟩ = some (.int .i64 (k.C % 8)) := by rw [cell_of_row w2 _ 1 _ _ _ hblk2]; rfl
        have hq2 : w2.cell? ⟨wr.heap.size, 2, none⟩ = some (.slice k.q.A k.q.n k.q.c) := by rw [cell_of_row w2 _ 2 _ _ _ hblk2]; rfl
        have hf2 := frz_block (i := 2) hblk2
        have hb3r : Below wr.heap.size wr (w2.setCell ⟨wr.heap.size, 2, none⟩ (.slice A2 n2 c2)) := hb2r.setCell (Nat.le_refl _) _
        have hr3 := own_other (.slice A2 n2 c2) hr2 (p := ⟨wr.heap.size, 2, none⟩) (Nat.lt_succ_self _)
        have hz3 : (w2.setCell ⟨wr.heap.size, 2, none⟩ (.slice A2 n2 c2)).heap.size = w2.heap.size := by simp [World.setCell]
        have hs0 : (w2.setCell ⟨wr.heap.size, 2, none⟩ (.slice A2 n2 c2)).cell? ⟨wr.heap.size, 0, none⟩ = some (.int .u64 (k.N : Int)) := by rw [World.cell?_setCell_other _ _ _ _ (by simp)]; exact hq0
        have hs1 : (w2.setCell ⟨wr.heap.size, 2, none⟩ (.slice A2 n2 c2)).cell? ⟨wr.heap.size, 1, none⟩ = some (.int .i64 (k.C % 8)) := by rw [World.cell?_setCell_other _ _ _ _ (by simp)]; exact hq1
        have hs2 : (w2.setCell ⟨wr.heap.size, 2, none⟩ (.slice A2 n2 c2)).cell? ⟨wr.heap.size, 2, none⟩ = some (.slice A2 n2 c2) := World.cell?_setCell_same _ _ _ hq2
        generalize hq : k.q.l.take 40 = Q at *
        have HQ := Lib.hid hq
        have HZ3 := Lib.hid hz3
        clear hbx hblkx hXx hown2 hb2 hblk2 hr2 hb2r hq hz3 hd0 hd1 hd2 hslr ha7
        go_wp2_with fail
        have hz3 := HZ3.out
        clear hq0 hq1 hq2 hf2 HZ3
        generalize w2.setCell ⟨wr.heap.size, 2, none⟩ (.slice A2 n2 c2) = w3 at *
        have hX3 : wr.heap.size < w3.heap.size := by omega
        have hlP : (itsB (rs.map Ik.it)).length ≤ 61 * 10 := by
          rw [hrk]
          exact Nat.le_trans (itsB_len ks j (fun k hk => (H0.out.sl k hk).2)) (by omega)
        have hP3 := own_on hP hb3r
        have hlI := itemB_len (C := k.C % 8) hkN hlq
        refine (itemPut_any w3 k.N (k.C % 8) Ap A2 np cp n2 c2 _ Q hkN (Sl.of_own hP3) (Sl.of_own hr3) (by omega)).mono ?_
        rintro e w4 ⟨A4, n4, c4, rfl, hown4, hb4⟩
        have hb4r : Below wr.heap.size wr w4 := hb3r.trans (hb4.mono (Nat.le_of_lt hX3))
        have hr4 := own_on hr3 hb4
        have hX4 := Nat.lt_of_lt_of_le hX3 hb4.size
        have ht0 := (hb4.cell (p := ⟨wr.heap.size, 0, none⟩) hX3).trans hs0
        have ht1 := (hb4.cell (p := ⟨wr.heap.size, 1, none⟩) hX3).trans hs1
        have ht2 := (hb4.cell (p := ⟨wr.heap.size, 2, none⟩) hX3).trans hs2
        have hln4 : n4 ≤ 800 := by
          have := (Sl.of_own hown4).len
          rw [List.length_append] at this
          omega
        have hb5r : Below wr.heap.size wr (w4.alloc (Obj.cells #[.int .u64 (k.N : Int), .int .i64 (k.C % 8), .slice A2 n2 c2] 72)) := hb4r.alloc (Nat.le_of_lt hX4) _
        have hS5 := own_onN hS hb5r
        have hE5 := own_onN hE hb5r
        have hne : ∀ kk, u6.ownBlock = some kk → kk < wr.heap.size := fun kk hkk => (hE.lt kk hkk).2
        have hns : ∀ kk, u7.ownBlock = some kk → kk < wr.heap.size := fun kk hkk => (hS.lt kk hkk).2
        have hK5 : Kept (w4.alloc (Obj.cells #[.int .u64 (k.N : Int), .int .i64 (k.C % 8), .slice A2 n2 c2] 72)) wz.heap.size u6 u7 (⟨A4, n4, c4, itsB (rs.map Ik.it) ++ itemB k.N (k.C % 8) Q⟩ :: ⟨A2, n2, c2, Q⟩ :: rs.map Ik.q) :=
          ((hK.on hb5r).cons (p := ⟨A2, n2, c2, Q⟩) (M := wr.heap.size + 1) (hr4.alloc _) (by have := hbel.size; omega) (fun kk hkk => Nat.lt_succ_of_lt (hne kk hkk)) (fun kk hkk => Nat.lt_succ_of_lt (hns kk hkk))).cons (p := ⟨A4, n4, c4, _⟩) (M := w3.heap.size) (hown4.alloc _) (by have := hbel.size; omega) (fun kk hkk => Nat.lt_trans (hne kk hkk) hX3) (fun kk hkk => Nat.lt_trans (hns kk hkk) hX3)
        obtain ⟨i0, hi0, hz0, hz1, hz2⟩ := info_parts item_info
        obtain ⟨i1, hi1, hy0, hy1, hy2⟩ := info_parts int_info
        have hnews := World.news_of_block (heap_alloc_new w4 (Obj.cells #[.int .u64 (k.N : Int), .int .i64 (k.C % 8), .slice A2 n2 c2] 72))
        have H5 := Lib.hid hS5
        have HE5 := Lib.hid hE5
        have HK5 := Lib.hid hK5
        have HA := Lib.hid hA
        have HB5 := Lib.hid hb5r
        clear hP3 hr3 hown4 hb4 hs0 hs1 hs2 hr4 hb4r hS hE hK hA hP hb5r hK5 hS5 hE5 hb3r
        have hbz5 : Below wz.heap.size wz (w4.alloc (Obj.cells #[.int .u64 (k.N : Int), .int .i64 (k.C % 8), .slice A2 n2 c2] 72)) := hbel.trans (HB5.out.mono hbel.size)
        have hns5 : ∀ kk, u7.ownBlock = some kk → wz.heap.size ≤ kk := fun kk hkk => (H5.out.lt kk hkk).1
        have hne5 : ∀ kk, u6.ownBlock = some kk → wz.heap.size ≤ kk := fun kk hkk => (HE5.out.lt kk hkk).1
        have HBZ5 := Lib.hid hbz5
        have H1I := Lib.hid (fun n : Int => (fun u hu => by rw [List.mem_singleton] at hu; subst hu; rfl : ∀ u ∈ [Value.int .i64 n], u.oneCell' = true))
        clear hbz5
        go_wp2_with (at_builtin; first
          | (refine wpList_append_lies _ rfl (.tmp 41) (.tmp 43) 102 rfl wz.heap.size 72 i0 (.agg #[.int .u64 0, .int .i64 0, .slice none 0 0]) 3 40 Try.underlying102 hi0 hz0 hz1 hz2 rfl (by omega) u7 j (putI rs) rfl H5.out ⟨w4.heap.size, 0, none⟩ 1 1 [.int .u64 (k.N : Int), .int .i64 (k.C % 8), .slice A2 n2 c2] rfl rfl hnews (item_one _ _ _ _ _) (by omega) (by unfold maxLen; omega) (by omega) (by have := HB5.out.size; have := hbel.size; omega) _ rfl ?_; intro g6 cap6 w6 hown6 hgr6 hat6 hlt6
             have HE6 := Lib.hid (off_grow (n := j + 1) (c := cap6) HE5.out HA.out hgr6 hat6)
             have HK6 := Lib.hid (HK5.out.grow_s (n := j + 1) (c := cap6) hgr6 hat6)
             have HB6 := Lib.hid (below_row HBZ5.out hgr6 hns5 HBZ5.out.size)
             have H6 := Lib.hid hown6
             have hz6 := HB6.out.size
             clear hown6 hgr6 hat6 H5 HE5 HK5 HBZ5 HA)
          | (refine wpList_append_lies _ rfl (.tmp 45) (.tmp 48) 103 rfl wz.heap.size 3 i1 (.int .i64 0) 1 8 Try.underlying103 hi1 hy0 hy1 hy2 rfl (by omega) u6 j (endsV (rs.map Ik.it)) rfl (HE6.out.1.alloc _) ⟨w6.heap.size, 0, none⟩ 1 1 [.int .i64 (n4 : Int)] rfl rfl (World.news_of_block (heap_alloc_new w6 _)) (H1I.out _) (by omega) (by unfold maxLen; omega) (by omega) (by simp; omega) _ rfl ?_
             intro g8 cap8 w8 hown8 hgr8 hat8 hlt8))
        go_roundg (gk - 1)
        case measure => have := HJ.out; omega
        case rel =>
          have hK8 := (HK6.out.on (below_box w6 (Obj.cells #[.int .i64 (n4 : Int)] 3))).grow_e (n := j + 1) (c := cap8) hgr8 hat8
          have hS8 := off_grow (n := j + 1) (c := cap8) (H6.out.alloc (Obj.cells #[.int .i64 (n4 : Int)] 3)) HE6.out.2.symm hgr8 hat8
          have hb8 := below_row (HB6.out.alloc hz6 (Obj.cells #[.int .i64 (n4 : Int)] 3)) hgr8 hne5 (Nat.le_trans hz6 (by simp))
          have hit : (rs ++ [(⟨k.N, k.C % 8, ⟨A2, n2, c2, Q⟩⟩ : Ik)]).map Ik.it = rs.map Ik.it ++ [(⟨k.N, k.C % 8, Q⟩ : It)] := by rw [List.map_append]; rfl
          have hbs : itsB (rs.map Ik.it ++ [(⟨k.N, k.C % 8, Q⟩ : It)]) = itsB (rs.map Ik.it) ++ itemB k.N (k.C % 8) Q := by unfold itsB; rw [List.flatMap_append]; simp [itB]
          have hrow := hK8.own _ List.mem_cons_self
          have hn4 : (itsB (rs.map Ik.it) ++ itemB k.N (k.C % 8) Q).length = n4 := (Sl.of_own (A := A4) (c := c4) hrow).len
          refine ⟨j + 1, A4, n4, c4, rs ++ [(⟨k.N, k.C % 8, ⟨A2, n2, c2, Q⟩⟩ : Ik)], by have := HJ.out; omega, by omega, by go_num, rfl, by rw [List.length_append, hrl]; rfl, ?_, ?_, ?_, ?_, ?_, hS8.2.symm, hb8⟩
          · rw [hit, hrk, List.take_add_one, hk, List.map_append]
            show _ = _ ++ [cutI k]
            unfold cutI
            rw [HQ.out]
          · rw [hit, hbs]; exact hrow
          · rw [hit, endsV_snoc, hbs, hn4]; exact hown8
          · have e : putI (rs ++ [(⟨k.N, k.C % 8, ⟨A2, n2, c2, Q⟩⟩ : Ik)]) = putI rs ++ [.int .u64 (k.N : Int), .int .i64 (k.C % 8), .slice A2 n2 c2] := by unfold putI; rw [List.flatMap_append]; rfl
            rw [e]
            exact hS8.1
          · refine hK8.tail fun q hq => ?_
            rw [List.map_append, List.mem_append] at hq
            rcases hq with hq | hq
            · exact List.mem_cons_of_mem _ (List.mem_cons_of_mem _ hq)
            · rw [List.map_singleton, List.mem_singleton] at hq
              subst hq
              exact List.mem_cons_of_mem _ List.mem_cons_self
      · have h10I : (10 : Int) ≤ (j : Int) := by omega
        obtain ⟨As, cs, hvs⟩ := own_form hS
        obtain ⟨Ae, ce, hve⟩ := own_form hE
        subst hvs hve
        have hlP : np ≤ 610 := by
          have h1 := (Sl.of_own hP).len
          rw [hrk] at h1
          have := itsB_len ks j (fun k hk => (H0.out.sl k hk).2)
          omega
        have hcp := (Sl.of_own hP).le
        have hmp := (Sl.of_own hP).max
        unfold maxLen at hmp
        have hmlt : cut % (np + 1) < np + 1 := Nat.mod_lt _ (Nat.succ_pos _)
        obtain ⟨m, hm⟩ : ∃ m, cut % (np + 1) = m := ⟨_, rfl⟩
        have hmI : (cut : Int) % ((np : Int) + 1) = (m : Int) := by rw [← hm]; simp
        rw [hm] at hmlt
        have hmc : (cut : Int) % ((np : Int) + 1) ≤ (cp : Int) := by rw [hmI]; omega
        have hmz : (0 : Int) ≤ (cut : Int) % ((np : Int) + 1) := by rw [hmI]; omega
        have HM := Lib.hid hm
        have HMI := Lib.hid hmI
        have hEv := rows_ever H0.out hbz hrl hrk hE hS hK hbel
        clear hm hmI
        go_wp2_with fail
        rw [HM.out, HMI.out]
        clear HM HMI hmc hmz
        have hPq : Sl (wr.alloc (Obj.cells #[.int .u64 (k.N : Int), .int .i64 k.C, .slice k.q.A k.q.n k.q.c] 72)) (wr.alloc (Obj.cells #[.int .u64 (k.N : Int), .int .i64 k.C, .slice k.q.A k.q.n k.q.c] 72)).heap.size Ap m cp ((itsB (rs.map Ik.it)).take m) := ((Sl.of_own hP).onA _).take (k := m) (m := cp) (by omega) (by omega) (Nat.le_refl _)
        replace hEv := hEv.next (below_box wr (Obj.cells #[.int .u64 (k.N : Int), .int .i64 k.C, .slice k.q.A k.q.n k.q.c] 72))
        generalize wr.alloc (Obj.cells #[.int .u64 (k.N : Int), .int .i64 k.C, .slice k.q.A k.q.n k.q.c] 72) = wq at *
        refine (of_any wq Ap m cp _ hPq (by rw [List.length_take]; omega)).mono ?_
        rintro e w1 ⟨gi, Ai, ni, ci, hgi, rfl, hin, hb1⟩
        have hinL : InAt w1 gi Ai ni ci 0 (leftB (rs.map Ik.it) m 0) := by rw [leftB_start]; exact hin
        have hgi1 := hinL.lt
        have HI := Lib.hid hinL
        have HEV := Lib.hid hEv
        clear hin hinL hP hE hS hK hA hEv
        go_wp2
        go_loopg [63] j (fun gk i wr => BackRel wq gi (rs.map Ik.it) m j gk i wr)
        case atStart => exact ⟨0, Ai, ni, ci, by omega, rfl, HI.out, Nat.zero_le _, hb1⟩
        case round =>
          clear HI hb1
          obtain ⟨i2, A2, n2, c2, hi2, rfl, hin2, hle2, hb2⟩ := hrel
          have HI2 := Lib.hid hi2
          have HIN := Lib.hid hin2
          have HLE := Lib.hid hle2
          clear hi2 hin2 hle2
          have hE2 := HEV.out.next hb2
          by_cases hl2 : i2 < j
          · obtain ⟨r, hr⟩ : ∃ r, rs[i2]? = some r := ⟨_, List.getElem?_eq_getElem (by omega)⟩
            obtain ⟨⟨gs, hAs, hs0, hs1, hs2⟩, ⟨ge, hAe, he0⟩, hsr⟩ := hE2.now.1 i2 r hr
            subst hAs hAe
            have hok := rows_ok H0.out hrk hr
            have hX : (rs.map Ik.it)[i2]? = some r.it := by rw [List.getElem?_map, hr]; rfl
            obtain ⟨-, hCn, -, -⟩ := clsB_nat hok.2
            have hin3 := HIN.out.below (below_box wr (Obj.cells #[.int .u64 (r.N : Int), .int .i64 r.C, .slice r.q.A r.q.n r.q.c] 72)) HIN.out.lt
            have hblk3 := heap_alloc_new wr (Obj.cells #[.int .u64 (r.N : Int), .int .i64 r.C, .slice r.q.A r.q.n r.q.c] 72)
            have hb3 := hb2.alloc hb2.size (Obj.cells #[.int .u64 (r.N : Int), .int .i64 r.C, .slice r.q.A r.q.n r.q.c] 72)
            have hgr : gi < wr.heap.size := HIN.out.lt
            have HX := Lib.hid hX
            have HOK := Lib.hid hok
            have HR := Lib.hid hr
            have HSR := Lib.hid hsr
            have HCN := Lib.hid hCn
            clear hX hok hr hsr hCn hE2
            go_wp2_with fail
            have cI := getItem_any hin3
            clear hin3 hs0 hs1 hs2
            generalize wr.alloc (Obj.cells #[.int .u64 (r.N : Int), .int .i64 r.C, .slice r.q.A r.q.n r.q.c] 72) = w2 at *
            by_cases hfit : (itsB ((rs.map Ik.it).take (i2 + 1))).length ≤ m
            · rw [leftB_ok HX.out HOK.out hfit] at cI
              refine cI.mono ?_
              rintro e w3 ⟨A3, n3, c3, A4, n4, c4, rfl, hown3, hin3, hgr3⟩
              replace hin3 : InAt w3 gi A3 n3 c3 0 (leftB (rs.map Ik.it) m (i2 + 1)) := hin3
              have hblk4 := only_block hgr3 hblk3 (by intro e; injection e with e; omega)
              have hb4 := below_grown hb3 hgr3 hgi hb3.size
              have hX3 := (Array.getElem?_eq_some_iff.1 hblk4).1
              have hx0 : w3.cell? ⟨wr.heap.size, 0, none⟩ = some (.int .u64 (r.N : Int)) := by rw [cell_of_row w3 _ 0 _ _ _ hblk4]; rfl
              have hx1 : w3.cell? ⟨wr.heap.size, 1, none⟩ = some (.int .i64 r.C) := by rw [cell_of_row w3 _ 1 _ _ _ hblk4]; rfl
              have hx2 : w3.cell? ⟨wr.heap.size, 2, none⟩ = some (.slice r.q.A r.q.n r.q.c) := by rw [cell_of_row w3 _ 2 _ _ _ hblk4]; rfl
              obtain ⟨-, ⟨ge2, hAe2, he2⟩, hsr3⟩ := (HEV.out.next hb4).now.1 i2 r HR.out
              injection hAe2 with hAe2
              injection hAe2 with hAe2
              subst hAe2
              have hge3 : ge < w3.heap.size := World.block_lt_of_cell? w3 _ he2
              have hs4 := Sl.of_own hown3
              replace hs4 : Sl w3 w3.heap.size A4 n4 c4 r.q.l := hs4
              have hfI : ¬ (m : Int) < ((itsB ((rs.map Ik.it).take (i2 + 1))).length : Int) := by omega
              have hxB := (hin3.below (below_box w3 (Obj.cells #[.int .u64 (r.N : Int), .int .i64 r.C, .slice A4 n4 c4] 72)) hin3.lt)
              have hs5 := hs4.onA (Obj.cells #[.int .u64 (r.N : Int), .int .i64 r.C, .slice A4 n4 c4] 72)
              have hsr5 := hsr3.onA (Obj.cells #[.int .u64 (r.N : Int), .int .i64 r.C, .slice A4 n4 c4] 72)
              have hb5 := hb4.alloc hb4.size (Obj.cells #[.int .u64 (r.N : Int), .int .i64 r.C, .slice A4 n4 c4] 72)
              have HIN3 := Lib.hid hxB
              have HLE3 := Lib.hid hfit
              generalize hLL : (itsB ((rs.map Ik.it).take (i2 + 1))).length = L at he2 hfI
              clear hLL
              clear cI hown3 hgr3 hblk3 hblk4 hb3 hb4 hin3 hs4 hsr3
              unfold itv
              simp only [show (r.it.C.toNat : Int) = r.C from HCN.out, show r.it.N = r.N from rfl]
              go_wp2_with fail
              refine (err_any HIN3.out).mono ?_
              rintro e w4 ⟨rfl, rfl⟩
              go_wp2_with fail
              have hsm := spanSame_any _ r.C r.C A4 r.q.A n4 c4 r.q.n r.q.c r.q.l r.q.l hs5 hsr5
              rw [show sameS r.C r.q.l r.C r.q.l = true from by simp [sameS, sameB]] at hsm
              refine hsm.mono ?_
              rintro e w5 ⟨rfl, hb6⟩
              have hin5 := HIN3.out.below hb6 HIN3.out.lt
              go_wp2
              go_roundg (gk - 1)
              case measure => have := HI2.out; omega
              case rel => exact ⟨i2 + 1, A3, n3, c3, by have := HI2.out; omega, by go_num, hin5, HLE3.out, hb5.trans (hb6.mono hb5.size)⟩
            · obtain ⟨l2, hl2'⟩ := leftB_short HX.out HOK.out (by omega) HLE.out
              rw [hl2'] at cI
              refine cI.mono ?_
              rintro e w3 ⟨A3, n3, c3, A4, n4, c4, rfl, hown3, hin3, hgr3⟩
              replace hin3 : InAt w3 gi A3 n3 c3 2 l2 := hin3
              have hb4 := below_grown hb3 hgr3 hgi hb3.size
              obtain ⟨-, ⟨ge2, hAe2, he2⟩, -⟩ := (HEV.out.next hb4).now.1 i2 r HR.out
              have hbw := (HEV.out.next hb4).now.2
              injection hAe2 with hAe2
              injection hAe2 with hAe2
              subst hAe2
              have hge3 : ge < w3.heap.size := World.block_lt_of_cell? w3 _ he2
              have hs4 : Sl w3 w3.heap.size A4 n4 c4 [] := Sl.of_own hown3
              have hfI : (m : Int) < ((itsB ((rs.map Ik.it).take (i2 + 1))).length : Int) := by omega
              have hxB := (hin3.below (below_box w3 (Obj.cells #[.int .u64 0, .int .i64 0, .slice A4 n4 c4] 72)) hin3.lt)
              have hs5 := hs4.onA (Obj.cells #[.int .u64 0, .int .i64 0, .slice A4 n4 c4] 72)
              have hbw5 := hbw.alloc hbw.size (Obj.cells #[.int .u64 0, .int .i64 0, .slice A4 n4 c4] 72)
              have HIN3 := Lib.hid hxB
              generalize hLL : (itsB ((rs.map Ik.it).take (i2 + 1))).length = L at he2 hfI
              clear hLL
              clear cI hown3 hgr3 hblk3 hb3 hb4 hin3 hs4 hbw
              unfold itv
              simp only [show ((0 : Nat) : Int) = 0 from rfl]
              go_wp2_with fail
              refine (err_any HIN3.out).mono ?_
              rintro e w4 ⟨rfl, rfl⟩
              go_wp2_with fail
              have hsm := spanSame_any _ 0 0 A4 none n4 c4 0 0 [] [] hs5 (Sl.nil_ _ _ _ _ (Nat.zero_le _))
              rw [show sameS 0 [] 0 [] = true from rfl] at hsm
              refine hsm.mono ?_
              rintro e w5 ⟨rfl, hb6⟩
              go_wp2
              go_ret
              exact ⟨rfl, hbw5.trans (hb6.mono hbw5.size)⟩
          · have hend : leftB (rs.map Ik.it) m i2 = [] := leftB_end (by rw [List.length_map]; have := HI2.out; omega) (by have := hPq.len; rw [List.length_take] at this; omega)
            have hin3 := HIN.out
            rw [hend] at hin3
            have hbw := hE2.now.2
            clear HIN hE2 HI2 HLE
            go_wp2_with fail
            have ce := end_any hin3
            rw [show endN [] 0 = 0 from rfl] at ce
            refine ce.mono ?_
            rintro e w3 ⟨A3, n3, c3, rfl, hin4, hgr4⟩
            have hbf := below_grown hbw hgr4 (Nat.le_trans (HEV.out.now.2.size) hgi) hbw.size
            go_wp2
            go_ret
            exact ⟨rfl, hbf⟩
    · obtain ⟨As, cs, hvs⟩ := own_form hS
      obtain ⟨Ae, ce, hve⟩ := own_form hE
      subst hvs hve
      have hlP : np ≤ 610 := by
        have h1 := (Sl.of_own hP).len
        rw [hrk] at h1
        have := itsB_len ks j (fun k hk => (H0.out.sl k hk).2)
        omega
      have hcp := (Sl.of_own hP).le
      have hmp := (Sl.of_own hP).max
      unfold maxLen at hmp
      have hmlt : cut % (np + 1) < np + 1 := Nat.mod_lt _ (Nat.succ_pos _)
      obtain ⟨m, hm⟩ : ∃ m, cut % (np + 1) = m := ⟨_, rfl⟩
      have hmI : (cut : Int) % ((np : Int) + 1) = (m : Int) := by rw [← hm]; simp
      rw [hm] at hmlt
      have hmc : (cut : Int) % ((np : Int) + 1) ≤ (cp : Int) := by rw [hmI]; omega
      have hmz : (0 : Int) ≤ (cut : Int) % ((np : Int) + 1) := by rw [hmI]; omega
      have HM := Lib.hid hm
      have HMI := Lib.hid hmI
      have hEv := rows_ever H0.out hbz hrl hrk hE hS hK hbel
      clear hm hmI
      go_wp2_with fail
      rw [HM.out, HMI.out]
      clear HM HMI hmc hmz
      have hPq : Sl wr wr.heap.size Ap m cp ((itsB (rs.map Ik.it)).take m) := (Sl.of_own hP).take (k := m) (m := cp) (by omega) (by omega) (Nat.le_refl _)
      generalize wr = wq at *
      refine (of_any wq Ap m cp _ hPq (by rw [List.length_take]; omega)).mono ?_
      rintro e w1 ⟨gi, Ai, ni, ci, hgi, rfl, hin, hb1⟩
      have hinL : InAt w1 gi Ai ni ci 0 (leftB (rs.map Ik.it) m 0) := by rw [leftB_start]; exact hin
      have hgi1 := hinL.lt
      have HI := Lib.hid hinL
      have HEV := Lib.hid hEv
      clear hin hinL hP hE hS hK hA hEv
      go_wp2
      go_loopg [63] j (fun gk i wr => BackRel wq gi (rs.map Ik.it) m j gk i wr)
      case atStart => exact ⟨0, Ai, ni, ci, by omega, rfl, HI.out, Nat.zero_le _, hb1⟩
      case round =>
        clear HI hb1
        obtain ⟨i2, A2, n2, c2, hi2, rfl, hin2, hle2, hb2⟩ := hrel
        have HI2 := Lib.hid hi2
        have HIN := Lib.hid hin2
        have HLE := Lib.hid hle2
        clear hi2 hin2 hle2
        have hE2 := HEV.out.next hb2
        by_cases hl2 : i2 < j
        · obtain ⟨r, hr⟩ : ∃ r, rs[i2]? = some r := ⟨_, List.getElem?_eq_getElem (by omega)⟩
          obtain ⟨⟨gs, hAs, hs0, hs1, hs2⟩, ⟨ge, hAe, he0⟩, hsr⟩ := hE2.now.1 i2 r hr
          subst hAs hAe
          have hok := rows_ok H0.out hrk hr
          have hX : (rs.map Ik.it)[i2]? = some r.it := by rw [List.getElem?_map, hr]; rfl
          obtain ⟨-, hCn, -, -⟩ := clsB_nat hok.2
          have hin3 := HIN.out.below (below_box wr (Obj.cells #[.int .u64 (r.N : Int), .int .i64 r.C, .slice r.q.A r.q.n r.q.c] 72)) HIN.out.lt
          have hblk3 := heap_alloc_new wr (Obj.cells #[.int .u64 (r.N : Int), .int .i64 r.C, .slice r.q.A r.q.n r.q.c] 72)
          have hb3 := hb2.alloc hb2.size (Obj.cells #[.int .u64 (r.N : Int), .int .i64 r.C, .slice r.q.A r.q.n r.q.c] 72)
          have hgr : gi < wr.heap.size := HIN.out.lt
          have HX := Lib.hid hX
          have HOK := Lib.hid hok
          have HR := Lib.hid hr
          have HSR := Lib.hid hsr
          have HCN := Lib.hid hCn
          clear hX hok hr hsr hCn hE2
          go_wp2_with fail
          have cI := getItem_any hin3
          clear hin3 hs0 hs1 hs2
          generalize wr.alloc (Obj.cells #[.int .u64 (r.N : Int), .int .i64 r.C, .slice r.q.A r.q.n r.q.c] 72) = w2 at *
          by_cases hfit : (itsB ((rs.map Ik.it).take (i2 + 1))).length ≤ m
          · rw [leftB_ok HX.out HOK.out hfit] at cI
            refine cI.mono ?_
            rintro e w3 ⟨A3, n3, c3, A4, n4, c4, rfl, hown3, hin3, hgr3⟩
            replace hin3 : InAt w3 gi A3 n3 c3 0 (leftB (rs.map Ik.it) m (i2 + 1)) := hin3
            have hblk4 := only_block hgr3 hblk3 (by intro e; injection e with e; omega)
            have hb4 := below_grown hb3 hgr3 hgi hb3.size
            have hX3 := (Array.getElem?_eq_some_iff.1 hblk4).1
            have hx0 : w3.cell? ⟨wr.heap.size, 0, none⟩ = some (.int .u64 (r.N : Int)) := by rw [cell_of_row w3 _ 0 _ _ _ hblk4]; rfl
            have hx1 : w3.cell? ⟨wr.heap.size, 1, none⟩ = some (.int .i64 r.C) := by rw [cell_of_row w3 _ 1 _ _ _ hblk4]; rfl
            have hx2 : w3.cell? ⟨wr.heap.size, 2, none⟩ = some (.slice r.q.A r.q.n r.q.c) := by rw [cell_of_row w3 _ 2 _ _ _ hblk4]; rfl
            obtain ⟨-, ⟨ge2, hAe2, he2⟩, hsr3⟩ := (HEV.out.next hb4).now.1 i2 r HR.out
            injection hAe2 with hAe2
            injection hAe2 with hAe2
            subst hAe2
            have hge3 : ge < w3.heap.size := World.block_lt_of_cell? w3 _ he2
            have hs4 := Sl.of_own hown3
            replace hs4 : Sl w3 w3.heap.size A4 n4 c4 r.q.l := hs4
            have hfI : ¬ (m : Int) < ((itsB ((rs.map Ik.it).take (i2 + 1))).length : Int) := by omega
            have hxB := (hin3.below (below_box w3 (Obj.cells #[.int .u64 (r.N : Int), .int .i64 r.C, .slice A4 n4 c4] 72)) hin3.lt)
            have hs5 := hs4.onA (Obj.cells #[.int .u64 (r.N : Int), .int .i64 r.C, .slice A4 n4 c4] 72)
            have hsr5 := hsr3.onA (Obj.cells #[.int .u64 (r.N : Int), .int .i64 r.C, .slice A4 n4 c4] 72)
            have hb5 := hb4.alloc hb4.size (Obj.cells #[.int .u64 (r.N : Int), .int .i64 r.C, .slice A4 n4 c4] 72)
            have HIN3 := Lib.hid hxB
            have HLE3 := Lib.hid hfit
            generalize hLL : (itsB ((rs.map Ik.it).take (i2 + 1))).length = L at he2 hfI
            clear hLL
            clear cI hown3 hgr3 hblk3 hblk4 hb3 hb4 hin3 hs4 hsr3
            unfold itv
            simp only [show (r.it.C.toNat : Int) = r.C from HCN.out, show r.it.N = r.N from rfl]
            go_wp2_with fail
            refine (err_any HIN3.out).mono ?_
            rintro e w4 ⟨rfl, rfl⟩
            go_wp2_with fail
            have hsm := spanSame_any _ r.C r.C A4 r.q.A n4 c4 r.q.n r.q.c r.q.l r.q.l hs5 hsr5
            rw [show sameS r.C r.q.l r.C r.q.l = true from by simp [sameS, sameB]] at hsm
            refine hsm.mono ?_
            rintro e w5 ⟨rfl, hb6⟩
            have hin5 := HIN3.out.below hb6 HIN3.out.lt
            go_wp2
            go_roundg (gk - 1)
            case measure => have := HI2.out; omega
            case rel => exact ⟨i2 + 1, A3, n3, c3, by have := HI2.out; omega, by go_num, hin5, HLE3.out, hb5.trans (hb6.mono hb5.size)⟩
          · obtain ⟨l2, hl2'⟩ := leftB_short HX.out HOK.out (by omega) HLE.out
            rw [hl2'] at cI
            refine cI.mono ?_
            rintro e w3 ⟨A3, n3, c3, A4, n4, c4, rfl, hown3, hin3, hgr3⟩
            replace hin3 : InAt w3 gi A3 n3 c3 2 l2 := hin3
            have hb4 := below_grown hb3 hgr3 hgi hb3.size
            obtain ⟨-, ⟨ge2, hAe2, he2⟩, -⟩ := (HEV.out.next hb4).now.1 i2 r HR.out
            have hbw := (HEV.out.next hb4).now.2
            injection hAe2 with hAe2
            injection hAe2 with hAe2
            subst hAe2
            have hge3 : ge < w3.heap.size := World.block_lt_of_cell? w3 _ he2
            have hs4 : Sl w3 w3.heap.size A4 n4 c4 [] := Sl.of_own hown3
            have hfI : (m : Int) < ((itsB ((rs.map Ik.it).take (i2 + 1))).length : Int) := by omega
            have hxB := (hin3.below (below_box w3 (Obj.cells #[.int .u64 0, .int .i64 0, .slice A4 n4 c4] 72)) hin3.lt)
            have hs5 := hs4.onA (Obj.cells #[.int .u64 0, .int .i64 0, .slice A4 n4 c4] 72)
            have hbw5 := hbw.alloc hbw.size (Obj.cells #[.int .u64 0, .int .i64 0, .slice A4 n4 c4] 72)
            have HIN3 := Lib.hid hxB
            generalize hLL : (itsB ((rs.map Ik.it).take (i2 + 1))).length = L at he2 hfI
            clear hLL
            clear cI hown3 hgr3 hblk3 hb3 hb4 hin3 hs4 hbw
            unfold itv
            simp only [show ((0 : Nat) : Int) = 0 from rfl]
            go_wp2_with fail
            refine (err_any HIN3.out).mono ?_
            rintro e w4 ⟨rfl, rfl⟩
            go_wp2_with fail
            have hsm := spanSame_any _ 0 0 A4 none n4 c4 0 0 [] [] hs5 (Sl.nil_ _ _ _ _ (Nat.zero_le _))
            rw [show sameS 0 [] 0 [] = true from rfl] at hsm
            refine hsm.mono ?_
            rintro e w5 ⟨rfl, hb6⟩
            go_wp2
            go_ret
            exact ⟨rfl, hbw5.trans (hb6.mono hbw5.size)⟩
        · have hend : leftB (rs.map Ik.it) m i2 = [] := leftB_end (by rw [List.length_map]; have := HI2.out; omega) (by have := hPq.len; rw [List.length_take] at this; omega)
          have hin3 := HIN.out
          rw [hend] at hin3
          have hbw := hE2.now.2
          clear HIN hE2 HI2 HLE
          go_wp2_with fail
          have ce := end_any hin3
          rw [show endN [] 0 = 0 from rfl] at ce
          refine ce.mono ?_
          rintro e w3 ⟨A3, n3, c3, rfl, hin4, hgr4⟩
          have hbf := below_grown hbw hgr4 (Nat.le_trans (HEV.out.now.2.size) hgi) hbw.size
          go_wp2
          go_ret
          exact ⟨rfl, hbf⟩

theorem spanRows_law (w : World) (A0 : Option Addr) (n0 c0 : Nat) (ks : List Ik) (h0 : Itms w w.heap.size A0 n0 c0 ks) (cut : Int) (hc : 0 ≤ cut ∧ cut ≤ 65535) :
    Calls Try.prog 13 #[.slice A0 n0 c0, .int .u16 cut] w (Yes w) := by
  obtain ⟨k, rfl⟩ : ∃ k : Nat, cut = (k : Int) := ⟨cut.toNat, by omega⟩
  exact spanRows_walk w A0 n0 c0 ks h0 k (by omega)
end Go.Proofs.Ytefoeebchjnfaaa
