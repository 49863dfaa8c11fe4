/-
  CONTRACTS of layer 12's reference: Find, Clear, Due, Set.
  No statement is proved here.
-/
import Derived.Test.YtfmfamnngfanfaaAlarmTwo
namespace Go.Proofs.Ytfmfamnngfanfaa
open Go.RowKit Go.Sort

def ev (x : En) : List Value := [.int .u64 (x.1 : Int), .int .i64 x.2]
def evs (L : List En) : List Value := L.flatMap ev
theorem evs_len (L : List En) : (evs L).length = L.length * 2 := by
  induction L with
  | nil => rfl
  | cons a L ih => unfold evs at *; rw [List.flatMap_cons, List.length_append, ih, List.length_cons]; simp [ev]; omega
theorem evs_app (L M : List En) : evs (L ++ M) = evs L ++ evs M := by unfold evs; rw [List.flatMap_append]
theorem evs_one1 (x : En) : evs [x] = ev x := by simp [evs]
theorem evs_at {L : List En} {j t : Nat} {x : En} (h : L[j]? = some x) (ht : t < 2) : (evs L)[j * 2 + t]? = (ev x)[t]? := by
  induction L generalizing j with
  | nil => simp at h
  | cons a L ih =>
    have hl : (ev a).length = 2 := rfl
    unfold evs
    rw [List.flatMap_cons]
    rcases j with _ | j
    · simp at h
      subst h
      rw [List.getElem?_append_left (by omega)]
      congr 1
      omega
    · have := ih (j := j) (by simpa using h)
      rw [List.getElem?_append_right (by omega), show (j + 1) * 2 + t - (ev a).length = j * 2 + t from by omega]
      exact this
theorem ev_one (x : En) : ∀ u ∈ ev x, u.oneCell' = true := by
  intro u h
  simp only [ev, List.mem_cons, List.not_mem_nil, or_false] at h
  rcases h with rfl | rfl <;> rfl
theorem evs_one (L : List En) : ∀ u ∈ evs L, u.oneCell' = true := by
  intro u hu
  obtain ⟨r, _, h⟩ := List.mem_flatMap.1 hu
  exact ev_one r u h
theorem evs_take (L : List En) (m : Nat) : (evs L).take (m * 2) = evs (L.take m) := by
  induction L generalizing m with
  | nil => simp [evs]
  | cons a L ih =>
    rcases m with _ | m
    · simp [evs]
    · have hl : (ev a).length = 2 := rfl
      have := ih m
      unfold evs at *
      rw [List.take_succ_cons, List.flatMap_cons, List.flatMap_cons, ← this, List.take_append, show (m + 1) * 2 - (ev a).length = m * 2 from by omega, List.take_of_length_le (by omega)]
theorem evs_drop (L : List En) (m : Nat) : (evs L).drop (m * 2) = evs (L.drop m) := by
  induction L generalizing m with
  | nil => simp [evs]
  | cons a L ih =>
    rcases m with _ | m
    · simp [evs]
    · have hl : (ev a).length = 2 := rfl
      have := ih m
      unfold evs at *
      rw [List.drop_succ_cons, List.flatMap_cons, ← this, List.drop_append, show (m + 1) * 2 - (ev a).length = m * 2 from by omega, List.drop_of_length_le (by omega), List.nil_append]
theorem entry_info : (Try.prog.info? 99).map (fun i => (i.zero, i.size, i.bytes)) = some (some (.agg #[.int .u64 0, .int .i64 0]), 2, 16) := by kernel_rfl
/-- A slice of entries reads as this list. -/
abbrev Es (w : World) (B : Nat) (A : Option Addr) (n c : Nat) (L : List En) : Prop := Sn w B A n c 2 (evs L)
section
variable {w : World} {B : Nat} {A : Option Addr} {n c : Nat} {L : List En}
theorem es_len (h : Es w B A n c L) : L.length = n := by have := h.len; rw [evs_len] at this; omega
theorem es_at {j : Nat} (h : Es w B A n c L) (hj : j < n) : ∃ b o x, A = some ⟨b, o, none⟩ ∧ b < B ∧ L[j]? = some x ∧ w.cell? ⟨b, o + j * 2, none⟩ = some (.int .u64 (x.1 : Int)) ∧ w.cell? ⟨b, o + j * 2 + 1, none⟩ = some (.int .i64 x.2) := by
  have hl : j < L.length := by rw [es_len h]; exact hj
  have hr : L[j]? = some L[j] := List.getElem?_eq_getElem hl
  obtain ⟨b, o, e, hb, hc⟩ := h.cell (by omega)
  have k : ∀ t, t < 2 → ∀ y, (ev L[j])[t]? = some y → w.cell? ⟨b, o + (j * 2 + t), none⟩ = some y := fun t ht y hy => hc _ _ ((evs_at hr ht).trans hy)
  exact ⟨b, o, L[j], e, hb, hr, k 0 (by omega) _ rfl, k 1 (by omega) _ rfl⟩
end
/-- Somebody's place, or -1. -/
def placeOf (id : Nat) (l : List En) (v : Int) : Prop := (v = -1 ∧ timeOf id l = none) ∨ ∃ (j : Nat) (t : Int), v = (j : Int) ∧ l[j]? = some (id, t) ∧ timeOf id l = some t
def FindRel (w : World) (L : List En) (id n gk : Nat) (vi : Value) (wr : World) : Prop :=
  ∃ k, gk + k = n ∧ vi = .int .i64 (k : Int) ∧ (∀ e ∈ L.take k, e.1 ≠ id) ∧ RowKit.Below w.heap.size w wr
set_option maxRecDepth 100000 in
set_option maxHeartbeats 2000000 in
theorem rfind_any (w : World) (A : Option Addr) (n c : Nat) (L : List En) (id : Nat) (h : Es w w.heap.size A n c L) :
    Calls Try.prog 40 #[.slice A n c, .int .u64 (id : Int)] w (fun e w' => ∃ v : Int, e = .returned (.int .i64 v) ∧ placeOf id L v ∧ RowKit.Below w.heap.size w w') := by
  have H := Lib.hid h
  have HL := Lib.hid (es_len h)
  have hnm : n ≤ 9223372036854775807 := Nat.le_trans h.le h.max
  clear h
  go_enter Try.func40, Try.ntmps40
  go_wp2_with fail
  go_loopg [9] n (fun gk vi wr => FindRel w L id n gk vi wr)
  case atStart => exact ⟨0, rfl, rfl, by simp, RowKit.Below.refl _ _⟩
  case round =>
    obtain ⟨k, hgk, rfl, hno, hbel⟩ := hrel
    have HNO := Lib.hid hno
    have HB := Lib.hid hbel
    clear hno hbel
    by_cases hlt : k < n
    · obtain ⟨b, o, x, rfl, hb, hx, c0, c1⟩ := es_at (H.out.on HB.out (Nat.le_refl _)) hlt
      have HX := Lib.hid hx
      clear hx
      by_cases hxi : x.1 = id
      · have hne : ((x.1 : Int) == (id : Int)) = true := by simp [hxi]
        have HXI : Hid (x.1 = id) := hxi
        clear hxi
        go_wp2_with fail
        go_ret
        refine ⟨(k : Int), rfl, .inr ⟨k, x.2, rfl, by rw [HX.out, ← HXI.out], ?_⟩, HB.out.trans ((below_box wr _).mono HB.out.size)⟩
        unfold timeOf
        have h1 : L = L.take k ++ L.drop k := (List.take_append_drop k L).symm
        rw [h1, List.find?_append, List.find?_eq_none.2 (fun e he => by simpa using HNO.out e he)]
        rw [List.drop_eq_getElem_cons (by rw [HL.out]; exact hlt), List.find?_cons]
        have h2 : L[k]'(by rw [HL.out]; exact hlt) = x := by
          have := HX.out
          rw [List.getElem?_eq_getElem (by rw [HL.out]; exact hlt)] at this
          injection this
        rw [h2]
        simp [HXI.out]
      · have hne : ((x.1 : Int) == (id : Int)) = false := by simp; omega
        have HXI : Hid (x.1 ≠ id) := hxi
        clear hxi
        go_wp2_with fail
        go_roundg (gk - 1)
        case measure => omega
        case rel =>
          refine ⟨k + 1, by omega, by go_num, fun e he => ?_, HB.out.trans ((below_box wr _).mono HB.out.size)⟩
          rw [List.take_add_one, HX.out] at he
          rcases List.mem_append.1 he with he | he
          · exact HNO.out e he
          · simp at he; subst he; exact HXI.out
    · go_wp2_with fail
      go_ret
      refine ⟨-1, rfl, .inl ⟨rfl, timeOf_none.2 (fun y hy => HNO.out y ?_)⟩, HB.out⟩
      rw [List.take_of_length_le (by have := HL.out; omega)]
      exact hy
/-- A list of entries is handed back, in a row of its own. -/
def SaysE (w : World) (L : List En) (e : Ending) (w' : World) : Prop := ∃ A n c, e = .returned (.slice A n c) ∧ w'.ownsRow w.heap.size 99 2 (.slice A n c) n (evs L) ∧ RowKit.Below w.heap.size w w'
def ClearRel (w : World) (L : List En) (id n gk : Nat) (vo vi : Value) (wr : World) : Prop :=
  ∃ (k : Nat) (A : Option Addr) (m c : Nat), gk + k = n ∧ vi = .int .i64 (k : Int) ∧ vo = .slice A m c ∧ wr.ownsRow w.heap.size 99 2 (.slice A m c) m (evs (without id (L.take k))) ∧ RowKit.Below w.heap.size w wr
set_option maxRecDepth 100000 in
set_option maxHeartbeats 4000000 in
theorem rclear_any (w : World) (A : Option Addr) (n c : Nat) (L : List En) (id : Nat) (h : Es w w.heap.size A n c L) (hn : n ≤ 100000) :
    Calls Try.prog 41 #[.slice A n c, .int .u64 (id : Int)] w (SaysE w (without id L)) := by
  obtain ⟨i0, hi0, hz0, hz1, hz2⟩ := info_parts entry_info
  have H := Lib.hid h
  have HL := Lib.hid (es_len h)
  clear h
  go_enter Try.func41, Try.ntmps41
  go_wp2_with fail
  go_loopg [5, 10] n (fun gk vo vi wr => ClearRel w L id n gk vo vi wr)
  case atStart => exact ⟨0, none, 0, 0, rfl, rfl, rfl, World.ownsRow_nil _ _ _ _, RowKit.Below.refl _ _⟩
  case round =>
    obtain ⟨k, Ao, m, co, hgk, rfl, rfl, hown, hbel⟩ := hrel
    have HO := Lib.hid hown
    have HB := Lib.hid hbel
    have hm : m ≤ 100000 := by
      have h1 := hown.1
      rw [evs_len] at h1
      have h2 := without_len id (L.take k)
      rw [List.length_take] at h2
      have h3 := HL.out
      omega
    have hbz := hbel.size
    clear hown hbel
    by_cases hlt : k < n
    · obtain ⟨b, o, x, rfl, hb, hx, c0, c1⟩ := es_at (H.out.on HB.out (Nat.le_refl _)) hlt
      have HX := Lib.hid hx
      clear hx
      by_cases hxi : x.1 = id
      · have hne : ((x.1 : Int) != (id : Int)) = false := by simp [hxi]
        have HXI : Hid (x.1 = id) := hxi
        clear hxi
        go_wp2_with fail
        go_roundg (gk - 1)
        case measure => omega
        case rel =>
          refine ⟨k + 1, Ao, m, co, by omega, by go_num, rfl, ?_, HB.out.trans ((below_box wr _).mono HB.out.size)⟩
          have e1 : without id (L.take (k + 1)) = without id (L.take k) := by
            rw [List.take_add_one, HX.out]
            unfold without
            rw [List.filter_append]
            simp [HXI.out]
          rw [e1]
          exact HO.out.alloc _
      · have hne : ((x.1 : Int) != (id : Int)) = true := by simp; omega
        have HXI : Hid (x.1 ≠ id) := hxi
        have HLIT : Hid (Sn ((wr.alloc (.cells #[.int .u64 (x.1 : Int), .int .i64 x.2] 99)).alloc (.cells #[.int .u64 (x.1 : Int), .int .i64 x.2] 99)) (wr.heap.size + 1 + 1) (some ⟨wr.heap.size + 1, 0, none⟩) 1 1 2 (evs [x])) := by
          have hl := lit_sn (wr.alloc (.cells #[.int .u64 (x.1 : Int), .int .i64 x.2] 99)) 99 (evs [x]) 1 2 rfl (by unfold maxLen; omega)
          have hs : (wr.alloc (.cells #[.int .u64 (x.1 : Int), .int .i64 x.2] 99)).heap.size = wr.heap.size + 1 := by simp
          rw [hs] at hl
          exact hl
        clear hxi
        go_wp2_with (at_builtin; refine wpList_append_dstN _ rfl (.tmp 18) (.tmp 20) 83 83 rfl w.heap.size 99 i0 _ 2 16 Try.underlying83 hi0 hz0 hz1 hz2 rfl Ao m co (evs (without id (L.take k))) rfl (.inr ((HO.out.alloc _).alloc _)) _ 1 (evs [x]) rfl (HLIT.out.src Try.underlying83 (evs_one [x])) (by omega) (by omega) (by simp; omega) ?_; intro A9 c9 w9 g1 g2 g3 g4 g5 g6; have HO9 := Lib.hid (g2 (by omega)); have HB9 := Lib.hid (((HB.out.alloc HB.out.size _).alloc (by simp; omega) _).trans g4); clear g1 g2 g3 g4 g5 g6)
        go_roundg (gk - 1)
        case measure => omega
        case rel =>
          refine ⟨k + 1, A9, m + 1, c9, by omega, by go_num, rfl, ?_, HB9.out⟩
          have e1 : without id (L.take (k + 1)) = without id (L.take k) ++ [x] := by
            rw [List.take_add_one, HX.out]
            unfold without
            rw [List.filter_append]
            simp [HXI.out]
          rw [e1, evs_app]
          exact HO9.out
    · go_wp2_with fail
      go_ret
      have e1 : L.take k = L := List.take_of_length_le (by have := HL.out; omega)
      rw [e1] at HO
      exact ⟨Ao, m, co, rfl, HO.out, HB.out⟩
end Go.Proofs.Ytfmfamnngfanfaa
