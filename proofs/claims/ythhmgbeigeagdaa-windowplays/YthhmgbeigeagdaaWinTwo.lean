/-
  CONTRACTS of window.New, Takes, with.
  No statement is proved here.
-/
import Derived.Test.YthhmgbeigeagdaaWinOne
namespace Go.Proofs.Ythhmgbeigeagdaa
open Go.RowKit

/-- A struct of three cells written anew. -/
def set3 (w : World) (Z : Nat) (u0 u1 u2 : Value) : World := ((w.setCell ⟨Z, 0, none⟩ u0).setCell ⟨Z, 1, none⟩ u1).setCell ⟨Z, 2, none⟩ u2
theorem set3_size (w : World) (Z : Nat) (u0 u1 u2 : Value) : (set3 w Z u0 u1 u2).heap.size = w.heap.size := by unfold set3; simp only [World.size_setCell]
theorem set3_row {w : World} {Z : Nat} {a b c : Value} {t : TypeId} (h : w.heap[Z]? = some (.cells #[a, b, c] t (0, 0))) (u0 u1 u2 : Value) : (set3 w Z u0 u1 u2).heap[Z]? = some (.cells #[u0, u1, u2] t (0, 0)) :=
  row_put (row_put (row_put h 0 u0) 1 u1) 2 u2
theorem set3_below {B : Nat} {w0 w : World} (h : Below B w0 w) {Z : Nat} (hZ : B ≤ Z) (u0 u1 u2 : Value) : Below B w0 (set3 w Z u0 u1 u2) :=
  ((h.setCell (p := ⟨Z, 0, none⟩) hZ u0).setCell (p := ⟨Z, 1, none⟩) hZ u1).setCell (p := ⟨Z, 2, none⟩) hZ u2
theorem set3_st {w : World} {A : Option Addr} {n c : Nat} {L : List Rn} (h : St w w.heap.size A n c L) {Z : Nat} (hZ : ∀ b o, A = some ⟨b, o, none⟩ → b ≠ Z) (u0 u1 u2 : Value) : St (set3 w Z u0 u1 u2) (set3 w Z u0 u1 u2).heap.size A n c L := by
  rw [set3_size]
  exact ⟨((h.rs.off (p := ⟨Z, 0, none⟩) hZ u0).off (p := ⟨Z, 1, none⟩) hZ u1).off (p := ⟨Z, 2, none⟩) hZ u2, h.lies⟩
theorem win_res {w w7 : World} {Z : Nat} {a b x : Value} {t : TypeId} {A : Option Addr} {n c : Nat} {W : Wn} (hb : Below w.heap.size w w7) (hZ : w7.heap[Z]? = some (.cells #[a, b, x] t (0, 0))) (hZl : w.heap.size ≤ Z) (hs : St w7 w7.heap.size A n c W.L) (hF : ∀ b o, A = some ⟨b, o, none⟩ → b ≠ Z) (hl : W.low < two64) (hw : W.width < two64) (hk : Okl W.L) :
    ((set3 w7 Z (.int .u64 (W.low : Int)) (.int .u64 (W.width : Int)) (.slice A n c)).cell? ⟨Z, 0, none⟩ = some (.int .u64 (W.low : Int)) ∧ (set3 w7 Z (.int .u64 (W.low : Int)) (.int .u64 (W.width : Int)) (.slice A n c)).cell? ⟨Z, 1, none⟩ = some (.int .u64 (W.width : Int)) ∧ (set3 w7 Z (.int .u64 (W.low : Int)) (.int .u64 (W.width : Int)) (.slice A n c)).cell? ⟨Z, 2, none⟩ = some (.slice A n c)) ∧
    Wat (set3 w7 Z (.int .u64 (W.low : Int)) (.int .u64 (W.width : Int)) (.slice A n c)) A n c W ∧ Below w.heap.size w (set3 w7 Z (.int .u64 (W.low : Int)) (.int .u64 (W.width : Int)) (.slice A n c)) := by
  have h := set3_row hZ (.int .u64 (W.low : Int)) (.int .u64 (W.width : Int)) (.slice A n c)
  exact ⟨⟨row_at h rfl, row_at h rfl, row_at h rfl⟩, ⟨set3_st hs hF _ _ _, hl, hw, hk⟩, set3_below hb hZl _ _ _⟩
set_option maxHeartbeats 400000 in
theorem takes_any (w : World) (A : Option Addr) (n c : Nat) (W : Wn) (h : Wat w A n c W) (hl : W.low + W.width < two64) (hn : n ≤ 900) (k : Nat) :
    Calls Try.prog 11 #[wvv W A n c, .int .u64 (k : Int)] w (Says w (.bool (takesW W k))) := by
  have H := Lib.hid (h.on (below_box w (Obj.cells #[.int .u64 (W.low : Int), .int .u64 (W.width : Int), .slice A n c] 30)))
  clear h
  have hlim : limW W = W.low + W.width := by unfold limW; unfold two64 at hl; omega
  have h1 := limit_any (w.alloc (Obj.cells #[.int .u64 (W.low : Int), .int .u64 (W.width : Int), .slice A n c] 30)) A n c W
  rw [hlim] at h1
  generalize hbb : W.low + W.width = b at *
  have H1 := Lib.hid h1
  unfold wvv at H1
  have HB := Lib.hid hbb
  clear h1 hbb hlim
  unfold wvv
  by_cases hk : k ≤ b
  · have hkI : (k : Int) ≤ (b : Int) := by omega
    rw [show takesW W k = !hadW W k from by unfold takesW; rw [HB.out]; simp [hk]]
    go_enter Try.func11, Try.ntmps11
    go_wp2_with fail
    refine H1.out.mono ?_
    rintro e w2 ⟨rfl, hb2⟩
    have hbw := (below_box w (Obj.cells #[.int .u64 (W.low : Int), .int .u64 (W.width : Int), .slice A n c] 30)).trans (hb2.mono (by simp))
    have hc0 : w2.cell? ⟨w.heap.size, 0, none⟩ = some (.int .u64 (W.low : Int)) := (hb2.cell (p := ⟨w.heap.size, 0, none⟩) (by simp)).trans (cell_last w _ _ _ 0 rfl)
    have hc1 : w2.cell? ⟨w.heap.size, 1, none⟩ = some (.int .u64 (W.width : Int)) := (hb2.cell (p := ⟨w.heap.size, 1, none⟩) (by simp)).trans (cell_last w _ _ _ 1 rfl)
    have hc2 : w2.cell? ⟨w.heap.size, 2, none⟩ = some (.slice A n c) := (hb2.cell (p := ⟨w.heap.size, 2, none⟩) (by simp)).trans (cell_last w _ _ _ 2 rfl)
    have h3 := had_any w2 A n c W (H.out.on hb2) hn k
    unfold wvv at h3
    have H3 := Lib.hid h3
    have HBW := Lib.hid hbw
    clear h3 hb2 hbw
    go_wp2_with fail
    refine H3.out.mono ?_
    rintro e w3 ⟨rfl, hb3⟩
    go_wp2
    go_ret
    exact ⟨rfl, HBW.out.trans (hb3.mono HBW.out.size)⟩
  · have hkI : ¬ (k : Int) ≤ (b : Int) := by omega
    rw [show takesW W k = false from by unfold takesW; rw [HB.out]; simp [hk]]
    go_enter Try.func11, Try.ntmps11
    go_wp2_with fail
    refine H1.out.mono ?_
    rintro e w2 ⟨rfl, hb2⟩
    have hbw := (below_box w (Obj.cells #[.int .u64 (W.low : Int), .int .u64 (W.width : Int), .slice A n c] 30)).trans (hb2.mono (by simp))
    go_wp2
    go_ret
    exact ⟨rfl, hbw⟩
set_option maxRecDepth 100000 in
set_option maxHeartbeats 400000 in
theorem new_any (w : World) (k : Nat) (hk : k < two64) :
    Calls Try.prog 9 #[.int .u64 (k : Int)] w (SaysW w (newW k)) := by
  go_enter Try.func9, Try.ntmps9
  go_wp2
  refine bodyPost_ret (v := .agg #[.int .u64 0, .int .u64 (k : Int), .slice none 0 0]) (by simp [results, Try.results9, go_sem]) rfl ?_
  exact ⟨none, 0, 0, rfl, ⟨St.nil_ _ _, by unfold newW two64; simp, hk, Okl.nil⟩, below_box w _⟩
theorem low_wrap {D : List Rn} (hD : Okl D) : IntKind.u64.wrap (((gapL D 0).1 : Int) - 1) = (lowOf D : Int) ∧ lowOf D < two64 := by
  have hg : (gapL D 0).1 < two64 := by
    rcases gap_spec hD (n := 0) (by unfold two64; omega) with ⟨h1, _⟩ | ⟨g, h1, _, h2, _⟩
    · rw [h1]; unfold two64; simp
    · rw [h1]; exact h2
  unfold lowOf
  generalize (gapL D 0).1 = g at *
  unfold two64 at *
  rw [IntKind.wrap_u64]
  by_cases h0 : g = 0
  · rw [if_pos h0, h0]; decide +kernel
  · rw [if_neg h0]; omega
/-- A window is handed back whose set's row is new. -/
def SaysWn (w : World) (W : Wn) (e : Ending) (w' : World) : Prop := ∃ A n c, e = .returned (.agg #[.int .u64 (W.low : Int), .int .u64 (W.width : Int), .slice A n c]) ∧ Wat w' A n c W ∧ (∀ b o, A = some ⟨b, o, none⟩ → w.heap.size ≤ b) ∧ Below w.heap.size w w'
set_option maxRecDepth 100000 in
set_option maxHeartbeats 4000000 in
theorem with_any (w : World) (A : Option Addr) (n c : Nat) (W : Wn) (h : Wat w A n c W) (A' : Option Addr) (n' c' : Nat) (D : List Rn) (hD : St w w.heap.size A' n' c' D) (hk : Okl D) (hn : n' ≤ 600) :
    Calls Try.prog 29 #[wvv W A n c, .agg #[.slice A' n' c']] w (SaysWn w (withW W D)) := by
  have H := Lib.hid h
  have HD := Lib.hid hD
  have HK := Lib.hid hk
  have HL := Lib.hid (low_wrap hk)
  clear h hD hk
  unfold wvv
  go_enter Try.func29, Try.ntmps29
  go_wp2_with fail
  have hb2 := ((below_box w (Obj.cells #[.int .u64 (W.low : Int), .int .u64 (W.width : Int), .slice A n c] 30)).alloc (by simp) (Obj.cells #[.slice A' n' c'] 28)).alloc (by simp; omega) (Obj.cells #[.int .u64 0, .int .u64 0, .slice none 0 0] 30)
  have hX : (((w.alloc (Obj.cells #[.int .u64 (W.low : Int), .int .u64 (W.width : Int), .slice A n c] 30)).alloc (Obj.cells #[.slice A' n' c'] 28)).alloc (Obj.cells #[.int .u64 0, .int .u64 0, .slice none 0 0] 30)).heap[w.heap.size]? = some (.cells #[.int .u64 (W.low : Int), .int .u64 (W.width : Int), .slice A n c] 30 (0, 0)) := by
    rw [(below_box ((w.alloc (Obj.cells #[.int .u64 (W.low : Int), .int .u64 (W.width : Int), .slice A n c] 30)).alloc (Obj.cells #[.slice A' n' c'] 28)) _).block _ (by simp; omega), (below_box (w.alloc (Obj.cells #[.int .u64 (W.low : Int), .int .u64 (W.width : Int), .slice A n c] 30)) _).block _ (by simp)]
    exact heap_alloc_new w _
  have hY : (((w.alloc (Obj.cells #[.int .u64 (W.low : Int), .int .u64 (W.width : Int), .slice A n c] 30)).alloc (Obj.cells #[.slice A' n' c'] 28)).alloc (Obj.cells #[.int .u64 0, .int .u64 0, .slice none 0 0] 30)).heap[w.heap.size + 1]? = some (.cells #[.slice A' n' c'] 28 (0, 0)) := by
    rw [(below_box ((w.alloc (Obj.cells #[.int .u64 (W.low : Int), .int .u64 (W.width : Int), .slice A n c] 30)).alloc (Obj.cells #[.slice A' n' c'] 28)) _).block _ (by simp)]
    simpa using heap_alloc_new (w.alloc (Obj.cells #[.int .u64 (W.low : Int), .int .u64 (W.width : Int), .slice A n c] 30)) (Obj.cells #[.slice A' n' c'] 28)
  have hZ : (((w.alloc (Obj.cells #[.int .u64 (W.low : Int), .int .u64 (W.width : Int), .slice A n c] 30)).alloc (Obj.cells #[.slice A' n' c'] 28)).alloc (Obj.cells #[.int .u64 0, .int .u64 0, .slice none 0 0] 30)).heap[w.heap.size + 1 + 1]? = some (.cells #[.int .u64 0, .int .u64 0, .slice none 0 0] 30 (0, 0)) := by
    simpa using heap_alloc_new ((w.alloc (Obj.cells #[.int .u64 (W.low : Int), .int .u64 (W.width : Int), .slice A n c] 30)).alloc (Obj.cells #[.slice A' n' c'] 28)) (Obj.cells #[.int .u64 0, .int .u64 0, .slice none 0 0] 30)
  generalize ((w.alloc (Obj.cells #[.int .u64 (W.low : Int), .int .u64 (W.width : Int), .slice A n c] 30)).alloc (Obj.cells #[.slice A' n' c'] 28)).alloc (Obj.cells #[.int .u64 0, .int .u64 0, .slice none 0 0] 30) = w2 at *
  have HD2 := Lib.hid (HD.out.on hb2 (Nat.le_refl _))
  have hZl : w.heap.size + 1 + 1 < w2.heap.size := (Array.getElem?_eq_some_iff.1 hZ).1
  have hgap := gap_any w2 A' n' c' 0 D HD2.out.rs HK.out.can (by omega)
  have hYl : w2.cell? ⟨w.heap.size + 1, 0, none⟩ = some (.slice A' n' c') := row_at hY rfl
  refine hgap.mono ?_
  rintro e w3 ⟨rfl, hb3⟩
  have HX3 := Lib.hid ((hb3.block _ (by omega)).trans hX)
  have HY3 := Lib.hid ((hb3.block _ (by omega)).trans hY)
  have HZ3 := Lib.hid ((hb3.block _ hZl).trans hZ)
  have HD3 := Lib.hid (HD2.out.on hb3 (Nat.le_refl _))
  have HB3 := Lib.hid (hb2.trans (hb3.mono hb2.size))
  have HZL : Hid (w.heap.size + 1 + 1 < w3.heap.size) := Nat.lt_of_lt_of_le hZl hb3.size
  clear hb2 hX hY hZ HD2 hZl hgap hYl hb3
  have hx0 : w3.cell? ⟨w.heap.size, 0, none⟩ = some (.int .u64 (W.low : Int)) := row_at HX3.out rfl
  have hf0 := frz_row (i := 0) HX3.out
  generalize gapL D 0 = gp at *
  obtain ⟨g, ok⟩ := gp
  obtain ⟨lo, HLO⟩ : ∃ lo, Hid (lo = lowOf D) := ⟨_, rfl⟩
  rw [← HLO.out] at HL
  have hgw : IntKind.u64.wrap ((g : Int) - 1) = (lo : Int) := HL.out.1
  go_wp2_with fail
  have HX4 : Hid ((w3.setCell ⟨w.heap.size, 0, none⟩ (.int .u64 (lo : Int))).heap[w.heap.size]? = some (.cells #[.int .u64 (lo : Int), .int .u64 (W.width : Int), .slice A n c] 30 (0, 0))) := row_put HX3.out 0 _
  have HY4 := Lib.hid ((row_off' (X := w.heap.size) (i := 0) (.int .u64 (lo : Int)) (show w.heap.size + 1 ≠ w.heap.size by omega)).trans HY3.out)
  have HZ4 := Lib.hid ((row_off' (X := w.heap.size) (i := 0) (.int .u64 (lo : Int)) (show w.heap.size + 1 + 1 ≠ w.heap.size by omega)).trans HZ3.out)
  have hz4 : (w3.setCell ⟨w.heap.size, 0, none⟩ (.int .u64 (lo : Int))).heap.size = w3.heap.size := by simp [World.setCell]
  have hz5 : w3.heap.size ≤ (w3.setCell ⟨w.heap.size, 0, none⟩ (.int .u64 (lo : Int))).heap.size := by simp [World.setCell]
  have HD4 : Hid (St (w3.setCell ⟨w.heap.size, 0, none⟩ (.int .u64 (lo : Int))) (w3.setCell ⟨w.heap.size, 0, none⟩ (.int .u64 (lo : Int))).heap.size A' n' c' D) := by
    have hlt : ∀ b o, A' = some ⟨b, o, none⟩ → b < w.heap.size := HD.out.lies
    exact ⟨(HD3.out.rs.off (p := ⟨w.heap.size, 0, none⟩) (fun b o e => by have := hlt b o e; show b ≠ w.heap.size; omega) _).more hz5, fun b o e => Nat.lt_of_lt_of_le (HD3.out.lies b o e) hz5⟩
  have HB4 := Lib.hid (HB3.out.setCell (p := ⟨w.heap.size, 0, none⟩) (Nat.le_refl _) (.int .u64 (lo : Int)))
  replace HZL : Hid (w.heap.size + 1 + 1 < (w3.setCell ⟨w.heap.size, 0, none⟩ (.int .u64 (lo : Int))).heap.size) := Nat.lt_of_lt_of_le HZL.out hz5
  clear hx0 hf0 HX3 HY3 HZ3 HD3 HB3 hz4 hz5 hgw
  generalize w3.setCell ⟨w.heap.size, 0, none⟩ (.int .u64 (lo : Int)) = w4 at *
  have hy4 : w4.cell? ⟨w.heap.size + 1, 0, none⟩ = some (.slice A' n' c') := row_at HY4.out rfl
  have hx4 : w4.cell? ⟨w.heap.size, 0, none⟩ = some (.int .u64 (lo : Int)) := row_at HX4.out rfl
  have hZl := HZL.out
  obtain ⟨R, HR⟩ : ∃ R, Hid (R = lessL D (spanL [] 0 lo)) := ⟨_, rfl⟩
  have HLT : Hid (lo < two64) := HL.out.2
  clear HL
  go_region_held3 (fun w' => w'.cell? ⟨w.heap.size + 1, 0, none⟩ = some (.slice A' n' c') ∧ w'.cell? ⟨w.heap.size, 0, none⟩ = some (.int .u64 (lo : Int))) (first | exact ⟨hy4, hx4⟩ | exact hk5 | exact hk6 | exact hk7) (first
    | (go_at_call 33
       refine (span_any _ 0 none 0 0 0 lo [] (St.nil_ _ _) (Nat.zero_le _) (by unfold two64; omega) HLT.out (by omega)).mono ?_
       rintro e w5 ⟨A5, n5, c5, rfl, hs5, hp5, hb5⟩
       have hk5 : w5.cell? ⟨w.heap.size + 1, 0, none⟩ = some (.slice A' n' c') ∧ w5.cell? ⟨w.heap.size, 0, none⟩ = some (.int .u64 (lo : Int)) := ⟨(hb5.cell (p := ⟨w.heap.size + 1, 0, none⟩) (by show w.heap.size + 1 < w4.heap.size; omega)).trans hy4, (hb5.cell (p := ⟨w.heap.size, 0, none⟩) (by show w.heap.size < w4.heap.size; omega)).trans hx4⟩
       have HB5 : Hid (Below w4.heap.size w4 w5) := (below_drewN (Below.refl _ _) 1).trans hb5
       have HD5 := Lib.hid (HD4.out.on HB5.out (Nat.le_refl _))
       have HS5 := Lib.hid hs5)
    | (go_at_call 43
       refine (rless_any _ A' A5 n' c' n5 c5 D _ HD5.out.rs HS5.out.rs HK.out (span_ok Okl.nil (by unfold two64; omega) HLT.out) (by omega) (by have := span1_len 0 lo (by unfold two64; omega) HLT.out; rw [HS5.out.rs.len] at this; omega)).mono ?_
       rintro e w6 ⟨A6, n6, c6, rfl, hs6, hp6, hb6⟩
       have HB6 : Hid (Below w4.heap.size w4 w6) := HB5.out.trans (hb6.mono HB5.out.size)
       have hk6 : w6.cell? ⟨w.heap.size + 1, 0, none⟩ = some (.slice A' n' c') ∧ w6.cell? ⟨w.heap.size, 0, none⟩ = some (.int .u64 (lo : Int)) := ⟨(HB6.out.cell (p := ⟨w.heap.size + 1, 0, none⟩) (by show w.heap.size + 1 < w4.heap.size; omega)).trans hy4, (HB6.out.cell (p := ⟨w.heap.size, 0, none⟩) (by show w.heap.size < w4.heap.size; omega)).trans hx4⟩
       have HX6 := Lib.hid ((HB6.out.block _ (by omega)).trans HX4.out)
       have HZ6 := Lib.hid ((HB6.out.block _ hZl).trans HZ4.out)
       have hq0 : w6.cell? ⟨w.heap.size, 2, none⟩ = some (.slice A n c) := row_at HX6.out rfl
       have hf0 := frz_row (i := 2) HX6.out
       have hk7 : (w6.setCell ⟨w.heap.size, 2, none⟩ (.slice A6 n6 c6)).cell? ⟨w.heap.size + 1, 0, none⟩ = some (.slice A' n' c') ∧ (w6.setCell ⟨w.heap.size, 2, none⟩ (.slice A6 n6 c6)).cell? ⟨w.heap.size, 0, none⟩ = some (.int .u64 (lo : Int)) := ⟨(World.cell?_setCell_other w6 ⟨w.heap.size, 2, none⟩ ⟨w.heap.size + 1, 0, none⟩ _ (by simp)).trans hk6.1, (World.cell?_setCell_other w6 ⟨w.heap.size, 2, none⟩ ⟨w.heap.size, 0, none⟩ _ (by simp)).trans hk6.2⟩))
  have HX7 : Hid ((w6.setCell ⟨w.heap.size, 2, none⟩ (.slice A6 n6 c6)).heap[w.heap.size]? = some (.cells #[.int .u64 (lo : Int), .int .u64 (W.width : Int), .slice A6 n6 c6] 30 (0, 0))) := row_put HX6.out 2 _
  have HZ7 := Lib.hid ((row_off' (X := w.heap.size) (i := 2) (.slice A6 n6 c6) (show w.heap.size + 1 + 1 ≠ w.heap.size by omega)).trans HZ6.out)
  have hz7 : w6.heap.size ≤ (w6.setCell ⟨w.heap.size, 2, none⟩ (.slice A6 n6 c6)).heap.size := by simp [World.setCell]
  have HS7 : Hid (St (w6.setCell ⟨w.heap.size, 2, none⟩ (.slice A6 n6 c6)) (w6.setCell ⟨w.heap.size, 2, none⟩ (.slice A6 n6 c6)).heap.size A6 n6 c6 (lessL D (spanL [] 0 lo))) :=
    ⟨(hs6.rs.off (p := ⟨w.heap.size, 2, none⟩) (fun b o e => by have := hp6 b o e; have := HB5.out.size; show b ≠ w.heap.size; omega) _).more hz7, fun b o e => Nat.lt_of_lt_of_le (hs6.lies b o e) hz7⟩
  have HF7 : Hid (∀ b o, A6 = some ⟨b, o, none⟩ → w.heap.size + 1 + 1 < b) := fun b o e => by have := hp6 b o e; have := HB5.out.size; omega
  have HB7 := Lib.hid ((HB4.out.trans (HB6.out.mono HB4.out.size)).setCell (p := ⟨w.heap.size, 2, none⟩) (Nat.le_refl _) (.slice A6 n6 c6))
  clear hy4 hx4 hs5 hp5 hb5 hk5 HB5 HD5 HS5 hs6 hp6 hb6 HB6 hk6 HX6 HZ6 hq0 hf0 hk7 HX4 HY4 HZ4 HD4 HB4 hz7
  generalize w6.setCell ⟨w.heap.size, 2, none⟩ (.slice A6 n6 c6) = w7 at *
  have hx0 : w7.cell? ⟨w.heap.size, 0, none⟩ = some (.int .u64 (lo : Int)) := row_at HX7.out rfl
  have hx1 : w7.cell? ⟨w.heap.size, 1, none⟩ = some (.int .u64 (W.width : Int)) := row_at HX7.out rfl
  have hx2 : w7.cell? ⟨w.heap.size, 2, none⟩ = some (.slice A6 n6 c6) := row_at HX7.out rfl
  have hz0 : w7.cell? ⟨w.heap.size + 1 + 1, 0, none⟩ = some (.int .u64 0) := row_at HZ7.out rfl
  have hz1 : w7.cell? ⟨w.heap.size + 1 + 1, 1, none⟩ = some (.int .u64 0) := row_at HZ7.out rfl
  have hz2 : w7.cell? ⟨w.heap.size + 1 + 1, 2, none⟩ = some (.slice none 0 0) := row_at HZ7.out rfl
  have hf0 := frz_row (i := 0) HZ7.out
  have hf1 := frz_row (i := 1) HZ7.out
  have hf2 := frz_row (i := 2) HZ7.out
  go_wp2
  have hw' : (withW W D).low = lo := by rw [with_low, HLO.out]
  have hres := win_res (w := w) (W := withW W D) HB7.out HZ7.out (by omega) (by rw [with_L, ← HLO.out]; exact HS7.out) (fun b o e => by have := HF7.out b o e; omega) (by rw [hw']; exact HLT.out) (by rw [with_width]; exact H.out.width) (by rw [with_L, ← HLO.out]; exact less_ok HK.out (span1_ok (by unfold two64; omega) HLT.out))
  rw [hw', with_width] at hres
  obtain ⟨⟨r0, r1, r2⟩, hwat, hbel⟩ := hres
  unfold set3 at r0 r1 r2 hwat hbel
  refine bodyPost_ret (v := .agg #[.int .u64 (lo : Int), .int .u64 (W.width : Int), .slice A6 n6 c6]) (by simp [results, Try.results29, go_sem, r0, r1, r2]) rfl ?_
  exact ⟨A6, n6, c6, by rw [hw', with_width], hwat, fun b o e => by have := HF7.out b o e; omega, hbel⟩
end Go.Proofs.Ythhmgbeigeagdaa
