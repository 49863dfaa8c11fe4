/-
  CONTRACTS of Put, Skip, Runs, Same, Right.
  No statement is proved here.
-/
import Derived.Test.YthhmgbeigeagdaaWinTwo
namespace Go.Proofs.Ythhmgbeigeagdaa
open Go.RowKit

/-- A window is handed back, whose set's row is the old one's or a new one. -/
def SaysP (w : World) (A : Option Addr) (W : Wn) (e : Ending) (w' : World) : Prop := ∃ A' n c, e = .returned (.agg #[.int .u64 (W.low : Int), .int .u64 (W.width : Int), .slice A' n c]) ∧ Wat w' A' n c W ∧ (∀ b o, A' = some ⟨b, o, none⟩ → A' = A ∨ w.heap.size ≤ b) ∧ Below w.heap.size w w'
theorem SaysW.ex {w : World} {W : Wn} {e : Ending} {w' : World} (h : SaysW w W e w') : ∃ A n c, e = .returned (.agg #[.int .u64 (W.low : Int), .int .u64 (W.width : Int), .slice A n c]) ∧ Wat w' A n c W ∧ Below w.heap.size w w' := h
theorem set3_other (w : World) {Y Z i : Nat} (u0 u1 u2 : Value) (h : Y ≠ Z) : (set3 w Z u0 u1 u2).cell? ⟨Y, i, none⟩ = w.cell? ⟨Y, i, none⟩ := by
  unfold set3
  rw [World.cell?_setCell_other _ ⟨Z, 2, none⟩ ⟨Y, i, none⟩ _ (fun e => h (by injection e with e1; exact e1.symm)), World.cell?_setCell_other _ ⟨Z, 1, none⟩ ⟨Y, i, none⟩ _ (fun e => h (by injection e with e1; exact e1.symm)), World.cell?_setCell_other _ ⟨Z, 0, none⟩ ⟨Y, i, none⟩ _ (fun e => h (by injection e with e1; exact e1.symm))]
theorem len_card : ∀ (L : List Rn), Canon L → L.length ≤ cardL L
  | [], _ => Nat.zero_le _
  | a :: L, h => by
    have := len_card L h.tail
    have := h.ok a List.mem_cons_self
    simp only [List.length_cons, cardL] at *
    omega
theorem Wn.Ok.card {W : Wn} (h : W.Ok) : cardL W.L + 1 ≤ W.width := by
  have h1 := h.w1
  have hb : ∀ r ∈ W.L, W.low + 2 ≤ r.1 := fun r hr => by
    have := (h.lo r.1 ⟨r, hr, Nat.le_refl _, h.ok.can.ok r hr⟩).1
    omega
  have ht : ∀ r ∈ W.L, r.2 < W.low + W.width + 1 := fun r hr => by
    have := (h.lo r.2 ⟨r, hr, h.ok.can.ok r hr, Nat.le_refl _⟩).2
    omega
  have := card_top W.L (W.low + W.width + 1) h.ok.can ht (W.low + 2) hb (by omega)
  omega
theorem Wn.Ok.len {W : Wn} (h : W.Ok) : W.L.length + 1 ≤ W.width := by
  have := len_card W.L h.ok.can
  have := h.card
  omega
theorem Wat.n_le {w : World} {A : Option Addr} {n c : Nat} {W : Wn} (h : Wat w A n c W) (hk : W.Ok) : n < W.width := by
  have := h.st.rs.len
  have := hk.len
  omega
theorem done_len {W : Wn} (h : W.Ok) : (doneL W).length ≤ W.width := by
  have := span_len (s := W.L) (f := 0) (t := W.low) h.ok (by unfold two64; omega) (by have := h.low; unfold two64; omega)
  have := h.len
  unfold doneL
  omega
/-- The box of a window that came in, and the result's cell behind it. -/
theorem two_boxes (w : World) (v0 v1 v2 : Value) (t : TypeId) (z0 z1 z2 : Value) :
    Below w.heap.size w ((w.alloc (Obj.cells #[v0, v1, v2] t)).alloc (Obj.cells #[z0, z1, z2] t)) ∧ ((w.alloc (Obj.cells #[v0, v1, v2] t)).alloc (Obj.cells #[z0, z1, z2] t)).heap[w.heap.size]? = some (.cells #[v0, v1, v2] t (0, 0)) ∧
    ((w.alloc (Obj.cells #[v0, v1, v2] t)).alloc (Obj.cells #[z0, z1, z2] t)).heap[w.heap.size + 1]? = some (.cells #[z0, z1, z2] t (0, 0)) := by
  refine ⟨(below_box w _).alloc (by simp) _, ?_, by simpa using heap_alloc_new (w.alloc (Obj.cells #[v0, v1, v2] t)) (Obj.cells #[z0, z1, z2] t)⟩
  rw [(below_box (w.alloc (Obj.cells #[v0, v1, v2] t)) _).block _ (by simp)]
  exact heap_alloc_new w _

set_option maxRecDepth 100000 in
set_option maxHeartbeats 4000000 in
theorem put_any (w : World) (A : Option Addr) (n c : Nat) (W : Wn) (h : Wat w A n c W) (hk : W.Ok) (hw : W.width ≤ 400) (k : Nat) (hk64 : k < two64) :
    Calls Try.prog 16 #[wvv W A n c, .int .u64 (k : Int)] w (SaysP w A (putW W k)) := by
  have H := Lib.hid h
  have HK := Lib.hid hk
  have HN := Lib.hid (h.n_le hk)
  have HKK := Lib.hid hk64
  have hsum : W.low + W.width < two64 := by have := hk.low; unfold two64; omega
  have HSUM := Lib.hid hsum
  clear h hk hsum hk64
  unfold wvv
  go_enter Try.func16, Try.ntmps16
  go_wp2_with fail
  have hb := two_boxes w (.int .u64 (W.low : Int)) (.int .u64 (W.width : Int)) (.slice A n c) 30 (.int .u64 0) (.int .u64 0) (.slice none 0 0)
  generalize (w.alloc (Obj.cells #[.int .u64 (W.low : Int), .int .u64 (W.width : Int), .slice A n c] 30)).alloc (Obj.cells #[.int .u64 0, .int .u64 0, .slice none 0 0] 30) = w2 at *
  obtain ⟨hb2, hX, hZ⟩ := hb
  have hZl : w.heap.size + 1 < w2.heap.size := (Array.getElem?_eq_some_iff.1 hZ).1
  have H2 := Lib.hid (H.out.on hb2)
  have ht := takes_any w2 A n c W H2.out HSUM.out (by have := HN.out; omega) k
  unfold wvv at ht
  have HT := Lib.hid ht
  clear ht
  have hx0 : w2.cell? ⟨w.heap.size, 0, none⟩ = some (.int .u64 (W.low : Int)) := row_at hX rfl
  have hx1 : w2.cell? ⟨w.heap.size, 1, none⟩ = some (.int .u64 (W.width : Int)) := row_at hX rfl
  have hx2 : w2.cell? ⟨w.heap.size, 2, none⟩ = some (.slice A n c) := row_at hX rfl
  have HX := Lib.hid hX
  have HZ := Lib.hid hZ
  have HB2 := Lib.hid hb2
  clear hX hZ hb2
  refine HT.out.mono ?_
  rintro e w3 ⟨rfl, hb3⟩
  have HX3 := Lib.hid ((hb3.block _ (by omega)).trans HX.out)
  have HZ3 := Lib.hid ((hb3.block _ hZl).trans HZ.out)
  have H3 := Lib.hid (H2.out.on hb3)
  have HB3 := Lib.hid (HB2.out.trans (hb3.mono HB2.out.size))
  have hZl3 := Nat.lt_of_lt_of_le hZl hb3.size
  clear hx0 hx1 hx2 HX HZ HB2 H2 HT hb3 hZl
  have hx0 : w3.cell? ⟨w.heap.size, 0, none⟩ = some (.int .u64 (W.low : Int)) := row_at HX3.out rfl
  have hx1 : w3.cell? ⟨w.heap.size, 1, none⟩ = some (.int .u64 (W.width : Int)) := row_at HX3.out rfl
  have hx2 : w3.cell? ⟨w.heap.size, 2, none⟩ = some (.slice A n c) := row_at HX3.out rfl
  cases htk : takesW W k
  · have HP : Hid (putW W k = W) := by show putW W k = W; unfold putW; rw [htk]; rfl
    have hz0 : w3.cell? ⟨w.heap.size + 1, 0, none⟩ = some (.int .u64 0) := row_at HZ3.out rfl
    have hz1 : w3.cell? ⟨w.heap.size + 1, 1, none⟩ = some (.int .u64 0) := row_at HZ3.out rfl
    have hz2 : w3.cell? ⟨w.heap.size + 1, 2, none⟩ = some (.slice none 0 0) := row_at HZ3.out rfl
    have hf0 := frz_row (i := 0) HZ3.out
    have hf1 := frz_row (i := 1) HZ3.out
    have hf2 := frz_row (i := 2) HZ3.out
    go_wp2
    have hres := win_res (w := w) (W := W) HB3.out HZ3.out (by omega) H3.out.st (fun b o e => by have := H.out.st.lies b o e; omega) H.out.low H.out.width H.out.ok
    obtain ⟨⟨r0, r1, r2⟩, hwat, hbel⟩ := hres
    unfold set3 at r0 r1 r2 hwat hbel
    have hres : SaysP w A W _ _ := ⟨A, n, c, rfl, hwat, fun _ _ _ => .inl rfl, hbel⟩
    rw [HP.out]
    exact bodyPost_ret (v := .agg #[.int .u64 (W.low : Int), .int .u64 (W.width : Int), .slice A n c]) (by simp [results, Try.results16, go_sem, r0, r1, r2]) rfl hres
  · have HP : Hid (putW W k = withW W (spanL (doneL W) k k)) := by show putW W k = _; unfold putW; rw [htk]; rfl
    go_wp2_with fail
    go_region_held3 (fun w' => w'.cell? ⟨w.heap.size, 0, none⟩ = some (.int .u64 (W.low : Int)) ∧ w'.cell? ⟨w.heap.size, 1, none⟩ = some (.int .u64 (W.width : Int)) ∧ w'.cell? ⟨w.heap.size, 2, none⟩ = some (.slice A n c)) (first | exact ⟨hx0, hx1, hx2⟩ | exact hk4 | exact hk5 | exact hk6 | exact hk7) (first
      | (go_at_call 30
         have hc := done_any w3.drew A n c W (H3.out.on (below_drewN (Below.refl _ _) 1)) (by have := HN.out; omega)
         unfold wvv at hc
         refine hc.mono ?_
         rintro e w4 ⟨A4, n4, c4, rfl, hs4, _, hb4⟩
         have HB4 : Hid (Below w3.heap.size w3 w4) := (below_drewN (Below.refl _ _) 1).trans hb4
         have hk4 : w4.cell? ⟨w.heap.size, 0, none⟩ = some (.int .u64 (W.low : Int)) ∧ w4.cell? ⟨w.heap.size, 1, none⟩ = some (.int .u64 (W.width : Int)) ∧ w4.cell? ⟨w.heap.size, 2, none⟩ = some (.slice A n c) := ⟨(HB4.out.cell (p := ⟨w.heap.size, 0, none⟩) (by show w.heap.size < w3.heap.size; omega)).trans hx0, (HB4.out.cell (p := ⟨w.heap.size, 1, none⟩) (by show w.heap.size < w3.heap.size; omega)).trans hx1, (HB4.out.cell (p := ⟨w.heap.size, 2, none⟩) (by show w.heap.size < w3.heap.size; omega)).trans hx2⟩
         have HS4 := Lib.hid hs4
         have HN4 : Hid (n4 ≤ W.width) := by have := done_len HK.out; rw [hs4.rs.len] at this; exact this)
      | (go_at_call 31
         refine (add_any w4 w4.heap.size A4 n4 c4 k (doneL W) HS4.out (Nat.le_refl _) HKK.out (by have := HN4.out; omega)).mono ?_
         rintro e w5 ⟨A5, n5, c5, rfl, hs5, _, hb5⟩
         have HB5 : Hid (Below w3.heap.size w3 w5) := HB4.out.trans (hb5.mono HB4.out.size)
         have hk5 : w5.cell? ⟨w.heap.size, 0, none⟩ = some (.int .u64 (W.low : Int)) ∧ w5.cell? ⟨w.heap.size, 1, none⟩ = some (.int .u64 (W.width : Int)) ∧ w5.cell? ⟨w.heap.size, 2, none⟩ = some (.slice A n c) := ⟨(HB5.out.cell (p := ⟨w.heap.size, 0, none⟩) (by show w.heap.size < w3.heap.size; omega)).trans hx0, (HB5.out.cell (p := ⟨w.heap.size, 1, none⟩) (by show w.heap.size < w3.heap.size; omega)).trans hx1, (HB5.out.cell (p := ⟨w.heap.size, 2, none⟩) (by show w.heap.size < w3.heap.size; omega)).trans hx2⟩
         have HS5 := Lib.hid hs5
         have HN5 : Hid (n5 ≤ W.width + 1) := by have h1 := span_len (done_ok HK.out) HKK.out HKK.out; have h2 := done_len HK.out; rw [hs5.rs.len] at h1; show n5 ≤ _; omega)
      | (go_at_call 29
         have hc := with_any w5 A n c W (H3.out.on HB5.out) A5 n5 c5 _ HS5.out (span_ok (done_ok HK.out) HKK.out HKK.out) (by have := HN5.out; omega)
         unfold wvv at hc
         refine hc.mono ?_
         rintro e w6 hs6
         obtain ⟨A6, n6, c6, rfl, hw6, hf6, hb6⟩ := hs6
         have HF6 : Hid (∀ b o, A6 = some ⟨b, o, none⟩ → w3.heap.size ≤ b) := fun b o e => Nat.le_trans HB5.out.size (hf6 b o e)
         clear hf6
         obtain ⟨W6, HW6E⟩ : ∃ x, Hid (x = withW W (spanL (doneL W) k k)) := ⟨_, rfl⟩
         rw [← HW6E.out] at hw6 ⊢
         have HB6 : Hid (Below w3.heap.size w3 w6) := HB5.out.trans (hb6.mono HB5.out.size)
         have hk6 : w6.cell? ⟨w.heap.size, 0, none⟩ = some (.int .u64 (W.low : Int)) ∧ w6.cell? ⟨w.heap.size, 1, none⟩ = some (.int .u64 (W.width : Int)) ∧ w6.cell? ⟨w.heap.size, 2, none⟩ = some (.slice A n c) := ⟨(HB6.out.cell (p := ⟨w.heap.size, 0, none⟩) (by show w.heap.size < w3.heap.size; omega)).trans hx0, (HB6.out.cell (p := ⟨w.heap.size, 1, none⟩) (by show w.heap.size < w3.heap.size; omega)).trans hx1, (HB6.out.cell (p := ⟨w.heap.size, 2, none⟩) (by show w.heap.size < w3.heap.size; omega)).trans hx2⟩
         have HW6 := Lib.hid hw6
         have HZ6 := Lib.hid ((HB6.out.block _ hZl3).trans HZ3.out)
         have hz0 : w6.cell? ⟨w.heap.size + 1, 0, none⟩ = some (.int .u64 0) := row_at HZ6.out rfl
         have hz1 : w6.cell? ⟨w.heap.size + 1, 1, none⟩ = some (.int .u64 0) := row_at HZ6.out rfl
         have hz2 : w6.cell? ⟨w.heap.size + 1, 2, none⟩ = some (.slice none 0 0) := row_at HZ6.out rfl
         have hf0 := frz_row (i := 0) HZ6.out
         have hf1 := frz_row (i := 1) HZ6.out
         have hf2 := frz_row (i := 2) HZ6.out
         have hk7 : (set3 w6 (w.heap.size + 1) (.int .u64 (W6.low : Int)) (.int .u64 (W6.width : Int)) (.slice A6 n6 c6)).cell? ⟨w.heap.size, 0, none⟩ = some (.int .u64 (W.low : Int)) ∧ (set3 w6 (w.heap.size + 1) (.int .u64 (W6.low : Int)) (.int .u64 (W6.width : Int)) (.slice A6 n6 c6)).cell? ⟨w.heap.size, 1, none⟩ = some (.int .u64 (W.width : Int)) ∧ (set3 w6 (w.heap.size + 1) (.int .u64 (W6.low : Int)) (.int .u64 (W6.width : Int)) (.slice A6 n6 c6)).cell? ⟨w.heap.size, 2, none⟩ = some (.slice A n c) := ⟨(set3_other w6 _ _ _ (by omega)).trans hk6.1, (set3_other w6 _ _ _ (by omega)).trans hk6.2.1, (set3_other w6 _ _ _ (by omega)).trans hk6.2.2⟩
         unfold set3 at hk7))
    have hB6 := HB3.out.trans (HB6.out.mono HB3.out.size)
    have hz6 := HB3.out.size
    have hres := win_res (w := w) (W := W6) hB6 HZ6.out (by omega) HW6.out.st (fun b o e => by have := HF6.out b o e; omega) HW6.out.low HW6.out.width HW6.out.ok
    obtain ⟨⟨r0, r1, r2⟩, hwat, hbel⟩ := hres
    unfold set3 at r0 r1 r2 hwat hbel
    have HRES : Hid (SaysP w A W6 _ _) := ⟨A6, n6, c6, rfl, hwat, fun b o e => .inr (by have := HF6.out b o e; omega), hbel⟩
    clear hk4 hk5 hk6 hk7 hs4 hs5 hb4 hb5 hb6 hw6 hz0 hz1 hz2 hf0 hf1 hf2 hwat hbel hc
    go_wp2
    rw [HP.out, ← HW6E.out]
    exact bodyPost_ret (v := .agg #[.int .u64 (W6.low : Int), .int .u64 (W6.width : Int), .slice A6 n6 c6]) (by simp [results, Try.results16, go_sem, r0, r1, r2]) rfl HRES.out
set_option maxRecDepth 100000 in
set_option maxHeartbeats 400000 in
theorem skip_zero (w : World) (A : Option Addr) (n c : Nat) (W : Wn) (h : Wat w A n c W) :
    Calls Try.prog 18 #[wvv W A n c, .int .u64 0] w (SaysP w A W) := by
  unfold wvv
  go_enter Try.func18, Try.ntmps18
  go_wp2
  obtain ⟨hb2, _, hZ⟩ := two_boxes w (.int .u64 (W.low : Int)) (.int .u64 (W.width : Int)) (.slice A n c) 30 (.int .u64 (W.low : Int)) (.int .u64 (W.width : Int)) (.slice A n c)
  generalize (w.alloc (Obj.cells #[.int .u64 (W.low : Int), .int .u64 (W.width : Int), .slice A n c] 30)).alloc (Obj.cells #[.int .u64 (W.low : Int), .int .u64 (W.width : Int), .slice A n c] 30) = w2 at *
  have r0 : w2.cell? ⟨w.heap.size + 1, 0, none⟩ = some (.int .u64 (W.low : Int)) := row_at hZ rfl
  have r1 : w2.cell? ⟨w.heap.size + 1, 1, none⟩ = some (.int .u64 (W.width : Int)) := row_at hZ rfl
  have r2 : w2.cell? ⟨w.heap.size + 1, 2, none⟩ = some (.slice A n c) := row_at hZ rfl
  exact bodyPost_ret (v := .agg #[.int .u64 (W.low : Int), .int .u64 (W.width : Int), .slice A n c]) (by simp [results, Try.results18, go_sem, r0, r1, r2]) rfl ⟨A, n, c, rfl, h.on hb2, fun _ _ _ => .inl rfl, hb2⟩
set_option maxRecDepth 100000 in
set_option maxHeartbeats 4000000 in
theorem skip_pos (w : World) (A : Option Addr) (n c : Nat) (W : Wn) (h : Wat w A n c W) (hk : W.Ok) (hw : W.width ≤ 400) (k : Nat) (hk64 : k < two64) (hk0 : k ≠ 0) :
    Calls Try.prog 18 #[wvv W A n c, .int .u64 (k : Int)] w (SaysP w A (skipW W k)) := by
  have H := Lib.hid h
  have HK := Lib.hid hk
  have HN := Lib.hid (h.n_le hk)
  have HKK := Lib.hid hk64
  clear h hk hk64
  have HP : Hid (skipW W k = withW W (spanL (doneL W) 0 (k - 1))) := by show skipW W k = _; unfold skipW; rw [if_neg hk0]
  have hkq : ((k : Int) == 0) = false := by simp [hk0]
  obtain ⟨u, hu⟩ : ∃ u, u = k - 1 := ⟨_, rfl⟩
  rw [← hu] at HP
  have hkw : IntKind.u64.wrap ((k : Int) - 1) = (u : Int) := by have := HKK.out; unfold two64 at this; rw [IntKind.wrap_u64]; omega
  have hk1' : (1 : Int) ≤ (k : Int) := by omega
  have HU : Hid (u < two64) := by have := HKK.out; show u < two64; omega
  have HZZ : Hid ((0 : Nat) < two64) := by show 0 < two64; unfold two64; omega
  clear hk0 hu
  unfold wvv
  go_enter Try.func18, Try.ntmps18
  go_wp2_with fail
  have hb := two_boxes w (.int .u64 (W.low : Int)) (.int .u64 (W.width : Int)) (.slice A n c) 30 (.int .u64 0) (.int .u64 0) (.slice none 0 0)
  generalize (w.alloc (Obj.cells #[.int .u64 (W.low : Int), .int .u64 (W.width : Int), .slice A n c] 30)).alloc (Obj.cells #[.int .u64 0, .int .u64 0, .slice none 0 0] 30) = w2 at *
  obtain ⟨hb2, hX, hZ⟩ := hb
  have hZl : w.heap.size + 1 < w2.heap.size := (Array.getElem?_eq_some_iff.1 hZ).1
  have H2 := Lib.hid (H.out.on hb2)
  have hx0 : w2.cell? ⟨w.heap.size, 0, none⟩ = some (.int .u64 (W.low : Int)) := row_at hX rfl
  have hx1 : w2.cell? ⟨w.heap.size, 1, none⟩ = some (.int .u64 (W.width : Int)) := row_at hX rfl
  have hx2 : w2.cell? ⟨w.heap.size, 2, none⟩ = some (.slice A n c) := row_at hX rfl
  have HX3 := Lib.hid hX
  have HZ3 := Lib.hid hZ
  have HB3 := Lib.hid hb2
  have H3 := Lib.hid H2.out
  have hZl3 := hZl
  clear hX hZ hb2 H2 hZl
  generalize w2 = w3 at *
  go_region_held3 (fun w' => w'.cell? ⟨w.heap.size, 0, none⟩ = some (.int .u64 (W.low : Int)) ∧ w'.cell? ⟨w.heap.size, 1, none⟩ = some (.int .u64 (W.width : Int)) ∧ w'.cell? ⟨w.heap.size, 2, none⟩ = some (.slice A n c)) (first | exact ⟨hx0, hx1, hx2⟩ | exact hk4 | exact hk5 | exact hk6 | exact hk7) (first
    | (go_at_call 30
       have hc := done_any w3.drew A n c W (H3.out.on (below_drewN (Below.refl _ _) 1)) (by have := HN.out; omega)
       unfold wvv at hc
       refine hc.mono ?_
       rintro e w4 ⟨A4, n4, c4, rfl, hs4, _, hb4⟩
       have HB4 : Hid (Below w3.heap.size w3 w4) := (below_drewN (Below.refl _ _) 1).trans hb4
       have hk4 : w4.cell? ⟨w.heap.size, 0, none⟩ = some (.int .u64 (W.low : Int)) ∧ w4.cell? ⟨w.heap.size, 1, none⟩ = some (.int .u64 (W.width : Int)) ∧ w4.cell? ⟨w.heap.size, 2, none⟩ = some (.slice A n c) := ⟨(HB4.out.cell (p := ⟨w.heap.size, 0, none⟩) (by show w.heap.size < w3.heap.size; omega)).trans hx0, (HB4.out.cell (p := ⟨w.heap.size, 1, none⟩) (by show w.heap.size < w3.heap.size; omega)).trans hx1, (HB4.out.cell (p := ⟨w.heap.size, 2, none⟩) (by show w.heap.size < w3.heap.size; omega)).trans hx2⟩
       have HS4 := Lib.hid hs4
       have HN4 : Hid (n4 ≤ W.width) := by have := done_len HK.out; rw [hs4.rs.len] at this; exact this)
    | (go_at_call 33
       refine (span_any w4 w4.heap.size A4 n4 c4 0 u (doneL W) HS4.out (Nat.le_refl _) HZZ.out HU.out (by have := HN4.out; omega)).mono ?_
       rintro e w5 ⟨A5, n5, c5, rfl, hs5, _, hb5⟩
       have HB5 : Hid (Below w3.heap.size w3 w5) := HB4.out.trans (hb5.mono HB4.out.size)
       have hk5 : w5.cell? ⟨w.heap.size, 0, none⟩ = some (.int .u64 (W.low : Int)) ∧ w5.cell? ⟨w.heap.size, 1, none⟩ = some (.int .u64 (W.width : Int)) ∧ w5.cell? ⟨w.heap.size, 2, none⟩ = some (.slice A n c) := ⟨(HB5.out.cell (p := ⟨w.heap.size, 0, none⟩) (by show w.heap.size < w3.heap.size; omega)).trans hx0, (HB5.out.cell (p := ⟨w.heap.size, 1, none⟩) (by show w.heap.size < w3.heap.size; omega)).trans hx1, (HB5.out.cell (p := ⟨w.heap.size, 2, none⟩) (by show w.heap.size < w3.heap.size; omega)).trans hx2⟩
       have HS5 := Lib.hid hs5
       have HN5 : Hid (n5 ≤ W.width + 1) := by have h1 := span_len (done_ok HK.out) HZZ.out HU.out; have h2 := done_len HK.out; rw [hs5.rs.len] at h1; show n5 ≤ _; omega)
    | (go_at_call 29
       have hc := with_any w5 A n c W (H3.out.on HB5.out) A5 n5 c5 _ HS5.out (span_ok (done_ok HK.out) HZZ.out HU.out) (by have := HN5.out; omega)
       unfold wvv at hc
       refine hc.mono ?_
       rintro e w6 hs6
       obtain ⟨A6, n6, c6, rfl, hw6, hf6, hb6⟩ := hs6
       have HF6 : Hid (∀ b o, A6 = some ⟨b, o, none⟩ → w3.heap.size ≤ b) := fun b o e => Nat.le_trans HB5.out.size (hf6 b o e)
       clear hf6
       obtain ⟨W6, HW6E⟩ : ∃ x, Hid (x = withW W (spanL (doneL W) 0 u)) := ⟨_, rfl⟩
       rw [← HW6E.out] at hw6 ⊢
       have HB6 : Hid (Below w3.heap.size w3 w6) := HB5.out.trans (hb6.mono HB5.out.size)
       have hk6 : w6.cell? ⟨w.heap.size, 0, none⟩ = some (.int .u64 (W.low : Int)) ∧ w6.cell? ⟨w.heap.size, 1, none⟩ = some (.int .u64 (W.width : Int)) ∧ w6.cell? ⟨w.heap.size, 2, none⟩ = some (.slice A n c) := ⟨(HB6.out.cell (p := ⟨w.heap.size, 0, none⟩) (by show w.heap.size < w3.heap.size; omega)).trans hx0, (HB6.out.cell (p := ⟨w.heap.size, 1, none⟩) (by show w.heap.size < w3.heap.size; omega)).trans hx1, (HB6.out.cell (p := ⟨w.heap.size, 2, none⟩) (by show w.heap.size < w3.heap.size; omega)).trans hx2⟩
       have HW6 := Lib.hid hw6
       have HZ6 := Lib.hid ((HB6.out.block _ hZl3).trans HZ3.out)
       have hz0 : w6.cell? ⟨w.heap.size + 1, 0, none⟩ = some (.int .u64 0) := row_at HZ6.out rfl
       have hz1 : w6.cell? ⟨w.heap.size + 1, 1, none⟩ = some (.int .u64 0) := row_at HZ6.out rfl
       have hz2 : w6.cell? ⟨w.heap.size + 1, 2, none⟩ = some (.slice none 0 0) := row_at HZ6.out rfl
       have hf0 := frz_row (i := 0) HZ6.out
       have hf1 := frz_row (i := 1) HZ6.out
       have hf2 := frz_row (i := 2) HZ6.out
       have hk7 : (set3 w6 (w.heap.size + 1) (.int .u64 (W6.low : Int)) (.int .u64 (W6.width : Int)) (.slice A6 n6 c6)).cell? ⟨w.heap.size, 0, none⟩ = some (.int .u64 (W.low : Int)) ∧ (set3 w6 (w.heap.size + 1) (.int .u64 (W6.low : Int)) (.int .u64 (W6.width : Int)) (.slice A6 n6 c6)).cell? ⟨w.heap.size, 1, none⟩ = some (.int .u64 (W.width : Int)) ∧ (set3 w6 (w.heap.size + 1) (.int .u64 (W6.low : Int)) (.int .u64 (W6.width : Int)) (.slice A6 n6 c6)).cell? ⟨w.heap.size, 2, none⟩ = some (.slice A n c) := ⟨(set3_other w6 _ _ _ (by omega)).trans hk6.1, (set3_other w6 _ _ _ (by omega)).trans hk6.2.1, (set3_other w6 _ _ _ (by omega)).trans hk6.2.2⟩
       unfold set3 at hk7))
  have hB6 := HB3.out.trans (HB6.out.mono HB3.out.size)
  have hz6 := HB3.out.size
  have hres := win_res (w := w) (W := W6) hB6 HZ6.out (by omega) HW6.out.st (fun b o e => by have := HF6.out b o e; omega) HW6.out.low HW6.out.width HW6.out.ok
  obtain ⟨⟨r0, r1, r2⟩, hwat, hbel⟩ := hres
  unfold set3 at r0 r1 r2 hwat hbel
  have HRES : Hid (SaysP w A W6 _ _) := ⟨A6, n6, c6, rfl, hwat, fun b o e => .inr (by have := HF6.out b o e; omega), hbel⟩
  clear hk4 hk5 hk6 hk7 hs4 hs5 hb4 hb5 hb6 hw6 hz0 hz1 hz2 hf0 hf1 hf2 hwat hbel hc
  go_wp2
  rw [HP.out, ← HW6E.out]
  exact bodyPost_ret (v := .agg #[.int .u64 (W6.low : Int), .int .u64 (W6.width : Int), .slice A6 n6 c6]) (by simp [results, Try.results18, go_sem, r0, r1, r2]) rfl HRES.out
theorem skip_any (w : World) (A : Option Addr) (n c : Nat) (W : Wn) (h : Wat w A n c W) (hk : W.Ok) (hw : W.width ≤ 400) (k : Nat) (hk64 : k < two64) :
    Calls Try.prog 18 #[wvv W A n c, .int .u64 (k : Int)] w (SaysP w A (skipW W k)) := by
  by_cases hk0 : k = 0
  · subst hk0
    exact skip_zero w A n c W h
  · exact skip_pos w A n c W h hk hw k hk64 hk0
end Go.Proofs.Ythhmgbeigeagdaa
