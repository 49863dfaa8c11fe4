/-
  CONTRACT of the law's like: a window beside the reference's.
  No statement is proved here.
-/
import Derived.Test.YthhmgbeigeagdaaWinRef
import Derived.Test.YthhmgbeigeagdaaSortOwn
namespace Go.Proofs.Ythhmgbeigeagdaa
open Go.RowKit

theorem ofS_any (w : World) (A : Option Addr) (n c : Nat) (l : List Nat) (R : List Rn) (hR : ofL l = R) (hs : Sn w w.heap.size A n c 1 (nvs l)) (hl : ∀ x ∈ l, x < two64) (hn : n < 30000) :
    Calls Try.prog 26 #[.slice A n c] w (SaysS w 0 R) := hR ▸ ofA_anyG w A n c l hs hl hn
theorem setSame_b (w : World) (A A' : Option Addr) (n c n' c' : Nat) (l : List Rn) (hs : Rs w w.heap.size A n c l) (hs' : Rs w w.heap.size A' n' c' l) :
    Calls Try.prog 34 #[.agg #[.slice A n c], .agg #[.slice A' n' c']] w (Says w (.bool true)) := by
  have h := setSame_any w A A' n c n' c' l l hs hs'
  rw [show sameR l l = true from by unfold sameR; simp] at h
  exact h
set_option maxRecDepth 100000 in
set_option maxHeartbeats 2000000 in
theorem like15_any (w : World) (A : Option Addr) (n c : Nat) (W : Wn) (hW : Wat w A n c W) (A' : Option Addr) (n' c' : Nat) (X : Wr) (hX : Sn w w.heap.size A' n' c' 1 (nvs X.l)) (hk : Like W X) (hn : n ≤ 800) (hn' : n' ≤ 200) :
    Calls Try.prog 20 #[.agg #[.int .u64 (W.low : Int), .int .u64 (W.width : Int), .slice A n c], .agg #[.int .u64 (X.low : Int), .int .u64 (X.width : Int), .slice A' n' c']] w (Says w (.bool true)) := by
  have HSET := Lib.hid hk.set
  have HLT := Lib.hid hk.lt
  have HOK := Lib.hid hk.ok
  obtain ⟨xl, xw, l⟩ := X
  obtain rfl : xl = W.low := hk.low
  obtain rfl : xw = W.width := hk.width
  obtain ⟨s, hs⟩ : ∃ s, s = W.low + W.width := ⟨_, rfl⟩
  have hsI : (W.low : Int) + (W.width : Int) = (s : Int) := by omega
  have hsb : s < 18446744073709551616 := by have := hk.ok.low; have := hk.ok.w2; omega
  have hsw : IntKind.u64.wrap (s : Int) = (s : Int) := by rw [IntKind.wrap_u64]; omega
  have HLIM : Hid (limW W = s) := by show _ = _; unfold limW; omega
  have hbA := below_box w (Obj.cells #[.int .u64 (W.low : Int), .int .u64 (W.width : Int), .slice A n c] 30)
  have hbB := below_box (w.alloc (Obj.cells #[.int .u64 (W.low : Int), .int .u64 (W.width : Int), .slice A n c] 30)) (Obj.cells #[.int .u64 (W.low : Int), .int .u64 (W.width : Int), .slice A' n' c'] 34)
  have hb : Below w.heap.size w ((w.alloc (Obj.cells #[.int .u64 (W.low : Int), .int .u64 (W.width : Int), .slice A n c] 30)).alloc (Obj.cells #[.int .u64 (W.low : Int), .int .u64 (W.width : Int), .slice A' n' c'] 34)) := hbA.trans (hbB.mono (by simp))
  have hr1 := (hbB.block w.heap.size (by simp)).trans (heap_alloc_new w (Obj.cells #[.int .u64 (W.low : Int), .int .u64 (W.width : Int), .slice A n c] 30))
  have hr2 := heap_alloc_new (w.alloc (Obj.cells #[.int .u64 (W.low : Int), .int .u64 (W.width : Int), .slice A n c] 30)) (Obj.cells #[.int .u64 (W.low : Int), .int .u64 (W.width : Int), .slice A' n' c'] 34)
  have hz : (w.alloc (Obj.cells #[.int .u64 (W.low : Int), .int .u64 (W.width : Int), .slice A n c] 30)).heap.size = w.heap.size + 1 := by simp
  rw [hz] at hr2
  have HW2 := Lib.hid (hW.on hb)
  have HX2 := Lib.hid (hX.on hb (Nat.le_refl _))
  have HB := Lib.hid hb
  have HR1 := Lib.hid hr1
  have HR2 := Lib.hid hr2
  have HN := Lib.hid (And.intro hn hn')
  clear hW hX hk hs hbA hbB hb hr1 hr2 hz hn hn'
  go_enter Try.func20, Try.ntmps20
  go_wp2_with fail
  generalize (w.alloc (Obj.cells #[.int .u64 (W.low : Int), .int .u64 (W.width : Int), .slice A n c] 30)).alloc (Obj.cells #[.int .u64 (W.low : Int), .int .u64 (W.width : Int), .slice A' n' c'] 34) = w2 at *
  have HP : Hid (w.heap.size + 1 < w2.heap.size) := (Array.getElem?_eq_some_iff.1 HR2.out).1
  have HS : Hid (∀ w', Below w2.heap.size w2 w' → (w'.cell? ⟨w.heap.size, 0, none⟩ = some (.int .u64 (W.low : Int)) ∧ w'.cell? ⟨w.heap.size, 1, none⟩ = some (.int .u64 (W.width : Int)) ∧ w'.cell? ⟨w.heap.size, 2, none⟩ = some (.slice A n c)) ∧ w'.cell? ⟨w.heap.size + 1, 0, none⟩ = some (.int .u64 (W.low : Int)) ∧ w'.cell? ⟨w.heap.size + 1, 1, none⟩ = some (.int .u64 (W.width : Int)) ∧ w'.cell? ⟨w.heap.size + 1, 2, none⟩ = some (.slice A' n' c')) := fun w' hb => by
    have r1 := (hb.block w.heap.size (by have := HP.out; omega)).trans HR1.out
    have r2 := (hb.block _ HP.out).trans HR2.out
    exact ⟨⟨row_at r1 rfl, row_at r1 rfl, row_at r1 rfl⟩, row_at r2 rfl, row_at r2 rfl, row_at r2 rfl⟩
  have hS := HS.out _ (Below.refl _ _)
  go_region_held3 (fun w' => (w'.cell? ⟨w.heap.size, 0, none⟩ = some (.int .u64 (W.low : Int)) ∧ w'.cell? ⟨w.heap.size, 1, none⟩ = some (.int .u64 (W.width : Int)) ∧ w'.cell? ⟨w.heap.size, 2, none⟩ = some (.slice A n c)) ∧ w'.cell? ⟨w.heap.size + 1, 0, none⟩ = some (.int .u64 (W.low : Int)) ∧ w'.cell? ⟨w.heap.size + 1, 1, none⟩ = some (.int .u64 (W.width : Int)) ∧ w'.cell? ⟨w.heap.size + 1, 2, none⟩ = some (.slice A' n' c')) (first | exact hS | exact hk5 | exact hk6 | exact hk7 | exact hk8) (first
    | (go_at_call 26
       refine (ofS_any _ A' n' c' l W.L HSET.out (HX2.out.on (below_drewN (Below.refl _ _) 1) (Nat.le_refl _)) HLT.out (by have := HN.out.2; omega)).mono ?_
       rintro e w5 ⟨A5, n5, c5, rfl, hs5, _, hb5⟩
       have HB5 : Hid (Below w2.heap.size w2 w5) := (below_drewN (Below.refl _ _) 1).trans hb5
       have hk5 := HS.out _ HB5.out
       have HS5 := Lib.hid hs5
       clear hs5 hb5)
    | (go_at_call 34
       refine (setSame_b w5 A A5 n c n5 c5 W.L (HW2.out.on HB5.out).st.rs HS5.out.rs).mono ?_
       rintro e w6 ⟨rfl, hb6⟩
       have HB6 : Hid (Below w2.heap.size w2 w6) := HB5.out.trans (hb6.mono HB5.out.size)
       have hk6 := HS.out _ HB6.out
       clear hb6)
    | (go_at_call 25
       refine (limit_b w6 A n c W s HLIM.out).mono ?_
       rintro e w7 ⟨rfl, hb7⟩
       have HB7 : Hid (Below w2.heap.size w2 w7) := HB6.out.trans (hb7.mono HB6.out.size)
       have hk7 := HS.out _ HB7.out
       clear hb7)
    | (go_at_call 27
       refine (right_b w7 A n c W (HW2.out.on HB7.out) (by have := HN.out.1; omega) true ((right_iff HOK.out.ok).2 HOK.out)).mono ?_
       rintro e w8 ⟨rfl, hb8⟩
       have HB8 : Hid (Below w2.heap.size w2 w8) := HB7.out.trans (hb8.mono HB7.out.size)
       have hk8 := HS.out _ HB8.out
       clear hb8))
  go_wp2
  go_ret
  exact ⟨rfl, HB.out.trans (HB8.out.mono HB.out.size)⟩
end Go.Proofs.Ythhmgbeigeagdaa
namespace Go.Proofs.Ythhmgbeigeagdaa
open Go.RowKit

/-- A window in box X, the reference's in box Y. -/
structure Tw (w0 : World) (X Y : Nat) (A : Option Addr) (n c : Nat) (W : Wn) (A' : Option Addr) (n' c' : Nat) (V : Wr) (w : World) : Prop where
  kp : Kept X A n c W w0 w
  row : w.heap[Y]? = some (.cells #[.int .u64 (V.low : Int), .int .u64 (V.width : Int), .slice A' n' c'] 34 (0, 0))
  sn : Sn w w.heap.size A' n' c' 1 (nvs V.l)
  farY : ∀ b o, A = some ⟨b, o, none⟩ → b ≠ Y
  far : 0 < n' → ∀ b o, A' = some ⟨b, o, none⟩ → b ≠ X ∧ b ≠ Y
  ne : X ≠ Y
  lx : w0.heap.size ≤ X
  ly : w0.heap.size ≤ Y
section
variable {w0 w w' : World} {X Y : Nat} {A : Option Addr} {n c : Nat} {W : Wn} {A' : Option Addr} {n' c' : Nat} {V : Wr}
theorem Tw.ltY (h : Tw w0 X Y A n c W A' n' c' V w) : Y < w.heap.size := (Array.getElem?_eq_some_iff.1 h.row).1
theorem Tw.next (h : Tw w0 X Y A n c W A' n' c' V w) (hb : Below w.heap.size w w') : Tw w0 X Y A n c W A' n' c' V w' :=
  ⟨h.kp.next hb, (hb.block _ h.ltY).trans h.row, h.sn.on hb (Nat.le_refl _), h.farY, h.far, h.ne, h.lx, h.ly⟩
theorem Tw.y0 (h : Tw w0 X Y A n c W A' n' c' V w) : w.cell? ⟨Y, 0, none⟩ = some (.int .u64 (V.low : Int)) := row_at h.row rfl
theorem Tw.y1 (h : Tw w0 X Y A n c W A' n' c' V w) : w.cell? ⟨Y, 1, none⟩ = some (.int .u64 (V.width : Int)) := row_at h.row rfl
theorem Tw.y2 (h : Tw w0 X Y A n c W A' n' c' V w) : w.cell? ⟨Y, 2, none⟩ = some (.slice A' n' c') := row_at h.row rfl
theorem Tw.frzY (h : Tw w0 X Y A n c W A' n' c' V w) (i : Nat) : w.frozen? ⟨Y, i, none⟩ = false := frz_row (i := i) h.row
/-- All six cells. -/
def Six (X Y : Nat) (A : Option Addr) (n c : Nat) (W : Wn) (A' : Option Addr) (n' c' : Nat) (V : Wr) (w : World) : Prop :=
  (w.cell? ⟨X, 0, none⟩ = some (.int .u64 (W.low : Int)) ∧ w.cell? ⟨X, 1, none⟩ = some (.int .u64 (W.width : Int)) ∧ w.cell? ⟨X, 2, none⟩ = some (.slice A n c)) ∧ w.cell? ⟨Y, 0, none⟩ = some (.int .u64 (V.low : Int)) ∧ w.cell? ⟨Y, 1, none⟩ = some (.int .u64 (V.width : Int)) ∧ w.cell? ⟨Y, 2, none⟩ = some (.slice A' n' c')
theorem Tw.six (h : Tw w0 X Y A n c W A' n' c' V w) : Six X Y A n c W A' n' c' V w := ⟨⟨h.kp.c0, h.kp.c1, h.kp.c2⟩, h.y0, h.y1, h.y2⟩
theorem set3_off {Z : Nat} (u0 u1 u2 : Value) {B : Nat} (hB : B ≠ Z) : (set3 w Z u0 u1 u2).heap[B]? = w.heap[B]? := by
  unfold set3
  rw [row_off' _ hB, row_off' _ hB, row_off' _ hB]
theorem set3_sn {Z : Nat} (u0 u1 u2 : Value) {B : Nat} {k : Nat} {xs : List Value} (h : Sn w B A n c k xs) (hZ : 0 < n → ∀ b o, A = some ⟨b, o, none⟩ → b ≠ Z) : Sn (set3 w Z u0 u1 u2) B A n c k xs := by
  unfold set3
  exact sn_off (sn_off (sn_off h hZ _) hZ _) hZ _
/-- Both boxes are stored into. -/
theorem Tw.store {A2 : Option Addr} {n2 c2 : Nat} {W2 : Wn} {A4 : Option Addr} {n4 c4 : Nat} {V2 : Wr} {s : Nat} (h : Tw w0 X Y A n c W A' n' c' V w) (hX : X < s) (hY : Y < s) (h2 : Wat w A2 n2 c2 W2) (hp2 : ∀ b o, A2 = some ⟨b, o, none⟩ → A2 = A ∨ s ≤ b) (h4 : Sn w w.heap.size A4 n4 c4 1 (nvs V2.l)) (hp4 : ∀ b o, A4 = some ⟨b, o, none⟩ → (A4 = A' ∧ n4 = n') ∨ s ≤ b) :
    Tw w0 X Y A2 n2 c2 W2 A4 n4 c4 V2 (set3 (set3 w X (.int .u64 (W2.low : Int)) (.int .u64 (W2.width : Int)) (.slice A2 n2 c2)) Y (.int .u64 (V2.low : Int)) (.int .u64 (V2.width : Int)) (.slice A4 n4 c4)) := by
  have k1 := h.kp.store h.lx hX h2 hp2
  have f2 : ∀ b o, A2 = some ⟨b, o, none⟩ → b ≠ Y := fun b o e => by
    rcases hp2 b o e with h1 | h1
    · exact h.farY b o (h1 ▸ e)
    · omega
  have f4 : 0 < n4 → ∀ b o, A4 = some ⟨b, o, none⟩ → b ≠ X ∧ b ≠ Y := fun h0 b o e => by
    rcases hp4 b o e with h1 | h1
    · exact h.far (by omega) b o (h1.1 ▸ e)
    · exact ⟨by omega, by omega⟩
  have r1 : (set3 w X (.int .u64 (W2.low : Int)) (.int .u64 (W2.width : Int)) (.slice A2 n2 c2)).heap[Y]? = _ := (set3_off _ _ _ (Ne.symm h.ne)).trans h.row
  refine ⟨⟨(set3_off _ _ _ h.ne).trans k1.row, ⟨set3_st k1.at_.st f2 _ _ _, k1.at_.low, k1.at_.width, k1.at_.ok⟩, k1.far, set3_below k1.bel h.ly _ _ _⟩, set3_row r1 _ _ _, ?_, f2, f4, h.ne, h.lx, h.ly⟩
  rw [set3_size, set3_size]
  exact set3_sn _ _ _ (set3_sn _ _ _ h4 fun h0 b o e => (f4 h0 b o e).1) fun h0 b o e => (f4 h0 b o e).2
end
/-- Both boxes are made. -/
theorem Tw.made {w0 w : World} {A : Option Addr} {n c : Nat} {W : Wn} (h : Wat w A n c W) (hb : Below w0.heap.size w0 w) (K : Nat) :
    Tw w0 w.heap.size (w.heap.size + 1) A n c W none 0 0 ⟨0, K, []⟩ ((w.alloc (.cells #[.int .u64 (W.low : Int), .int .u64 (W.width : Int), .slice A n c] 30)).alloc (.cells #[.int .u64 0, .int .u64 (K : Int), .slice none 0 0] 34)) := by
  have hk := Kept.made h hb
  have hz : (w.alloc (.cells #[.int .u64 (W.low : Int), .int .u64 (W.width : Int), .slice A n c] 30)).heap.size = w.heap.size + 1 := by simp
  have hr := heap_alloc_new (w.alloc (.cells #[.int .u64 (W.low : Int), .int .u64 (W.width : Int), .slice A n c] 30)) (.cells #[.int .u64 0, .int .u64 (K : Int), .slice none 0 0] 34)
  rw [hz] at hr
  refine ⟨hk.next (below_box _ _), hr, ?_, fun b o e => ?_, fun h0 => absurd h0 (Nat.lt_irrefl 0), by omega, hb.size, by have := hb.size; omega⟩
  · exact Sn.nil_ _ _ none 0 1 (Nat.zero_le _)
  · have := h.st.lies b o e
    omega
theorem takesR_b (w : World) (A : Option Addr) (n c : Nat) (X : Wr) (h : Sn w w.heap.size A n c 1 (nvs X.l)) (hs : X.low + X.width < two64) (k : Nat) (b : Bool) (hb : takesR X k = b) :
    Calls Try.prog 12 #[.agg #[.int .u64 (X.low : Int), .int .u64 (X.width : Int), .slice A n c], .int .u64 (k : Int)] w (Says w (.bool b)) := hb ▸ refTakes_any w A n c X h hs k
theorem hadR_b (w : World) (A : Option Addr) (n c : Nat) (X : Wr) (h : Sn w w.heap.size A n c 1 (nvs X.l)) (k : Nat) (b : Bool) (hb : hadR X k = b) :
    Calls Try.prog 14 #[.agg #[.int .u64 (X.low : Int), .int .u64 (X.width : Int), .slice A n c], .int .u64 (k : Int)] w (Says w (.bool b)) := hb ▸ refHad_any w A n c X h k
end Go.Proofs.Ythhmgbeigeagdaa
