/-
  CONTRACTS of Same, Runs; of the laws' own awake, number, puts.
  No statement is proved here.
-/
import Derived.Test.YthhmgbeigeagdaaWinFacts
namespace Go.Proofs.Ythhmgbeigeagdaa
open Go.RowKit

def sameW (V W : Wn) : Bool := decide (V.low = W.low) && (decide (V.width = W.width) && sameR V.L W.L)
set_option maxRecDepth 100000 in
set_option maxHeartbeats 1000000 in
theorem winSame_any (w : World) (A : Option Addr) (n c : Nat) (V : Wn) (hV : Wat w A n c V) (A' : Option Addr) (n' c' : Nat) (W : Wn) (hW : Wat w A' n' c' W) :
    Calls Try.prog 21 #[wvv V A n c, wvv W A' n' c'] w (Says w (.bool (sameW V W))) := by
  have hb : Below w.heap.size w ((w.alloc (Obj.cells #[.int .u64 (V.low : Int), .int .u64 (V.width : Int), .slice A n c] 30)).alloc (Obj.cells #[.int .u64 (W.low : Int), .int .u64 (W.width : Int), .slice A' n' c'] 30)) := (below_box w _).alloc (by simp) _
  have hs := setSame_any _ A A' n c n' c' V.L W.L (hV.on hb).st.rs (hW.on hb).st.rs
  have HB := Lib.hid hb
  have HS := Lib.hid hs
  clear hb hs hV hW
  obtain ⟨R, HR⟩ : ∃ R, Hid (R = sameW V W) := ⟨_, rfl⟩
  rw [← HR.out]
  unfold wvv
  by_cases h1 : V.low = W.low
  · have q1 : ((V.low : Int) == (W.low : Int)) = true := by simp [h1]
    by_cases h2 : V.width = W.width
    · have q2 : ((V.width : Int) == (W.width : Int)) = true := by simp [h2]
      obtain rfl : R = sameR V.L W.L := by rw [HR.out]; unfold sameW; simp [h1, h2]
      clear h1 h2 HR
      go_enter Try.func21, Try.ntmps21
      go_wp2_with fail
      refine HS.out.mono ?_
      rintro e w3 ⟨rfl, hb3⟩
      go_wp2
      go_ret
      exact ⟨rfl, HB.out.trans (hb3.mono HB.out.size)⟩
    · have q2 : ((V.width : Int) == (W.width : Int)) = false := by simp; omega
      obtain rfl : R = false := by rw [HR.out]; unfold sameW; simp [h2]
      clear h1 h2 HR
      go_enter Try.func21, Try.ntmps21
      go_wp2_with fail
      go_ret
      exact ⟨rfl, HB.out⟩
  · have q1 : ((V.low : Int) == (W.low : Int)) = false := by simp; omega
    obtain rfl : R = false := by rw [HR.out]; unfold sameW; simp [h1]
    clear h1 HR
    go_enter Try.func21, Try.ntmps21
    go_wp2_with fail
    go_ret
    exact ⟨rfl, HB.out⟩
/-- A call of a method in the form that walks hand over. -/
theorem put_b (w : World) (A : Option Addr) (n c : Nat) (W : Wn) (h : Wat w A n c W) (hk : W.Ok) (hw : W.width ≤ 400) (k : Nat) (hk64 : k < two64) :
    Calls Try.prog 16 #[.agg #[.int .u64 (W.low : Int), .int .u64 (W.width : Int), .slice A n c], .int .u64 (k : Int)] w (SaysP w A (putW W k)) := put_any w A n c W h hk hw k hk64
theorem skip_b (w : World) (A : Option Addr) (n c : Nat) (W : Wn) (h : Wat w A n c W) (hk : W.Ok) (hw : W.width ≤ 400) (k : Nat) (hk64 : k < two64) :
    Calls Try.prog 18 #[.agg #[.int .u64 (W.low : Int), .int .u64 (W.width : Int), .slice A n c], .int .u64 (k : Int)] w (SaysP w A (skipW W k)) := skip_any w A n c W h hk hw k hk64
theorem had_b (w : World) (A : Option Addr) (n c : Nat) (W : Wn) (h : Wat w A n c W) (hn : n ≤ 900) (k : Nat) (b : Bool) (hb : hadW W k = b) :
    Calls Try.prog 13 #[.agg #[.int .u64 (W.low : Int), .int .u64 (W.width : Int), .slice A n c], .int .u64 (k : Int)] w (Says w (.bool b)) := hb ▸ had_any w A n c W h hn k
theorem takes_b (w : World) (A : Option Addr) (n c : Nat) (W : Wn) (h : Wat w A n c W) (hl : W.low + W.width < two64) (hn : n ≤ 900) (k : Nat) (b : Bool) (hb : takesW W k = b) :
    Calls Try.prog 11 #[.agg #[.int .u64 (W.low : Int), .int .u64 (W.width : Int), .slice A n c], .int .u64 (k : Int)] w (Says w (.bool b)) := hb ▸ takes_any w A n c W h hl hn k
theorem right_b (w : World) (A : Option Addr) (n c : Nat) (W : Wn) (h : Wat w A n c W) (hn : n ≤ 800) (b : Bool) (hb : rightW W = b) :
    Calls Try.prog 27 #[.agg #[.int .u64 (W.low : Int), .int .u64 (W.width : Int), .slice A n c]] w (Says w (.bool b)) := hb ▸ right_any w A n c W h hn
theorem winSame_b (w : World) (A : Option Addr) (n c : Nat) (V : Wn) (hV : Wat w A n c V) (A' : Option Addr) (n' c' : Nat) (W : Wn) (hW : Wat w A' n' c' W) (b : Bool) (hb : sameW V W = b) :
    Calls Try.prog 21 #[.agg #[.int .u64 (V.low : Int), .int .u64 (V.width : Int), .slice A n c], .agg #[.int .u64 (W.low : Int), .int .u64 (W.width : Int), .slice A' n' c']] w (Says w (.bool b)) := hb ▸ winSame_any w A n c V hV A' n' c' W hW
theorem sameW_refl (W : Wn) : sameW W W = true := by unfold sameW sameR; simp
/-- A window's box. -/
theorem box_cells (w : World) (a b c : Value) (t : TypeId) : Below w.heap.size w (w.alloc (Obj.cells #[a, b, c] t)) ∧ (w.alloc (Obj.cells #[a, b, c] t)).cell? ⟨w.heap.size, 0, none⟩ = some a ∧ (w.alloc (Obj.cells #[a, b, c] t)).cell? ⟨w.heap.size, 1, none⟩ = some b ∧ (w.alloc (Obj.cells #[a, b, c] t)).cell? ⟨w.heap.size, 2, none⟩ = some c :=
  ⟨below_box w _, cell_last w _ _ _ 0 rfl, cell_last w _ _ _ 1 rfl, cell_last w _ _ _ 2 rfl⟩
/-- A window in its box, whatever is made beside it. -/
structure Kept (X : Nat) (A : Option Addr) (n c : Nat) (W : Wn) (w0 w : World) : Prop where
  row : w.heap[X]? = some (.cells #[.int .u64 (W.low : Int), .int .u64 (W.width : Int), .slice A n c] 30 (0, 0))
  at_ : Wat w A n c W
  far : ∀ b o, A = some ⟨b, o, none⟩ → b ≠ X
  bel : Below w0.heap.size w0 w
section
variable {X : Nat} {A : Option Addr} {n c : Nat} {W : Wn} {w0 w w' : World}
theorem Kept.c0 (h : Kept X A n c W w0 w) : w.cell? ⟨X, 0, none⟩ = some (.int .u64 (W.low : Int)) := row_at h.row rfl
theorem Kept.c1 (h : Kept X A n c W w0 w) : w.cell? ⟨X, 1, none⟩ = some (.int .u64 (W.width : Int)) := row_at h.row rfl
theorem Kept.c2 (h : Kept X A n c W w0 w) : w.cell? ⟨X, 2, none⟩ = some (.slice A n c) := row_at h.row rfl
theorem Kept.frz (h : Kept X A n c W w0 w) (i : Nat) : w.frozen? ⟨X, i, none⟩ = false := frz_row (i := i) h.row
theorem Kept.lt (h : Kept X A n c W w0 w) : X < w.heap.size := (Array.getElem?_eq_some_iff.1 h.row).1
theorem Kept.next (h : Kept X A n c W w0 w) (hb : Below w.heap.size w w') : Kept X A n c W w0 w' := ⟨(hb.block _ h.lt).trans h.row, h.at_.on hb, h.far, h.bel.trans (hb.mono h.bel.size)⟩
theorem Kept.made (h : Wat w A n c W) (hb : Below w0.heap.size w0 w) : Kept w.heap.size A n c W w0 (w.alloc (.cells #[.int .u64 (W.low : Int), .int .u64 (W.width : Int), .slice A n c] 30)) :=
  ⟨heap_alloc_new w _, h.on (below_box w _), fun b o e => Nat.ne_of_lt (h.st.lies b o e), hb.trans ((below_box w _).mono hb.size)⟩
/-- A window that was made of it is stored into the box. -/
theorem Kept.store {A' : Option Addr} {n' c' : Nat} {W' : Wn} {s : Nat} (h : Kept X A n c W w0 w) (hX : w0.heap.size ≤ X) (hs : X < s) (h' : Wat w A' n' c' W') (hp : ∀ b o, A' = some ⟨b, o, none⟩ → A' = A ∨ s ≤ b) : Kept X A' n' c' W' w0 (set3 w X (.int .u64 (W'.low : Int)) (.int .u64 (W'.width : Int)) (.slice A' n' c')) := by
  have hf : ∀ b o, A' = some ⟨b, o, none⟩ → b ≠ X := fun b o e => by
    rcases hp b o e with h1 | h1
    · exact h.far b o (h1 ▸ e)
    · omega
  exact ⟨set3_row h.row _ _ _, ⟨set3_st h'.st hf _ _ _, h'.low, h'.width, h'.ok⟩, hf, set3_below h.bel hX _ _ _⟩
end
set_option maxRecDepth 100000 in
set_option maxHeartbeats 1000000 in
theorem awake15_any (w : World) : Calls Try.prog 8 #[] w (Says w (.bool true)) := by
  obtain ⟨k1, k2, k3, k4, k5, k6, kx⟩ := ex15
  have K := Lib.hid (And.intro k1 (And.intro k2 (And.intro k3 (And.intro k4 (And.intro k5 (And.intro k6 kx))))))
  clear k1 k2 k3 k4 k5 k6 kx
  have h0 := Lib.hid (new_ok (n := 4) (by omega) (by omega))
  have h0l : Hid ((newW 4).width = 4) := rfl
  go_enter Try.func8, Try.ntmps8
  go_wp2_with fail
  refine (new_any w 4 (by unfold two64; omega)).mono ?_
  rintro e w1 hs
  obtain ⟨A1, n1, c1, rfl, hw1, hb1⟩ := hs.ex
  clear hs
  have HW1 := Lib.hid hw1
  have HB1 := Lib.hid hb1
  clear hw1 hb1
  generalize newW 4 = W1 at *
  go_wp2_with fail
  refine (put_b w1 A1 n1 c1 W1 HW1.out h0.out (by have := h0l.out; omega) 2 (by unfold two64; omega)).mono ?_
  rintro e w2 ⟨A2, n2, c2, rfl, hw2, _, hb2⟩
  have HW2 := Lib.hid hw2
  have HB2 := Lib.hid (HB1.out.trans (hb2.mono HB1.out.size))
  clear hw2 hb2 HW1 HB1 h0 h0l
  generalize putW W1 2 = W2 at *
  go_wp2_with fail
  refine (put_b w2 A2 n2 c2 W2 HW2.out K.out.1 (by have := K.out.2.2.1; omega) 1 (by unfold two64; omega)).mono ?_
  rintro e w3 ⟨A3, n3, c3, rfl, hw3, _, hb3⟩
  have HW3 := Lib.hid hw3
  have HB3 := Lib.hid (HB2.out.trans (hb3.mono HB2.out.size))
  clear hw3 hb3 HW2 HB2
  generalize putW W2 1 = W3 at *
  go_wp2_with fail
  have hK := Kept.made HW3.out HB3.out
  obtain ⟨X, hX⟩ : ∃ X, w3.heap.size = X := ⟨_, rfl⟩
  rw [hX] at hK ⊢
  generalize w3.alloc (.cells #[.int .u64 (W3.low : Int), .int .u64 (W3.width : Int), .slice A3 n3 c3] 30) = w4 at *
  have HK4 := Lib.hid hK
  have hx0 := hK.c0
  have hx1 := hK.c1
  have hx2 := hK.c2
  clear hK hX HW3 HB3
  refine (put_b w4 A3 n3 c3 W3 HK4.out.at_ K.out.2.2.2.2.2.2.ok (by have := K.out.2.2.2.2.2.2.width; omega) 4 (by unfold two64; omega)).mono ?_
  rintro e w5 ⟨A5, n5, c5, rfl, hw5, _, hb5⟩
  have HW5 := Lib.hid hw5
  have HK5 := Lib.hid (HK4.out.next hb5)
  clear hw5 hb5 HK4 hx0 hx1 hx2
  generalize putW W3 4 = W5 at *
  go_wp2_with fail
  refine (skip_b w5 A5 n5 c5 W5 HW5.out K.out.2.2.2.1 (by have := K.out.2.2.2.2.2.1; omega) 4 (by unfold two64; omega)).mono ?_
  rintro e w6 ⟨A6, n6, c6, rfl, hw6, _, hb6⟩
  have HW6 := Lib.hid hw6
  have HK6 := Lib.hid (HK5.out.next hb6)
  have HEX := Lib.hid K.out.2.2.2.2.2.2
  clear hw6 hb6 HK5 HW5 K
  generalize skipW W5 4 = W6 at *
  have hbx := HK6.out.next (below_box w6 (.cells #[.int .u64 (W6.low : Int), .int .u64 (W6.width : Int), .slice A6 n6 c6] 30))
  have HKX := Lib.hid hbx
  have hK := Kept.made HW6.out HK6.out.bel
  have q1 : ((W3.low : Int) == 2) = true := by have := HEX.out.low; simp [this]
  have q2 : ((W6.low : Int) == 4) = true := by have := HEX.out.lowB; simp [this]
  have hx0 := HKX.out.c0
  have hx1 := HKX.out.c1
  have hx2 := HKX.out.c2
  have hl := limit_b (w6.alloc (.cells #[.int .u64 (W6.low : Int), .int .u64 (W6.width : Int), .slice A6 n6 c6] 30)) A3 n3 c3 W3 6 (by unfold limW; rw [HEX.out.low, HEX.out.width])
  have HL := Lib.hid hl
  have HKY := Lib.hid hK
  clear hbx hl hK HK6 HW6
  go_wp2_with fail
  refine HL.out.mono ?_
  rintro e w8 ⟨rfl, hb8⟩
  have HK8 := Lib.hid (HKY.out.next hb8)
  have hy0 := HK8.out.c0
  have hy1 := HK8.out.c1
  have hy2 := HK8.out.c2
  have hr := right_b w8 A6 n6 c6 W6 HK8.out.at_ (by have := HK8.out.at_.n_le HEX.out.okB; have := HEX.out.widthB; omega) true ((right_iff HEX.out.okB.ok).2 HEX.out.okB)
  have HR := Lib.hid hr
  clear hr hb8 HKY HL hx0 hx1 hx2 HKX
  go_wp2_with fail
  refine HR.out.mono ?_
  rintro e w9 ⟨rfl, hb9⟩
  go_wp2
  go_ret
  exact ⟨rfl, HK8.out.bel.trans (hb9.mono HK8.out.bel.size)⟩
/-- An act of layer 15's statements. -/
structure Aw where
  d : Nat
  n : Nat
  m : Nat
def numW (x : Aw) (low : Nat) : Nat := if 3 < x.d % 6 then x.m % 2305843009213693952 else if low + x.n < 5 then 0 else low + x.n - 5
def putsW (x : Aw) : Bool := decide (x.d % 6 < 3) || decide (x.d % 6 = 4)
structure AwOk (x : Aw) : Prop where
  d : x.d < 256
  n : x.n < 256
  m : x.m < 18446744073709551616
theorem numW_lt {x : Aw} (hx : AwOk x) {low : Nat} : numW x low < max (low + 256) 2305843009213693952 := by
  have := hx.n
  unfold numW
  split
  · omega
  · split <;> omega
set_option maxHeartbeats 1000000 in
theorem number_any (w : World) (x : Aw) (hx : AwOk x) (low : Nat) (hl : low < 4611686018427387904) :
    Calls Try.prog 10 #[.agg #[.int .u8 (x.d : Int), .int .u8 (x.n : Int), .int .u64 (x.m : Int)], .int .u64 (low : Int)] w (Says w (.int .u64 (numW x low : Int))) := by
  have h1 := hx.d
  have h2 := hx.n
  have h3 := hx.m
  clear hx
  obtain ⟨R, HR⟩ : ∃ R, Hid (R = numW x low) := ⟨_, rfl⟩
  rw [← HR.out]
  by_cases h4 : 3 < x.d % 6
  · have h4I : (3 : Int) < (x.d : Int) % 6 := by omega
    obtain ⟨r, hr⟩ : ∃ r, r = x.m % 2305843009213693952 := ⟨_, rfl⟩
    have hrI : (x.m : Int) % 2305843009213693952 = (r : Int) := by omega
    obtain rfl : R = r := by rw [HR.out, hr]; unfold numW; rw [if_pos h4]
    clear h4 hr
    go_enter Try.func10, Try.ntmps10
    go_wp2
    go_ret
    exact ⟨congrArg (fun z => Ending.returned (Value.int .u64 z)) hrI, below_box w _⟩
  · have h4I : ¬ (3 : Int) < (x.d : Int) % 6 := by omega
    have hs : (low : Int) + (x.n : Int) = ((low + x.n : Nat) : Int) := by omega
    by_cases h5 : low + x.n < 5
    · have h5I : (low : Int) + (x.n : Int) < 5 := by omega
      obtain rfl : R = 0 := by rw [HR.out]; unfold numW; rw [if_neg h4, if_pos h5]
      clear h4 h5 hs
      go_enter Try.func10, Try.ntmps10
      go_wp2
      go_ret
      exact ⟨rfl, below_box w _⟩
    · have h5I : ¬ (low : Int) + (x.n : Int) < 5 := by omega
      obtain ⟨r, hr⟩ : ∃ r, r = low + x.n - 5 := ⟨_, rfl⟩
      have hrI : (low : Int) + (x.n : Int) - 5 = (r : Int) := by omega
      obtain rfl : R = r := by rw [HR.out, hr]; unfold numW; rw [if_neg h4, if_neg h5]
      clear h4 h5 hs hr
      go_enter Try.func10, Try.ntmps10
      go_wp2
      go_ret
      exact ⟨rfl, below_box w _⟩
set_option maxHeartbeats 1000000 in
theorem puts_any (w : World) (x : Aw) (hx : AwOk x) :
    Calls Try.prog 15 #[.agg #[.int .u8 (x.d : Int), .int .u8 (x.n : Int), .int .u64 (x.m : Int)]] w (Says w (.bool (putsW x))) := by
  have h1 := hx.d
  clear hx
  obtain ⟨R, HR⟩ : ∃ R, Hid (R = putsW x) := ⟨_, rfl⟩
  rw [← HR.out]
  by_cases h4 : x.d % 6 < 3
  · have h4I : (x.d : Int) % 6 < 3 := by omega
    obtain rfl : R = true := by rw [HR.out]; unfold putsW; simp [h4]
    go_enter Try.func15, Try.ntmps15
    go_wp2
    go_ret
    exact ⟨rfl, below_box w _⟩
  · have h4I : ¬ (x.d : Int) % 6 < 3 := by omega
    by_cases h5 : x.d % 6 = 4
    · have h5I : ((x.d : Int) % 6 == 4) = true := by simp; omega
      obtain rfl : R = true := by rw [HR.out]; unfold putsW; simp [h5]
      clear h4 h5
      go_enter Try.func15, Try.ntmps15
      go_wp2
      go_ret
      exact ⟨rfl, below_box w _⟩
    · have h5I : ((x.d : Int) % 6 == 4) = false := by simp; omega
      obtain rfl : R = false := by rw [HR.out]; unfold putsW; simp [h4, h5]
      clear h4 h5
      go_enter Try.func15, Try.ntmps15
      go_wp2
      go_ret
      exact ⟨rfl, below_box w _⟩
end Go.Proofs.Ythhmgbeigeagdaa
