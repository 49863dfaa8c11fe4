/-
  WORDS for windows in memory; CONTRACTS of done, Limit, Had, Takes.
  No statement is proved here.
-/
import Derived.Test.YthhmgbeigeagdaaWinMath
import Derived.Test.YthhmgbeigeagdaaRunsBun
namespace Go.Proofs.Ythhmgbeigeagdaa
open Go.RowKit

theorem row_at {W : World} {X i : Nat} {cs : Array Value} {t : TypeId} {v : Value} (h : W.heap[X]? = some (.cells cs t (0, 0))) (hv : cs[i]? = some v) : W.cell? ⟨X, i, none⟩ = some v := (cell_of_row _ _ _ _ _ _ h).trans hv
theorem row_put {W : World} {X : Nat} {cs : Array Value} {t : TypeId} (h : W.heap[X]? = some (.cells cs t (0, 0))) (i : Nat) (v : Value) : (W.setCell ⟨X, i, none⟩ v).heap[X]? = some (.cells (cs.setIfInBounds i v) t (0, 0)) := by
  simp [World.setCell, Array.getElem?_modify, h]
theorem row_off' {W : World} {X Y i : Nat} (v : Value) (h : Y ≠ X) : (W.setCell ⟨X, i, none⟩ v).heap[Y]? = W.heap[Y]? := by
  simp [World.setCell, Array.getElem?_modify, Ne.symm h]
/-- A window as a value. -/
def wvv (W : Wn) (A : Option Addr) (n c : Nat) : Value := .agg #[.int .u64 (W.low : Int), .int .u64 (W.width : Int), .slice A n c]
def wcs (W : Wn) (A : Option Addr) (n c : Nat) : Array Value := #[.int .u64 (W.low : Int), .int .u64 (W.width : Int), .slice A n c]
/-- A window's set lies in memory. -/
structure Wat (w : World) (A : Option Addr) (n c : Nat) (W : Wn) : Prop where
  st : St w w.heap.size A n c W.L
  low : W.low < two64
  width : W.width < two64
  ok : Okl W.L
theorem Wat.on {w w' : World} {A : Option Addr} {n c : Nat} {W : Wn} (h : Wat w A n c W) (hb : Below w.heap.size w w') : Wat w' A n c W := ⟨h.st.on hb (Nat.le_refl _), h.low, h.width, h.ok⟩
/-- A window is handed back. -/
def SaysW (w : World) (W : Wn) (e : Ending) (w' : World) : Prop := ∃ A n c, e = .returned (wvv W A n c) ∧ Wat w' A n c W ∧ Below w.heap.size w w'
theorem SaysS.le {w : World} {B : Nat} {L : List Rn} {e : Ending} {w' : World} (h : SaysS w B L e w') {m : Nat} (hm : L.length ≤ m) : ∃ A n c, e = .returned (.agg #[.slice A n c]) ∧ St w' w'.heap.size A n c L ∧ n ≤ m ∧ Below w.heap.size w w' := by
  obtain ⟨A, n, c, he, hs, _, hb⟩ := h
  exact ⟨A, n, c, he, hs, by rw [← hs.rs.len]; exact hm, hb⟩

set_option maxRecDepth 100000 in
set_option maxHeartbeats 400000 in
theorem done_any (w : World) (A : Option Addr) (n c : Nat) (W : Wn) (h : Wat w A n c W) (hn : n ≤ 500) :
    Calls Try.prog 30 #[wvv W A n c] w (SaysS w w.heap.size (doneL W)) := by
  have H := Lib.hid h
  clear h
  unfold wvv
  go_enter Try.func30, Try.ntmps30
  go_wp2_with fail
  have hb2 : Below w.heap.size w ((w.alloc (Obj.cells (wcs W A n c) 30)).alloc (Obj.cells #[.slice none 0 0] 28)) := (below_box w _).alloc (by simp) _
  have hR : ((w.alloc (Obj.cells (wcs W A n c) 30)).alloc (Obj.cells #[.slice none 0 0] 28)).heap[w.heap.size + 1]? = some (.cells #[.slice none 0 0] 28 (0, 0)) := by simpa using heap_alloc_new (w.alloc (Obj.cells (wcs W A n c) 30)) (Obj.cells #[.slice none 0 0] 28)
  have hz2 : w.heap.size + 1 < ((w.alloc (Obj.cells (wcs W A n c) 30)).alloc (Obj.cells #[.slice none 0 0] 28)).heap.size := by simp
  unfold wcs at hb2 hR hz2
  generalize (w.alloc (Obj.cells #[.int .u64 (W.low : Int), .int .u64 (W.width : Int), .slice A n c] 30)).alloc (Obj.cells #[.slice none 0 0] 28) = w2 at *
  refine (span_any w2 w.heap.size A n c 0 W.low W.L (H.out.st.below hb2 (Nat.le_refl _)) (by omega) (by unfold two64; omega) H.out.low hn).mono ?_
  rintro e w3 ⟨A3, n3, c3, rfl, hs3, hp3, hb3⟩
  have hR3 := (hb3.block _ hz2).trans hR
  have hq0 : w3.cell? ⟨w.heap.size + 1, 0, none⟩ = some (.slice none 0 0) := by rw [cell_of_row w3 _ 0 _ _ _ hR3]; rfl
  have hf0 := frz_row (i := 0) hR3
  have hc6 : (w3.setCell ⟨w.heap.size + 1, 0, none⟩ (.slice A3 n3 c3)).cell? ⟨w.heap.size + 1, 0, none⟩ = some (.slice A3 n3 c3) := World.cell?_setCell_same _ _ _ hq0
  clear hR3
  go_wp2
  refine bodyPost_ret (v := .agg #[.slice A3 n3 c3]) (by simp [results, Try.results30, go_sem, hc6]) rfl ?_
  exact res_set (M := w2.heap.size) (hb2.trans (hb3.mono (by omega))) (by omega) hz2 hs3 hp3 (Nat.le_refl _) _

def limW (W : Wn) : Nat := (W.low + W.width) % 18446744073709551616
set_option maxHeartbeats 400000 in
theorem limit_any (w : World) (A : Option Addr) (n c : Nat) (W : Wn) :
    Calls Try.prog 25 #[wvv W A n c] w (Says w (.int .u64 (limW W : Int))) := by
  unfold wvv
  go_enter Try.func25, Try.ntmps25
  go_wp2
  go_ret
  refine ⟨congrArg (fun x => Ending.returned (Value.int .u64 x)) ?_, below_box w _⟩
  unfold limW
  first | (rw [IntKind.wrap_u64]; omega) | omega | (simp; omega)

set_option maxHeartbeats 400000 in
theorem had_any (w : World) (A : Option Addr) (n c : Nat) (W : Wn) (h : Wat w A n c W) (hn : n ≤ 900) (k : Nat) :
    Calls Try.prog 13 #[wvv W A n c, .int .u64 (k : Int)] w (Says w (.bool (hadW W k))) := by
  unfold wvv
  have H := Lib.hid (h.on (below_box w (Obj.cells #[.int .u64 (W.low : Int), .int .u64 (W.width : Int), .slice A n c] 30)))
  clear h
  by_cases hk : k ≤ W.low
  · have hkI : (k : Int) ≤ (W.low : Int) := by omega
    rw [show hadW W k = true from by unfold hadW; simp [hk]]
    go_enter Try.func13, Try.ntmps13
    go_wp2
    go_ret
    exact ⟨rfl, below_box w _⟩
  · have hkI : ¬ (k : Int) ≤ (W.low : Int) := by omega
    rw [show hadW W k = hasL W.L k from by unfold hadW; simp [hk]]
    go_enter Try.func13, Try.ntmps13
    go_wp2_with fail
    refine (has_any _ A n c k W.L H.out.st.rs H.out.ok.can (by omega)).mono ?_
    rintro e w2 ⟨rfl, hb2⟩
    go_wp2
    go_ret
    exact ⟨rfl, (below_box w _).trans (hb2.mono (by simp))⟩
end Go.Proofs.Ythhmgbeigeagdaa
