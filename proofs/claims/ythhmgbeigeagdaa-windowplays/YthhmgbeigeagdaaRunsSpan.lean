/-
  CONTRACTS of Span, Add; of sort.Search with reach's own test, reach, Has, Gap.
  No statement is proved here.
-/
import Derived.Test.YthhmgbeigeagdaaRunsJoin
import Derived.StillTailTactics
namespace Go.Proofs.Ythhmgbeigeagdaa
open Go.RowKit

/-- A set laid into its result's cell. -/
theorem res_set {w w4 : World} {B R : Nat} {A : Option Addr} {n c : Nat} {L : List Rn} {M : Nat} (hb : Below w.heap.size w w4) (hR : w.heap.size ≤ R) (hRM : R < M) (hs : St w4 w4.heap.size A n c L) (hp : ∀ b o, A = some ⟨b, o, none⟩ → b < B ∨ M ≤ b) (hB : B ≤ w.heap.size) (u : Value) :
    SaysS w B L (.returned (.agg #[.slice A n c])) (w4.setCell ⟨R, 0, none⟩ u) := by
  have hz : w4.heap.size ≤ (w4.setCell ⟨R, 0, none⟩ u).heap.size := by simp [World.setCell]
  refine ⟨A, n, c, rfl, ⟨?_, fun b o e => Nat.lt_of_lt_of_le (hs.lies b o e) hz⟩, fun b o e => (hp b o e).imp id fun h => by omega, hb.setCell hR _⟩
  exact (hs.rs.off (p := ⟨R, 0, none⟩) (fun b o e => by have := hp b o e; show b ≠ R; omega) u).more hz

set_option maxRecDepth 100000 in
set_option maxHeartbeats 400000 in
theorem span_same (w : World) (A : Option Addr) (n c f t : Nat) (hft : t < f) :
    Calls Try.prog 33 #[.agg #[.slice A n c], .int .u64 (f : Int), .int .u64 (t : Int)] w (Says w (.agg #[.slice A n c])) := by
  have hI : (t : Int) < (f : Int) := by omega
  go_enter Try.func33, Try.ntmps33
  go_wp2
  have hc : ((w.alloc (Obj.cells #[.slice A n c] 28)).alloc (Obj.cells #[.slice A n c] 28)).cell? ⟨w.heap.size + 1, 0, none⟩ = some (.slice A n c) := cell_last (w.alloc (Obj.cells #[.slice A n c] 28)) _ _ _ 0 (by simp)
  have hb : Below w.heap.size w ((w.alloc (Obj.cells #[.slice A n c] 28)).alloc (Obj.cells #[.slice A n c] 28)) := (below_box w _).alloc (by simp) _
  refine bodyPost_ret (v := .agg #[.slice A n c]) (by simp [results, Try.results33, go_sem, hc]) rfl ?_
  exact ⟨rfl, hb⟩
set_option maxRecDepth 100000 in
set_option maxHeartbeats 400000 in
theorem span_grow (w : World) (A : Option Addr) (n c f t : Nat) (L : List Rn) (h : Rs w w.heap.size A n c L) (hf : f < two64) (ht : t < two64) (hn : n ≤ 500) (hft : ¬ t < f) :
    Calls Try.prog 33 #[.agg #[.slice A n c], .int .u64 (f : Int), .int .u64 (t : Int)] w (SaysS w 0 (spanL L f t)) := by
  have H := Lib.hid h
  clear h
  have hI : ¬ (t : Int) < (f : Int) := by omega
  rw [show spanL L f t = unionL L [(f, t)] from by unfold spanL; rw [if_neg hft]]
  go_enter Try.func33, Try.ntmps33
  go_wp2_with fail
  have hb2 : Below w.heap.size w ((w.alloc (Obj.cells #[.slice A n c] 28)).alloc (Obj.cells #[.slice none 0 0] 28)) := (below_box w _).alloc (by simp) _
  have hR : ((w.alloc (Obj.cells #[.slice A n c] 28)).alloc (Obj.cells #[.slice none 0 0] 28)).heap[w.heap.size + 1]? = some (.cells #[.slice none 0 0] 28 (0, 0)) := by simpa using heap_alloc_new (w.alloc (Obj.cells #[.slice A n c] 28)) (Obj.cells #[.slice none 0 0] 28)
  have hz2 : w.heap.size + 1 < ((w.alloc (Obj.cells #[.slice A n c] 28)).alloc (Obj.cells #[.slice none 0 0] 28)).heap.size := by simp
  have hwz : ((w.alloc (Obj.cells #[.slice A n c] 28)).alloc (Obj.cells #[.slice none 0 0] 28)).heap.size = w.heap.size + 1 + 1 := by simp
  rw [← hwz]
  clear hwz
  generalize (w.alloc (Obj.cells #[.slice A n c] 28)).alloc (Obj.cells #[.slice none 0 0] 28) = w2 at *
  have hs2 := (H.out.on hb2 (Nat.le_refl _)).onA (Obj.cells #[.int .u64 (f : Int), .int .u64 (t : Int)] 48)
  have hone : Rs (w2.alloc (Obj.cells #[.int .u64 (f : Int), .int .u64 (t : Int)] 48)) (w2.alloc (Obj.cells #[.int .u64 (f : Int), .int .u64 (t : Int)] 48)).heap.size (some ⟨w2.heap.size, 0, none⟩) 1 1 [(f, t)] :=
    ⟨(lit_sn w2 48 (rvs [(f, t)]) 1 2 rfl (by unfold maxLen; omega)).more (by simp), fun q hq => by rw [List.mem_singleton] at hq; subst hq; exact ⟨hf, ht⟩⟩
  refine (union_any _ A (some ⟨w2.heap.size, 0, none⟩) n c 1 1 L [(f, t)] hs2 hone (by omega)).mono ?_
  rintro e w3 ⟨A3, n3, c3, rfl, hs3, hp3, hb3⟩
  have hb3' : Below w2.heap.size w2 w3 := (below_box w2 _).trans (hb3.mono (by simp))
  have hR3 := (hb3'.block _ hz2).trans hR
  have hq0 : w3.cell? ⟨w.heap.size + 1, 0, none⟩ = some (.slice none 0 0) := by rw [cell_of_row w3 _ 0 _ _ _ hR3]; rfl
  have hf0 := frz_row (i := 0) hR3
  have hc6 : (w3.setCell ⟨w.heap.size + 1, 0, none⟩ (.slice A3 n3 c3)).cell? ⟨w.heap.size + 1, 0, none⟩ = some (.slice A3 n3 c3) := World.cell?_setCell_same _ _ _ hq0
  clear hs2 hone hR3 hb3
  go_wp2
  refine bodyPost_ret (v := .agg #[.slice A3 n3 c3]) (by simp [results, Try.results33, go_sem, hc6]) rfl ?_
  exact res_set (M := w2.heap.size) (hb2.trans (hb3'.mono (by omega))) (by omega) hz2 hs3 (fun b o e => (hp3 b o e).imp (fun h => by omega) (fun h => by simp at h; omega)) (Nat.zero_le _) _

theorem span_any (w : World) (B : Nat) (A : Option Addr) (n c f t : Nat) (L : List Rn) (h : St w B A n c L) (hB : B ≤ w.heap.size) (hf : f < two64) (ht : t < two64) (hn : n ≤ 500) :
    Calls Try.prog 33 #[.agg #[.slice A n c], .int .u64 (f : Int), .int .u64 (t : Int)] w (SaysS w B (spanL L f t)) := by
  by_cases hft : t < f
  · refine (span_same w A n c f t hft).mono ?_
    rintro e w' ⟨rfl, hb⟩
    rw [show spanL L f t = L from by unfold spanL; rw [if_pos hft]]
    exact ⟨A, n, c, rfl, (h.more hB).on hb (Nat.le_refl _), fun b o e => .inl (h.lies b o e), hb⟩
  · refine (span_grow w A n c f t L (h.more hB).rs hf ht hn hft).mono ?_
    rintro e w' ⟨A', n', c', rfl, hs, hp, hb⟩
    exact ⟨A', n', c', rfl, hs, fun b o e => (hp b o e).imp (fun h => by omega) id, hb⟩

set_option maxRecDepth 100000 in
set_option maxHeartbeats 400000 in
theorem add_any (w : World) (B : Nat) (A : Option Addr) (n c f : Nat) (L : List Rn) (h : St w B A n c L) (hB : B ≤ w.heap.size) (hf : f < two64) (hn : n ≤ 500) :
    Calls Try.prog 31 #[.agg #[.slice A n c], .int .u64 (f : Int)] w (SaysS w B (spanL L f f)) := by
  have H := Lib.hid h
  clear h
  go_enter Try.func31, Try.ntmps31
  go_wp2_with fail
  have hb2 : Below w.heap.size w ((w.alloc (Obj.cells #[.slice A n c] 28)).alloc (Obj.cells #[.slice none 0 0] 28)) := (below_box w _).alloc (by simp) _
  have hR : ((w.alloc (Obj.cells #[.slice A n c] 28)).alloc (Obj.cells #[.slice none 0 0] 28)).heap[w.heap.size + 1]? = some (.cells #[.slice none 0 0] 28 (0, 0)) := by simpa using heap_alloc_new (w.alloc (Obj.cells #[.slice A n c] 28)) (Obj.cells #[.slice none 0 0] 28)
  have hz2 : w.heap.size + 1 < ((w.alloc (Obj.cells #[.slice A n c] 28)).alloc (Obj.cells #[.slice none 0 0] 28)).heap.size := by simp
  generalize (w.alloc (Obj.cells #[.slice A n c] 28)).alloc (Obj.cells #[.slice none 0 0] 28) = w2 at *
  refine (span_any w2 B A n c f f L (H.out.below hb2 hB) (by omega) hf hf hn).mono ?_
  rintro e w3 ⟨A3, n3, c3, rfl, hs3, hp3, hb3⟩
  have hR3 := (hb3.block _ hz2).trans hR
  have hq0 : w3.cell? ⟨w.heap.size + 1, 0, none⟩ = some (.slice none 0 0) := by rw [cell_of_row w3 _ 0 _ _ _ hR3]; rfl
  have hf0 := frz_row (i := 0) hR3
  have hc6 : (w3.setCell ⟨w.heap.size + 1, 0, none⟩ (.slice A3 n3 c3)).cell? ⟨w.heap.size + 1, 0, none⟩ = some (.slice A3 n3 c3) := World.cell?_setCell_same _ _ _ hq0
  clear hR3
  go_wp2
  refine bodyPost_ret (v := .agg #[.slice A3 n3 c3]) (by simp [results, Try.results31, go_sem, hc6]) rfl ?_
  exact res_set (M := w2.heap.size) (hb2.trans (hb3.mono (by omega))) (by omega) hz2 hs3 hp3 hB _
end Go.Proofs.Ythhmgbeigeagdaa
