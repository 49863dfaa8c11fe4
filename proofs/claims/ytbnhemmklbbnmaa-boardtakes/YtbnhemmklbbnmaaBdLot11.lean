/-
  TEXTS OF EARLIER ROUNDS, laid together: part 11.
  No statement is proved here.
-/
import Derived.Test.YtbnhemmklbbnmaaBdLot10
import Derived.StillTailTactics

/-! ## RunsSpan -/
namespace Go.Proofs.Ytbnhemmklbbnmaa
open Go.RowKit

/-- A set laid into its result's cell. -/
theorem res_set {w w4 : World} {B R : Nat} {A : Option Addr} {n c : Nat} {L : List Rn} {M : Nat} (hb : Below w.heap.size w w4) (hR : w.heap.size ≤ R) (hRM : R < M) (hs : St w4 w4.heap.size A n c L) (hp : ∀ b o, A = some ⟨b, o, none⟩ → b < B ∨ M ≤ b) (hB : B ≤ w.heap.size) (u : Value) :
    SaysS w B L (.returned (.agg #[.slice A n c])) (w4.setCell ⟨R, 0, none⟩ u) := by
  have hz : w4.heap.size ≤ (w4.setCell ⟨R, 0, none⟩ u).heap.size := by simp [World.setCell]
  refine ⟨A, n, c, rfl, ⟨?_, fun b o e => Nat.lt_of_lt_of_le (hs.lies b o e) hz⟩, fun b o e => (hp b o e).imp id fun h => by omega, hb.setCell hR _⟩
  exact (hs.rs.off (p := ⟨R, 0, none⟩) (fun b o e => by have := hp b o e; show b ≠ R; omega) u).more hz

set_option maxRecDepth 100000 in
set_option maxHeartbeats 400000 in
theorem span_same (w : World) (A : Option Addr) (n c f t : Nat) (hft : t < f) :
    Calls Try.prog 13 #[.agg #[.slice A n c], .int .u64 (f : Int), .int .u64 (t : Int)] w (Says w (.agg #[.slice A n c])) := by
  have hI : (t : Int) < (f : Int) := by omega
  go_enter Try.func13, Try.ntmps13
  go_wp2
  have hc : ((w.alloc (Obj.cells #[.slice A n c] 44)).alloc (Obj.cells #[.slice A n c] 44)).cell? ⟨w.heap.size + 1, 0, none⟩ = some (.slice A n c) := cell_last (w.alloc (Obj.cells #[.slice A n c] 44)) _ _ _ 0 (by simp)
  have hb : Below w.heap.size w ((w.alloc (Obj.cells #[.slice A n c] 44)).alloc (Obj.cells #[.slice A n c] 44)) := (below_box w _).alloc (by simp) _
  refine bodyPost_ret (v := .agg #[.slice A n c]) (by simp [results, Try.results13, go_sem, hc]) rfl ?_
  exact ⟨rfl, hb⟩
set_option maxRecDepth 100000 in
set_option maxHeartbeats 400000 in
theorem span_grow (w : World) (A : Option Addr) (n c f t : Nat) (L : List Rn) (h : Rs w w.heap.size A n c L) (hf : f < two64) (ht : t < two64) (hn : n ≤ 500) (hft : ¬ t < f) :
    Calls Try.prog 13 #[.agg #[.slice A n c], .int .u64 (f : Int), .int .u64 (t : Int)] w (SaysS w 0 (spanL L f t)) := by
  have H := Lib.hid h
  clear h
  have hI : ¬ (t : Int) < (f : Int) := by omega
  rw [show spanL L f t = unionL L [(f, t)] from by unfold spanL; rw [if_neg hft]]
  go_enter Try.func13, Try.ntmps13
  go_wp2_with fail
  have hb2 : Below w.heap.size w ((w.alloc (Obj.cells #[.slice A n c] 44)).alloc (Obj.cells #[.slice none 0 0] 44)) := (below_box w _).alloc (by simp) _
  have hR : ((w.alloc (Obj.cells #[.slice A n c] 44)).alloc (Obj.cells #[.slice none 0 0] 44)).heap[w.heap.size + 1]? = some (.cells #[.slice none 0 0] 44 (0, 0)) := by simpa using heap_alloc_new (w.alloc (Obj.cells #[.slice A n c] 44)) (Obj.cells #[.slice none 0 0] 44)
  have hz2 : w.heap.size + 1 < ((w.alloc (Obj.cells #[.slice A n c] 44)).alloc (Obj.cells #[.slice none 0 0] 44)).heap.size := by simp
  have hwz : ((w.alloc (Obj.cells #[.slice A n c] 44)).alloc (Obj.cells #[.slice none 0 0] 44)).heap.size = w.heap.size + 1 + 1 := by simp
  rw [← hwz]
  clear hwz
  generalize (w.alloc (Obj.cells #[.slice A n c] 44)).alloc (Obj.cells #[.slice none 0 0] 44) = w2 at *
  have hs2 := (H.out.on hb2 (Nat.le_refl _)).onA (Obj.cells #[.int .u64 (f : Int), .int .u64 (t : Int)] 47)
  have hone : Rs (w2.alloc (Obj.cells #[.int .u64 (f : Int), .int .u64 (t : Int)] 47)) (w2.alloc (Obj.cells #[.int .u64 (f : Int), .int .u64 (t : Int)] 47)).heap.size (some ⟨w2.heap.size, 0, none⟩) 1 1 [(f, t)] :=
    ⟨(lit_sn w2 47 (rvs [(f, t)]) 1 2 rfl (by unfold maxLen; omega)).more (by simp), fun q hq => by rw [List.mem_singleton] at hq; subst hq; exact ⟨hf, ht⟩⟩
  refine (union_any _ A (some ⟨w2.heap.size, 0, none⟩) n c 1 1 L [(f, t)] hs2 hone (by omega)).mono ?_
  rintro e w3 ⟨A3, n3, c3, rfl, hs3, hp3, hb3⟩
  have hb3' : Below w2.heap.size w2 w3 := (below_box w2 _).trans (hb3.mono (by simp))
  have hR3 := (hb3'.block _ hz2).trans hR
  have hq0 : w3.cell? ⟨w.heap.size + 1, 0, none⟩ = some (.slice none 0 0) := by rw [cell_of_row w3 _ 0 _ _ _ hR3]; rfl
  have hf0 := frz_row (i := 0) hR3
  have hc6 : (w3.setCell ⟨w.heap.size + 1, 0, none⟩ (.slice A3 n3 c3)).cell? ⟨w.heap.size + 1, 0, none⟩ = some (.slice A3 n3 c3) := World.cell?_setCell_same _ _ _ hq0
  clear hs2 hone hR3 hb3
  go_wp2
  refine bodyPost_ret (v := .agg #[.slice A3 n3 c3]) (by simp [results, Try.results13, go_sem, hc6]) rfl ?_
  exact res_set (M := w2.heap.size) (hb2.trans (hb3'.mono (by omega))) (by omega) hz2 hs3 (fun b o e => (hp3 b o e).imp (fun h => by omega) (fun h => by simp at h; omega)) (Nat.zero_le _) _

theorem span_any (w : World) (B : Nat) (A : Option Addr) (n c f t : Nat) (L : List Rn) (h : St w B A n c L) (hB : B ≤ w.heap.size) (hf : f < two64) (ht : t < two64) (hn : n ≤ 500) :
    Calls Try.prog 13 #[.agg #[.slice A n c], .int .u64 (f : Int), .int .u64 (t : Int)] w (SaysS w B (spanL L f t)) := by
  by_cases hft : t < f
  · refine (span_same w A n c f t hft).mono ?_
    rintro e w' ⟨rfl, hb⟩
    rw [show spanL L f t = L from by unfold spanL; rw [if_pos hft]]
    exact ⟨A, n, c, rfl, (h.more hB).on hb (Nat.le_refl _), fun b o e => .inl (h.lies b o e), hb⟩
  · refine (span_grow w A n c f t L (h.more hB).rs hf ht hn hft).mono ?_
    rintro e w' ⟨A', n', c', rfl, hs, hp, hb⟩
    exact ⟨A', n', c', rfl, hs, fun b o e => (hp b o e).imp (fun h => by omega) id, hb⟩

end Go.Proofs.Ytbnhemmklbbnmaa

/-! ## RunsReach -/
namespace Go.Proofs.Ytbnhemmklbbnmaa
open Go.RowKit

set_option maxHeartbeats 400000 in
theorem test_any (w : World) (X Y B : Nat) (A : Option Addr) (n c i v : Nat) (L : List Rn) (r : Rn) (hx : w.cell? ⟨X, 0, none⟩ = some (.slice A n c)) (hy : w.cell? ⟨Y, 0, none⟩ = some (.int .u64 (v : Int))) (h : Rs w B A n c L) (hi : i < n) (hr : L[i]? = some r) :
    Calls Try.prog 71 #[.int .i64 (i : Int), .pointer (some ⟨X, 0, none⟩), .pointer (some ⟨Y, 0, none⟩)] w fun e w' => e = .returned (.bool (decide (v ≤ r.2))) ∧ ∃ q, w' = w.drewN q := by
  obtain ⟨b, o, r', rfl, _, hr', h0, h1, _, _⟩ := h.at_ hi
  rw [hr] at hr'
  injection hr' with hr'
  subst hr'
  have hi0 : (0 : Int) ≤ (i : Int) := by omega
  have hi1 : (i : Int) < (n : Int) := by omega
  clear h hr
  go_enter Try.func71, Try.ntmps71
  go_wp2
  go_quiet (fail)
  go_wp2
  go_ret
  exact ⟨by simp, _, rfl⟩

def SearchRel (w : World) (k n gk : Nat) (vi vj : Value) (wr : World) : Prop :=
  ∃ i j q : Nat, gk + i = j ∧ i ≤ k ∧ k ≤ j ∧ j ≤ n ∧ vi = .int .i64 (i : Int) ∧ vj = .int .i64 (j : Int) ∧ wr = w.drewN q
set_option maxRecDepth 100000 in
set_option maxHeartbeats 400000 in
theorem search_any (w : World) (X Y B : Nat) (A : Option Addr) (n c v : Nat) (L : List Rn) (hx : w.cell? ⟨X, 0, none⟩ = some (.slice A n c)) (hy : w.cell? ⟨Y, 0, none⟩ = some (.int .u64 (v : Int))) (h : Rs w B A n c L) (hL : Canon L) (hn : n ≤ 1000) :
    Calls Try.prog 63 #[.int .i64 (n : Int), .func (.func 71) #[] #[.pointer (some ⟨X, 0, none⟩), .pointer (some ⟨Y, 0, none⟩)]] w fun e w' => e = .returned (.int .i64 (lowC L v : Int)) ∧ ∃ q, w' = w.drewN q := by
  have H := Lib.hid h
  have HL := Lib.hid hL
  have HX := Lib.hid hx
  have HY := Lib.hid hy
  have HK : Hid (lowC L v ≤ n) := by show _ ≤ _; rw [← h.len]; exact lowC_le L v
  have HLT : Hid (∀ j r, L[j]? = some r → (j < lowC L v ↔ r.2 < v)) := fun j r hr => lowC_iff hL hr
  generalize lowC L v = k at *
  clear h hL hx hy
  go_enter Try.func63, Try.ntmps63
  go_wp2
  go_loopg [5, 6] n (fun gk vi vj wr => SearchRel w k n gk vi vj wr)
  case atStart => exact ⟨0, n, 0, by omega, Nat.zero_le _, HK.out, Nat.le_refl _, rfl, rfl, rfl⟩
  case round =>
    obtain ⟨i, j, q, hg, hik, hkj, hjn, rfl, rfl, rfl⟩ := hrel
    have HG := Lib.hid hg
    clear hg
    by_cases hlt : i < j
    · obtain ⟨m, hm⟩ : ∃ m, (i + j) / 2 = m := ⟨_, rfl⟩
      have hmI : ((i : Int) + (j : Int)) / 2 = (m : Int) := by omega
      have him : i ≤ m := by omega
      have hmj : m < j := by omega
      obtain ⟨r, hr⟩ : ∃ r, L[m]? = some r := ⟨_, List.getElem?_eq_getElem (by have := H.out.len; omega)⟩
      have ht := test_any (w.drewN q) X Y B A n c m v L r HX.out HY.out (H.out.drewN q) (by omega) hr
      have HT := Lib.hid ht
      have hlk := HLT.out m r hr
      clear ht hm hr
      by_cases hv : v ≤ r.2
      · rw [decide_eq_true hv] at HT
        go_wp2_with fail
        refine HT.out.mono ?_
        rintro e w2 ⟨rfl, q2, rfl⟩
        go_wp2
        go_roundg (m - i)
        case measure => have := HG.out; omega
        case rel => exact ⟨i, m, q + q2, by omega, hik, by omega, by omega, rfl, rfl, rfl⟩
      · rw [decide_eq_false hv] at HT
        go_wp2_with fail
        refine HT.out.mono ?_
        rintro e w2 ⟨rfl, q2, rfl⟩
        go_wp2
        go_roundg (j - (m + 1))
        case measure => have := HG.out; omega
        case rel => exact ⟨m + 1, j, q + q2, by omega, by omega, hkj, hjn, by go_num, rfl, rfl⟩
    · have hki : i = k := by omega
      have HKI := Lib.hid hki
      have hnlt : ¬ (i : Int) < (j : Int) := by omega
      clear hki
      go_wp2
      go_ret
      exact ⟨by rw [HKI.out]; rfl, q, rfl⟩

set_option maxRecDepth 100000 in
set_option maxHeartbeats 400000 in
theorem reach_any (w : World) (B : Nat) (A : Option Addr) (n c v : Nat) (L : List Rn) (h : Rs w B A n c L) (hB : B ≤ w.heap.size) (hL : Canon L) (hn : n ≤ 1000) :
    Calls Try.prog 55 #[.slice A n c, .int .u64 (v : Int)] w fun e w' => ∃ A' n' c', e = .returned (.slice A' n' c') ∧ Rs w' B A' n' c' (reachL L v) ∧ Below w.heap.size w w' := by
  have hk : lowC L v ≤ n := by rw [← h.len]; exact lowC_le L v
  have hcn := h.sn.le
  have hcm := h.sn.max
  unfold maxLen at hcm
  have H := Lib.hid h
  have HL := Lib.hid hL
  obtain ⟨R, HR⟩ : ∃ R, Hid (R = reachL L v) := ⟨_, rfl⟩
  have HD := Lib.hid (h.drop hk)
  rw [← reachL_drop, ← HR.out] at HD
  rw [← HR.out]
  clear h hL
  go_enter Try.func55, Try.ntmps55
  go_wp2_with fail
  have hcx : ((w.alloc (Obj.cells #[.slice A n c] 38)).alloc (Obj.cells #[.int .u64 (v : Int)] 34)).cell? ⟨w.heap.size, 0, none⟩ = some (.slice A n c) := (World.cell?_alloc_lt _ _ ⟨w.heap.size, 0, none⟩ (by simp)).trans (cell_last w _ _ _ 0 rfl)
  have hcy : ((w.alloc (Obj.cells #[.slice A n c] 38)).alloc (Obj.cells #[.int .u64 (v : Int)] 34)).cell? ⟨w.heap.size + 1, 0, none⟩ = some (.int .u64 (v : Int)) := cell_last _ _ _ _ 0 (by simp)
  have hb2 : Below w.heap.size w ((w.alloc (Obj.cells #[.slice A n c] 38)).alloc (Obj.cells #[.int .u64 (v : Int)] 34)) := (below_box w _).alloc (by simp) _
  generalize ((w.alloc (Obj.cells #[.slice A n c] 38)).alloc (Obj.cells #[.int .u64 (v : Int)] 34)) = w2 at *
  have HS := Lib.hid (search_any w2.drew w.heap.size (w.heap.size + 1) B A n c v L hcx hcy ((H.out.below hb2 hB).drewN 1) HL.out hn)
  have hkI : (0 : Int) ≤ (lowC L v : Int) := by omega
  have hkN : (lowC L v : Int) ≤ (n : Int) := by omega
  generalize lowC L v = k at *
  have hck : ∀ q, (w2.drew.drewN q).cell? ⟨w.heap.size, 0, none⟩ = some (.slice A n c) := fun q => hcx
  by_cases hc1 : c = k
  · subst hc1
    rw [if_pos rfl, Nat.sub_self, show n - c = 0 from by omega] at HD
    go_region_held3 (fun w' => w'.cell? ⟨w.heap.size, 0, none⟩ = some (.slice A n c)) (first | exact hcx | exact hck _) (first
      | (go_at_call 63; refine HS.out.mono ?_; rintro e w3 ⟨rfl, q, rfl⟩))
    go_wp2
    go_ret
    exact ⟨_, _, _, rfl, HD.out.below (below_drewN hb2 (1 + q)) hB, below_drewN hb2 (1 + q)⟩
  · rw [if_neg hc1] at HD
    go_region_held3 (fun w' => w'.cell? ⟨w.heap.size, 0, none⟩ = some (.slice A n c)) (first | exact hcx | exact hck _) (first
      | (go_at_call 63; refine HS.out.mono ?_; rintro e w3 ⟨rfl, q, rfl⟩))
    go_wp2
    go_ret
    exact ⟨_, _, _, rfl, HD.out.below (below_drewN hb2 (1 + q)) hB, below_drewN hb2 (1 + q)⟩

/-! ### Has, Gap -/
end Go.Proofs.Ytbnhemmklbbnmaa

/-! ## RunsLess -/
namespace Go.Proofs.Ytbnhemmklbbnmaa
open Go.RowKit

/-- A row lies in another block than this. -/
def Far (X : Nat) (A : Option Addr) : Prop := ∀ p, A = some p → p.block ≠ X
theorem Far.app {w : World} {X : Nat} {A A' : Option Addr} (h : Far X A) (hX : X < w.heap.size) (hd : A' = A ∨ ∃ b, A' = some ⟨b, 0, none⟩ ∧ w.heap.size ≤ b) : Far X A' := by
  rcases hd with rfl | ⟨g, rfl, hg⟩
  · exact h
  · intro p e
    injection e with e
    subst e
    show g ≠ X
    omega
theorem Far.of_own {w : World} {base X : Nat} {A : Option Addr} {n c : Nat} {L : List Rn} (h : Own w base A n c L) (hX : w.heap.size ≤ X) : Far X A := by
  intro p e
  subst e
  rcases h.2 with ⟨hv, _⟩ | ⟨g', cap, cur, hv, hbg, hg, hnc, hcm, hcs, ht⟩
  · cases hv
  · have := (h.lt p.block (by simp [Value.ownBlock])).2
    omega
theorem Far.own {X : Nat} {A : Option Addr} {n c : Nat} (h : Far X A) : (Value.slice A n c).ownBlock = none ∨ (Value.slice A n c).ownBlock ≠ some X := by
  refine .inr fun hv => ?_
  rcases A with _ | p
  · simp [Value.ownBlock] at hv
  · exact h p rfl (by simpa [Value.ownBlock] using hv)
theorem pieces_nil (r : Rn) : piecesL r [] = [r] := rfl
theorem pieces_far {r h : Rn} {hs : List Rn} (h1 : r.2 < h.1) : piecesL r (h :: hs) = [r] := by rw [piecesL, if_pos h1]
theorem pieces_cut {r h : Rn} {hs : List Rn} (h1 : ¬ r.2 < h.1) (h2 : r.1 < h.1) (h3 : r.2 ≤ h.2) : piecesL r (h :: hs) = [(r.1, h.1 - 1)] := by rw [piecesL, if_neg h1, if_pos h2, if_pos h3]; rfl
theorem pieces_none {r h : Rn} {hs : List Rn} (h1 : ¬ r.2 < h.1) (h2 : ¬ r.1 < h.1) (h3 : r.2 ≤ h.2) : piecesL r (h :: hs) = [] := by rw [piecesL, if_neg h1, if_neg h2, if_pos h3]; rfl
theorem pieces_two {r h : Rn} {hs : List Rn} (h1 : ¬ r.2 < h.1) (h2 : r.1 < h.1) (h3 : ¬ r.2 ≤ h.2) : piecesL r (h :: hs) = [(r.1, h.1 - 1)] ++ piecesL (h.2 + 1, r.2) hs := by rw [piecesL, if_neg h1, if_pos h2, if_neg h3]
theorem pieces_on {r h : Rn} {hs : List Rn} (h1 : ¬ r.2 < h.1) (h2 : ¬ r.1 < h.1) (h3 : ¬ r.2 ≤ h.2) : piecesL r (h :: hs) = piecesL (h.2 + 1, r.2) hs := by rw [piecesL, if_neg h1, if_neg h2, if_neg h3]; rfl

theorem run_src (w : World) (g : Nat) (hg : w.heap.size = g) (q : Rn) (x y : Int) (hx : x = (q.1 : Int)) (hy : y = (q.2 : Int)) :
    Src Try.prog 2 38 (.slice (some ⟨g, 0, none⟩) 1 1) 1 (rv q) (w.alloc (.cells #[.int .u64 x, .int .u64 y] 47)) := by
  subst hg hx hy
  exact (lit_sn w 47 (rv q) 1 2 rfl (by unfold maxLen; omega)).src Try.underlying38 (rv_one q)
theorem grown_keep {w w3 : World} {X nl cl : Nat} {Al : Option Addr} (h5 : w.grownBy w3 (if nl = cl then none else (Value.slice Al nl cl).ownBlock)) (hX : X < w.heap.size) (hf : Far X Al) : w3.heap[X]? = w.heap[X]? := by
  refine h5.block X hX fun e => ?_
  split at e
  · cases e
  · rcases hf.own (n := nl) (c := cl) with hf | hf
    · rw [hf] at e; cases e
    · exact hf e.symm
structure OutSt (w : World) (X B base : Nat) (Ah : Option Addr) (nh ch : Nat) (H : List Rn) (Al : Option Addr) (nl cl : Nat) (acc : List Rn) (r : Rn) (wr : World) : Prop where
  own : Own wr base Al nl cl acc
  far : Far X Al
  box : wr.heap[X]? = some (.cells #[.int .u64 (r.1 : Int), .int .u64 (r.2 : Int)] 47 (0, 0))
  bel : Below base w wr
  rs : Rs wr B Ah nh ch H
  hB : B ≤ base
  hX : base ≤ X
section
variable {w : World} {X B base : Nat} {Ah : Option Addr} {nh ch : Nat} {H : List Rn} {Al : Option Addr} {nl cl : Nat} {acc : List Rn} {r : Rn} {wr : World}
theorem OutSt.c0 (h : OutSt w X B base Ah nh ch H Al nl cl acc r wr) : wr.cell? ⟨X, 0, none⟩ = some (.int .u64 (r.1 : Int)) := by rw [cell_of_row wr _ 0 _ _ _ h.box]; rfl
theorem OutSt.c1 (h : OutSt w X B base Ah nh ch H Al nl cl acc r wr) : wr.cell? ⟨X, 1, none⟩ = some (.int .u64 (r.2 : Int)) := by rw [cell_of_row wr _ 1 _ _ _ h.box]; rfl
theorem OutSt.lt (h : OutSt w X B base Ah nh ch H Al nl cl acc r wr) : X < wr.heap.size := World.block_lt_of_cell? wr _ h.c0
theorem OutSt.alloc (h : OutSt w X B base Ah nh ch H Al nl cl acc r wr) (o : Obj) : OutSt w X B base Ah nh ch H Al nl cl acc r (wr.alloc o) := by
  have hz : base ≤ wr.heap.size := Nat.le_trans h.hX (Nat.le_of_lt h.lt)
  have hb : Below base wr (wr.alloc o) := (below_box wr o).mono hz
  exact ⟨h.own.alloc o, h.far, ((below_box wr o).block _ h.lt).trans h.box, h.bel.trans hb, h.rs.below hb h.hB, h.hB, h.hX⟩
theorem OutSt.app {A3 : Option Addr} {c3 : Nat} {w3 : World} {q : Rn} (h : OutSt w X B base Ah nh ch H Al nl cl acc r wr)
    (h2 : w3.ownsRow base 47 2 (.slice A3 (nl + 1) c3) (nl + 1) (rvs acc ++ rv q)) (h4 : Below base wr w3) (h5 : wr.grownBy w3 (if nl = cl then none else (Value.slice Al nl cl).ownBlock)) (h6 : A3 = Al ∨ ∃ b, A3 = some ⟨b, 0, none⟩ ∧ wr.heap.size ≤ b) :
    OutSt w X B base Ah nh ch H A3 (nl + 1) c3 (acc ++ [q]) r w3 := by
  refine ⟨?_, h.far.app h.lt h6, ?_, h.bel.trans h4, h.rs.below h4 h.hB, h.hB, h.hX⟩
  · rw [← rvs_one1, ← rvs_app] at h2
    exact h2
  · exact (grown_keep h5 h.lt h.far).trans h.box
theorem OutSt.set (h : OutSt w X B base Ah nh ch H Al nl cl acc r wr) (v : Nat) : OutSt w X B base Ah nh ch H Al nl cl acc (v, r.2) (wr.setCell ⟨X, 0, none⟩ (.int .u64 (v : Int))) := by
  have hb : Below base wr (wr.setCell ⟨X, 0, none⟩ (.int .u64 (v : Int))) := (Below.refl base wr).setCell h.hX _
  refine ⟨h.own.kept (set_grown wr X 0 _) h.far.own, h.far, ?_, h.bel.trans hb, h.rs.below hb h.hB, h.hB, h.hX⟩
  simp [World.setCell, Array.getElem?_modify, h.box]
end
def OutRel (w : World) (X B base nh : Nat) (Ah : Option Addr) (ch : Nat) (H tot : List Rn) (gk : Nat) (vl vi : Value) (wr : World) : Prop :=
  ∃ (Al : Option Addr) (nl cl k : Nat) (acc : List Rn) (r : Rn), gk + k = nh ∧ vl = .slice Al nl cl ∧ vi = .int .i64 (k : Int) ∧ OutSt w X B base Ah nh ch H Al nl cl acc r wr ∧ tot = acc ++ piecesL r (H.drop k) ∧ r.1 < two64 ∧ r.2 < two64 ∧ nl ≤ 1000000 + k

set_option maxRecDepth 100000 in
set_option maxHeartbeats 1000000 in
theorem outside_any (w : World) (B base : Nat) (Al : Option Addr) (nl cl : Nat) (acc : List Rn) (r : Rn) (Ah : Option Addr) (nh ch : Nat) (H : List Rn) (hown : Own w base Al nl cl acc) (hrs : Rs w B Ah nh ch H) (hB : B ≤ base) (hb : base ≤ w.heap.size)
    (hr : r.1 < two64 ∧ r.2 < two64) (hl : nl ≤ 1000000) (hh : nh ≤ 1000) :
    Calls Try.prog 56 #[.slice Al nl cl, rnv r, .slice Ah nh ch] w (SaysOwn w base (acc ++ piecesL r H)) := by
  unfold rnv
  obtain ⟨i0, hi0, hz0, hz1, hz2⟩ := info_parts run_info
  obtain ⟨tot, HT⟩ : ∃ tot, Hid (tot = acc ++ piecesL r (H.drop 0)) := ⟨_, rfl⟩
  rw [show acc ++ piecesL r H = tot from HT.out.symm]
  have H0 : Hid (OutSt w w.heap.size B base Ah nh ch H Al nl cl acc r (w.alloc (.cells #[.int .u64 (r.1 : Int), .int .u64 (r.2 : Int)] 47))) :=
    ⟨hown.alloc _, Far.of_own hown (Nat.le_refl _), heap_alloc_new w _, (below_box w _).mono hb, hrs.below ((below_box w _).mono hb) hB, hB, hb⟩
  clear hown hrs
  go_enter Try.func56, Try.ntmps56
  go_wp2_with fail
  go_loopg [0, 11] nh (fun gk vl vi wr => OutRel w w.heap.size B base nh Ah ch H tot gk vl vi wr)
  case atStart => exact ⟨Al, nl, cl, 0, acc, r, by omega, rfl, rfl, H0.out, HT.out, hr.1, hr.2, by omega⟩
  case round =>
    obtain ⟨Al, nl, cl, k, acc, r, hg, rfl, rfl, hst, htot, hr1, hr2, hnl⟩ := hrel
    have HG := Lib.hid hg
    have HT2 := Lib.hid htot
    have HS := Lib.hid hst
    have hq0 := hst.c0
    have hq1 := hst.c1
    have hXw := hst.lt
    have hf0 := frz_row (i := 0) hst.box
    unfold two64 at hr1 hr2
    clear hg htot H0 HT hst hr
    by_cases hk : k < nh
    · have hkI : (k : Int) < (nh : Int) := by omega
      have hk0 : (0 : Int) ≤ (k : Int) := by omega
      obtain ⟨b, o, h, rfl, hbB, hx, hc0, hc1, h1, h2⟩ := HS.out.rs.at_ hk
      have HDR : Hid (H.drop k = h :: H.drop (k + 1)) := by
        show _ = _
        rw [List.drop_eq_getElem_cons (by have := HS.out.rs.len; omega)]
        rw [List.getElem?_eq_getElem (by have := HS.out.rs.len; omega)] at hx
        injection hx with hx
        rw [hx]
      unfold two64 at h1 h2
      clear hx
      have hSh := Lib.hid (HS.out.alloc (.cells #[.int .u64 (h.1 : Int), .int .u64 (h.2 : Int)] 47))
      by_cases hfr : r.2 < h.1
      · have hI : (r.2 : Int) < (h.1 : Int) := by omega
        have HE : Hid (tot = acc ++ [r]) := by show _ = _; rw [HT2.out, HDR.out, pieces_far hfr]
        go_wp2_with (at_builtin; refine wpList_append_dstN _ rfl (.tmp 45) (.tmp 47) 38 38 rfl base 47 i0 _ 2 16 Try.underlying38 hi0 hz0 hz1 hz2 rfl Al nl cl (rvs acc) rfl (DstN.alloc (.inr hSh.out.own) _) _ 1 (rv r) rfl (run_src _ _ (by simp) r _ _ rfl rfl) (by omega) (by omega) (by simp; omega) ?_; intro A3 c3 w3 h1 h2 h3 h4 h5 h6)
        go_ret
        have hS3 := (hSh.out.alloc _).app (h2 (by omega)) h4 h5 h6
        rw [HE.out]
        exact ⟨A3, nl + 1, c3, rfl, hS3.own, hS3.bel⟩
      · have hI : ¬ (r.2 : Int) < (h.1 : Int) := by omega
        have HHOLE : Hid (∀ w3, (World.alloc (wr.alloc (.cells #[.int .u64 (h.1 : Int), .int .u64 (h.2 : Int)] 47)) (.cells #[.int .u64 (r.1 : Int), .int .u64 ((h.1 : Int) - 1)] 47)).grownBy w3 (if nl = cl then none else (Value.slice Al nl cl).ownBlock) → w3.cell? ⟨wr.heap.size, 1, none⟩ = some (.int .u64 (h.2 : Int))) := by
          intro w3 h5
          have h7 := (grown_keep (X := wr.heap.size) h5 (by simp; omega) (Far.of_own HS.out.own (Nat.le_refl _))).trans ((Below.heap_alloc _ _ _ (by simp)).trans (heap_alloc_new wr _))
          rw [cell_of_row w3 _ 1 _ _ _ h7]
          rfl
        by_cases hhi : r.2 ≤ h.2
        · have hI3 : (r.2 : Int) ≤ (h.2 : Int) := by omega
          by_cases hlo : r.1 < h.1
          · have hI2 : (r.1 : Int) < (h.1 : Int) := by omega
            have HE : Hid (tot = acc ++ [(r.1, h.1 - 1)]) := by show _ = _; rw [HT2.out, HDR.out, pieces_cut hfr hlo hhi]
            go_wp2_with (at_builtin; refine wpList_append_dstN _ rfl (.tmp 25) (.tmp 32) 38 38 rfl base 47 i0 _ 2 16 Try.underlying38 hi0 hz0 hz1 hz2 rfl Al nl cl (rvs acc) rfl (DstN.alloc (.inr hSh.out.own) _) _ 1 (rv (r.1, h.1 - 1)) rfl (run_src _ _ (by simp) (r.1, h.1 - 1) _ _ rfl (by simp; omega)) (by omega) (by omega) (by simp; omega) ?_; intro A3 c3 w3 h1 h2 h3 h4 h5 h6; have HS3 := Lib.hid ((hSh.out.alloc _).app (h2 (by omega)) h4 h5 h6); have hp1 := HS3.out.c1; have hp0 := HS3.out.c0; have hpf := frz_row (i := 0) HS3.out.box; have hh1 := HHOLE.out _ h5; have hzz := HS3.out.lt; clear h1 h2 h3 h4 h5 h6)
            go_ret
            rw [HE.out]
            exact ⟨A3, nl + 1, c3, rfl, HS3.out.own, HS3.out.bel⟩
          · have hI2 : ¬ (r.1 : Int) < (h.1 : Int) := by omega
            have HE : Hid (tot = acc) := by show _ = _; rw [HT2.out, HDR.out, pieces_none hfr hlo hhi, List.append_nil]
            go_wp2
            go_ret
            rw [HE.out]
            exact ⟨Al, nl, cl, rfl, hSh.out.own, hSh.out.bel⟩
        · have hI3 : ¬ (r.2 : Int) ≤ (h.2 : Int) := by omega
          have hI4 : (h.2 : Int) + 1 < 18446744073709551616 := by omega
          by_cases hlo : r.1 < h.1
          · have hI2 : (r.1 : Int) < (h.1 : Int) := by omega
            have HE : Hid (tot = acc ++ [(r.1, h.1 - 1)] ++ piecesL (h.2 + 1, r.2) (H.drop (k + 1))) := by show _ = _; rw [HT2.out, HDR.out, pieces_two hfr hlo hhi, List.append_assoc]
            go_wp2_with (at_builtin; refine wpList_append_dstN _ rfl (.tmp 25) (.tmp 32) 38 38 rfl base 47 i0 _ 2 16 Try.underlying38 hi0 hz0 hz1 hz2 rfl Al nl cl (rvs acc) rfl (DstN.alloc (.inr hSh.out.own) _) _ 1 (rv (r.1, h.1 - 1)) rfl (run_src _ _ (by simp) (r.1, h.1 - 1) _ _ rfl (by simp; omega)) (by omega) (by omega) (by simp; omega) ?_; intro A3 c3 w3 h1 h2 h3 h4 h5 h6; have HS3 := Lib.hid ((hSh.out.alloc _).app (h2 (by omega)) h4 h5 h6); have hp1 := HS3.out.c1; have hp0 := HS3.out.c0; have hpf := frz_row (i := 0) HS3.out.box; have hh1 := HHOLE.out _ h5; have hzz := HS3.out.lt; clear h1 h2 h3 h4 h5 h6)
            go_roundg (gk - 1)
            case measure => have := HG.out; omega
            case rel => exact ⟨A3, nl + 1, c3, k + 1, acc ++ [(r.1, h.1 - 1)], (h.2 + 1, r.2), by have := HG.out; omega, rfl, by go_num, by simpa using HS3.out.set (h.2 + 1), HE.out, by show h.2 + 1 < _; unfold two64; omega, hr2, by omega⟩
          · have hI2 : ¬ (r.1 : Int) < (h.1 : Int) := by omega
            have HE : Hid (tot = acc ++ piecesL (h.2 + 1, r.2) (H.drop (k + 1))) := by show _ = _; rw [HT2.out, HDR.out, pieces_on hfr hlo hhi]
            go_wp2
            go_roundg (gk - 1)
            case measure => have := HG.out; omega
            case rel => exact ⟨Al, nl, cl, k + 1, acc, (h.2 + 1, r.2), by have := HG.out; omega, rfl, by go_num, by simpa using (HS.out.set (h.2 + 1)).alloc _, HE.out, by show h.2 + 1 < _; unfold two64; omega, hr2, by omega⟩
    · have hkI : ¬ (k : Int) < (nh : Int) := by omega
      have hkn : k ≤ nh := by have := HG.out; omega
      have HE : Hid (tot = acc ++ [r]) := by show _ = _; rw [HT2.out, List.drop_eq_nil_of_le (by have := HS.out.rs.len; omega), pieces_nil]
      go_wp2_with (at_builtin; refine wpList_append_dstN _ rfl (.tmp 45) (.tmp 47) 38 38 rfl base 47 i0 _ 2 16 Try.underlying38 hi0 hz0 hz1 hz2 rfl Al nl cl (rvs acc) rfl (DstN.alloc (.inr HS.out.own) _) _ 1 (rv r) rfl (run_src _ _ rfl r _ _ rfl rfl) (by omega) (by omega) (by simp; omega) ?_; intro A3 c3 w3 h1 h2 h3 h4 h5 h6)
      go_ret
      have hS3 := (HS.out.alloc _).app (h2 (by omega)) h4 h5 h6
      rw [HE.out]
      exact ⟨A3, nl + 1, c3, rfl, hS3.own, hS3.bel⟩

/-! ### how many runs Less answers -/
theorem reachL_len (L : List Rn) (m : Nat) : (reachL L m).length ≤ L.length := by rw [reachL_drop, List.length_drop]; omega
theorem pieces_len2 (hs : List Rn) : ∀ (r : Rn) (m : Nat), r.2 < m → (piecesL r hs).length + (reachL hs m).length ≤ hs.length + 1 := by
  induction hs with
  | nil => intro r m _; simp [piecesL, reachL]
  | cons h hs ih =>
    intro r m hm
    have h1 := reachL_len (h :: hs) m
    have h2 := ih (h.2 + 1, r.2) m hm
    simp only [List.length_cons] at h1 ⊢
    rw [piecesL]
    by_cases ha : r.2 < h.1
    · rw [if_pos ha]; simp; omega
    · rw [if_neg ha, List.length_append]
      by_cases hb : r.2 ≤ h.2
      · rw [if_pos hb]; split <;> simp <;> omega
      · rw [if_neg hb, reachL_lo (by omega)]; split <;> simp <;> omega
theorem lessGo_len : ∀ (s hs acc : List Rn), Canon s → (lessGo acc s hs).length ≤ acc.length + s.length + (match s with | [] => 0 | r :: _ => (reachL hs r.1).length)
  | [], hs, acc, _ => by simp [lessGo]
  | r :: s, hs, acc, hc => by
    rw [lessGo]
    have ih := lessGo_len s (reachL hs r.1) (acc ++ piecesL r (reachL hs r.1)) hc.tail
    refine Nat.le_trans ih ?_
    simp only [List.length_append, List.length_cons]
    rcases s with _ | ⟨r', s⟩
    · have := pieces_len (reachL hs r.1) r
      simp only [List.length_nil]
      omega
    · have h1 := (List.pairwise_cons.1 hc.far).1 r' List.mem_cons_self
      have h2 := pieces_len2 (reachL hs r.1) r r'.1 (by omega)
      simp only [List.length_cons]
      omega
theorem less_len {s t : List Rn} (hs : Okl s) : (lessL s t).length ≤ s.length + t.length := by
  have h := lessGo_len s t [] hs.can
  unfold lessL
  rcases s with _ | ⟨r, s⟩
  · simp only [List.length_nil] at h ⊢; omega
  · have := reachL_len t r.1
    simp only [List.length_nil] at h
    omega

def LessRel (w : World) (B base n : Nat) (S tot : List Rn) (gk : Nat) (vl vh vi : Value) (wr : World) : Prop :=
  ∃ (Al Ah : Option Addr) (nl cl nh ch k : Nat) (acc H : List Rn), gk + k = n ∧ vl = .slice Al nl cl ∧ vh = .slice Ah nh ch ∧ vi = .int .i64 (k : Int) ∧ Own wr base Al nl cl acc ∧ Rs wr B Ah nh ch H ∧ Canon H ∧ nh ≤ 900 ∧
    tot = lessGo acc (S.drop k) H ∧ nl ≤ 1000 * k ∧ Below base w wr ∧ base ≤ wr.heap.size

set_option maxRecDepth 100000 in
set_option maxHeartbeats 1000000 in
theorem rless_any (w : World) (A A' : Option Addr) (n c n' c' : Nat) (S T : List Rn) (hs : Rs w w.heap.size A n c S) (ht : Rs w w.heap.size A' n' c' T) (hS : Okl S) (hT : Okl T) (hn : n ≤ 900) (hn' : n' ≤ 900) :
    Calls Try.prog 34 #[.agg #[.slice A n c], .agg #[.slice A' n' c']] w (SaysS w 0 (lessL S T)) := by
  obtain ⟨tot, HT⟩ : ∃ tot, Hid (tot = lessGo [] (S.drop 0) T) := ⟨_, rfl⟩
  rw [show lessL S T = tot from HT.out.symm]
  have HO : Hid (∀ q ∈ tot, q.1 < two64 ∧ q.2 < two64) := by
    have := (less_ok hS hT).lt
    rw [show lessL S T = tot from HT.out.symm] at this
    exact this
  have HCS := Lib.hid hs
  have HCT := Lib.hid ht
  have HSO := Lib.hid hS
  have HTO := Lib.hid hT
  clear hs ht hS hT
  go_enter Try.func34, Try.ntmps34
  go_wp2_with fail
  have hb3 : Below w.heap.size w (((w.alloc (Obj.cells #[.slice A n c] 44)).alloc (Obj.cells #[.slice A' n' c'] 44)).alloc (Obj.cells #[.slice none 0 0] 44)) := ((below_box w _).alloc (by simp) _).alloc (by simp; omega) _
  have hR : (((w.alloc (Obj.cells #[.slice A n c] 44)).alloc (Obj.cells #[.slice A' n' c'] 44)).alloc (Obj.cells #[.slice none 0 0] 44)).heap[w.heap.size + 1 + 1]? = some (.cells #[.slice none 0 0] 44 (0, 0)) := by simpa using heap_alloc_new ((w.alloc (Obj.cells #[.slice A n c] 44)).alloc (Obj.cells #[.slice A' n' c'] 44)) (Obj.cells #[.slice none 0 0] 44)
  have hz3 : (((w.alloc (Obj.cells #[.slice A n c] 44)).alloc (Obj.cells #[.slice A' n' c'] 44)).alloc (Obj.cells #[.slice none 0 0] 44)).heap.size = w.heap.size + 1 + 1 + 1 := by simp
  generalize ((w.alloc (Obj.cells #[.slice A n c] 44)).alloc (Obj.cells #[.slice A' n' c'] 44)).alloc (Obj.cells #[.slice none 0 0] 44) = w3 at *
  have HCS3 := Lib.hid (HCS.out.below hb3 (Nat.le_refl _))
  have HCT3 := Lib.hid (HCT.out.below hb3 (Nat.le_refl _))
  obtain ⟨base, HBASE⟩ : ∃ base, Hid (base = w.heap.size + 1 + 1 + 1) := ⟨_, rfl⟩
  have HB3 := Lib.hid hb3
  have HR3 := Lib.hid hR
  have HZ3 := Lib.hid hz3
  clear HCS HCT hb3 hR hz3
  go_loopg [5, 6, 14] n (fun gk vl vh vi wr => LessRel w3 w.heap.size base n S tot gk vl vh vi wr)
  case atStart =>
    have := HZ3.out
    have := HBASE.out
    exact ⟨none, A', 0, 0, n', c', 0, [], T, by omega, rfl, rfl, rfl, ⟨rfl, .inl ⟨rfl, rfl⟩⟩, HCT3.out, HTO.out.can, hn', HT.out, by omega, Below.refl _ _, by omega⟩
  case round =>
    obtain ⟨Al, Ah, nl, cl, nh, ch, k, acc, H, hg, rfl, rfl, rfl, hown, hrs, hcan, hnh, htot, hnl, hbel, hzr⟩ := hrel
    have HG := Lib.hid hg
    have HT2 := Lib.hid htot
    have HOW := Lib.hid hown
    have HRS := Lib.hid hrs
    have HBB : Hid (w.heap.size ≤ base) := by have := HBASE.out; show _ ≤ _; omega
    have hsr := HCS3.out.below hbel HBB.out
    clear hg htot hown hrs HT HCT3
    by_cases hk : k < n
    · have hkI : (k : Int) < (n : Int) := by omega
      have hk0 : (0 : Int) ≤ (k : Int) := by omega
      obtain ⟨b, o, r, rfl, hbB, hx, hc0, hc1, h1, h2⟩ := hsr.at_ hk
      have HDR : Hid (S.drop k = r :: S.drop (k + 1)) := by
        show _ = _
        rw [List.drop_eq_getElem_cons (by have := hsr.len; omega)]
        rw [List.getElem?_eq_getElem (by have := hsr.len; omega)] at hx
        injection hx with hx
        rw [hx]
      clear hx hsr
      have hob := Lib.hid (HOW.out.alloc (.cells #[.int .u64 (r.1 : Int), .int .u64 (r.2 : Int)] 47))
      have hrb := Lib.hid (HRS.out.below ((below_box wr (.cells #[.int .u64 (r.1 : Int), .int .u64 (r.2 : Int)] 47)).mono hzr) HBB.out)
      go_wp2_with fail
      have hq0 : (wr.alloc (Obj.cells #[.int .u64 (r.1 : Int), .int .u64 (r.2 : Int)] 47)).heap[wr.heap.size]? = some (.cells #[.int .u64 (r.1 : Int), .int .u64 (r.2 : Int)] 47 (0, 0)) := heap_alloc_new wr _
      have HBX : Hid (Below base w3 (wr.alloc (Obj.cells #[.int .u64 (r.1 : Int), .int .u64 (r.2 : Int)] 47))) := hbel.trans ((below_box wr _).mono hzr)
      have hz1 : (wr.alloc (Obj.cells #[.int .u64 (r.1 : Int), .int .u64 (r.2 : Int)] 47)).heap.size = wr.heap.size + 1 := by simp
      generalize wr.alloc (Obj.cells #[.int .u64 (r.1 : Int), .int .u64 (r.2 : Int)] 47) = wb at *
      refine (reach_any wb w.heap.size Ah nh ch r.1 H hrb.out (by have := HBB.out; omega) hcan (by omega)).mono ?_
      rintro e w5 ⟨A5, n5, c5, rfl, hrs5, hb5⟩
      have hlt : wr.heap.size < wb.heap.size := by omega
      have hrow := (hb5.block _ hlt).trans hq0
      have hd0 : w5.cell? ⟨wr.heap.size, 0, none⟩ = some (.int .u64 (r.1 : Int)) := by rw [cell_of_row w5 _ 0 _ _ _ hrow]; rfl
      have hd1 : w5.cell? ⟨wr.heap.size, 1, none⟩ = some (.int .u64 (r.2 : Int)) := by rw [cell_of_row w5 _ 1 _ _ _ hrow]; rfl
      have HOW5 : Hid (Own w5 base Al nl cl acc) := hob.out.kept (only_below' hb5) (by cases (Value.slice Al nl cl).ownBlock <;> simp)
      have HRS5 := Lib.hid hrs5
      have HB5 : Hid (Below base w3 w5 ∧ base ≤ w5.heap.size) := ⟨HBX.out.trans (hb5.mono (by omega)), Nat.le_trans (by omega) hb5.size⟩
      have hn5 : n5 ≤ nh := by rw [← hrs5.len, ← hrb.out.len]; exact reachL_len _ _
      clear hrs5 hb5 hrow hq0 hz1 hlt hob hrb HOW HRS
      go_wp2_with fail
      refine (outside_any w5 w.heap.size base Al nl cl acc r A5 n5 c5 (reachL H r.1) HOW5.out HRS5.out HBB.out HB5.out.2 ⟨h1, h2⟩ (by omega) (by omega)).mono ?_
      rintro e w6 ⟨A6, n6, c6, rfl, hown6, hb6⟩
      have hl6 : n6 = nl + (piecesL r (reachL H r.1)).length := by
        have e1 := hown6.1
        have e2 := HOW5.out.1
        rw [rvs_len] at e1 e2
        rw [List.length_append] at e1
        omega
      have hp6 := pieces_len (reachL H r.1) r
      rw [HRS5.out.len] at hp6
      have HH : Hid (n6 ≤ nl + 1000) := by show _ ≤ _; omega
      have HRS6 := Lib.hid (HRS5.out.below hb6 HBB.out)
      have HB6 : Hid (Below base w3 w6 ∧ base ≤ w6.heap.size) := ⟨HB5.out.1.trans hb6, Nat.le_trans HB5.out.2 hb6.size⟩
      have HOW6 := Lib.hid hown6
      have HE : Hid (tot = lessGo (acc ++ piecesL r (reachL H r.1)) (S.drop (k + 1)) (reachL H r.1)) := by show _ = _; rw [HT2.out, HDR.out, lessGo]
      have HCR : Hid (Canon (reachL H r.1)) := by rw [reachL_drop]; exact ⟨List.Pairwise.sublist (List.drop_sublist _ _) hcan.far, fun q hq => hcan.ok q (List.mem_of_mem_drop hq)⟩
      clear hl6 hp6 hown6 hb6 hd0 hd1
      go_wp2
      go_roundg (gk - 1)
      case measure => have := HG.out; omega
      case rel => exact ⟨A6, A5, n6, c6, n5, c5, k + 1, _, _, by have := HG.out; omega, rfl, rfl, by go_num, HOW6.out, HRS6.out, HCR.out, by omega, HE.out, by have := HH.out; omega, HB6.out.1, HB6.out.2⟩
    · have hkI : ¬ (k : Int) < (n : Int) := by omega
      have HE : Hid (tot = acc) := by show _ = _; rw [HT2.out, List.drop_eq_nil_of_le (by have := hsr.len; omega), lessGo]
      have hR5 := (hbel.block (w.heap.size + 1 + 1) (by have := HBASE.out; omega)).trans HR3.out
      have hq0 : wr.cell? ⟨w.heap.size + 1 + 1, 0, none⟩ = some (.slice none 0 0) := by rw [cell_of_row wr _ 0 _ _ _ hR5]; rfl
      have hf0 := frz_row (i := 0) hR5
      have hown6 := HOW.out.kept (set_grown wr (w.heap.size + 1 + 1) 0 (.slice Al nl cl)) (own_ne HOW.out (by have := HBASE.out; omega))
      have hb6 : Below w.heap.size w (wr.setCell ⟨w.heap.size + 1 + 1, 0, none⟩ (.slice Al nl cl)) := (HB3.out.trans (hbel.mono HBB.out)).setCell (by show w.heap.size ≤ w.heap.size + 1 + 1; omega) _
      have hc6 : (wr.setCell ⟨w.heap.size + 1 + 1, 0, none⟩ (.slice Al nl cl)).cell? ⟨w.heap.size + 1 + 1, 0, none⟩ = some (.slice Al nl cl) := World.cell?_setCell_same _ _ _ hq0
      clear hsr hR5 hbel
      go_wp2
      refine bodyPost_ret (v := .agg #[.slice Al nl cl]) (by simp [results, Try.results34, go_sem, hc6]) rfl ?_
      have ho := HO.out
      rw [HE.out] at ho ⊢
      exact ⟨Al, nl, cl, rfl, St.of_own hown6 ho, fun b o hb => .inr (by have := (hown6.lt b (by rw [hb]; rfl)).1; have := HBB.out; omega), hb6⟩
end Go.Proofs.Ytbnhemmklbbnmaa

/-! ## RunsCut -/
namespace Go.Proofs.Ytbnhemmklbbnmaa
open Go.RowKit

def belowL (L : List Rn) (v : Nat) : List Rn := lessL L (spanL [] v (two64 - 1))
def fromL (L : List Rn) (v : Nat) : List Rn := if v = 0 then L else lessL L (spanL [] 0 (v - 1))
theorem span1_len (f t : Nat) (hf : f < two64) (ht : t < two64) : (spanL [] f t).length ≤ 1 := span_len Okl.nil hf ht

set_option maxRecDepth 100000 in
set_option maxHeartbeats 400000 in
theorem below_any (w : World) (A : Option Addr) (n c v : Nat) (L : List Rn) (h : Rs w w.heap.size A n c L) (hL : Okl L) (hn : n ≤ 900) (hv : v < two64) :
    Calls Try.prog 32 #[.agg #[.slice A n c], .int .u64 (v : Int)] w (SaysS w 0 (belowL L v)) := by
  have H := Lib.hid h
  have HL := Lib.hid hL
  obtain ⟨R, HR⟩ : ∃ R, Hid (R = belowL L v) := ⟨_, rfl⟩
  rw [← HR.out]
  clear h hL
  go_enter Try.func32, Try.ntmps32
  go_wp2_with fail
  have hb2 : Below w.heap.size w ((w.alloc (Obj.cells #[.slice A n c] 44)).alloc (Obj.cells #[.slice none 0 0] 44)) := (below_box w _).alloc (by simp) _
  have hR : ((w.alloc (Obj.cells #[.slice A n c] 44)).alloc (Obj.cells #[.slice none 0 0] 44)).heap[w.heap.size + 1]? = some (.cells #[.slice none 0 0] 44 (0, 0)) := by simpa using heap_alloc_new (w.alloc (Obj.cells #[.slice A n c] 44)) (Obj.cells #[.slice none 0 0] 44)
  have hc0 : ((w.alloc (Obj.cells #[.slice A n c] 44)).alloc (Obj.cells #[.slice none 0 0] 44)).cell? ⟨w.heap.size, 0, none⟩ = some (.slice A n c) := (World.cell?_alloc_lt _ _ ⟨w.heap.size, 0, none⟩ (by simp)).trans (cell_last w _ _ _ 0 rfl)
  have hz2 : w.heap.size + 1 < ((w.alloc (Obj.cells #[.slice A n c] 44)).alloc (Obj.cells #[.slice none 0 0] 44)).heap.size := by simp
  generalize (w.alloc (Obj.cells #[.slice A n c] 44)).alloc (Obj.cells #[.slice none 0 0] 44) = w2 at *
  have HA2 := Lib.hid (H.out.on hb2 (Nat.le_refl _))
  have HB2 := Lib.hid hb2
  have HRR := Lib.hid hR
  clear hb2 hR
  go_region_held3 (fun w' => w'.cell? ⟨w.heap.size, 0, none⟩ = some (.slice A n c)) (first | exact hc0 | exact hk1 | exact hk2 | exact hk3) (first
    | (go_at_call 13
       refine (span_any _ 0 none 0 0 v 18446744073709551615 [] (St.nil_ _ _) (Nat.zero_le _) hv (by unfold two64; omega) (by omega)).mono ?_
       rintro e w3 ⟨A3, n3, c3, rfl, hs3, hp3, hb3⟩
       have hk1 : w3.cell? ⟨w.heap.size, 0, none⟩ = some (.slice A n c) := (hb3.cell (p := ⟨w.heap.size, 0, none⟩) (by show w.heap.size < w2.heap.size; omega)).trans hc0
       have HB3 : Hid (Below w2.heap.size w2 w3) := (below_drewN (Below.refl _ _) 1).trans hb3
       have HA3 := Lib.hid (HA2.out.on HB3.out (Nat.le_refl _))
       have HS3 := Lib.hid hs3)
    | (go_at_call 34
       refine (rless_any _ A A3 n c n3 c3 L _ HA3.out HS3.out.rs HL.out (span_ok Okl.nil hv (by unfold two64; omega)) hn (by have := span1_len v 18446744073709551615 hv (by unfold two64; omega); rw [HS3.out.rs.len] at this; omega)).mono ?_
       rintro e w4 ⟨A4, n4, c4, rfl, hs4, hp4, hb4⟩
       have hk2 : w4.cell? ⟨w.heap.size, 0, none⟩ = some (.slice A n c) := (hb4.cell (p := ⟨w.heap.size, 0, none⟩) (by show w.heap.size < w3.heap.size; have := HB3.out.size; omega)).trans hk1
       have HB4 : Hid (Below w2.heap.size w2 w4) := HB3.out.trans (hb4.mono HB3.out.size)
       have hR4 := (HB4.out.block _ hz2).trans HRR.out
       have hq0 : w4.cell? ⟨w.heap.size + 1, 0, none⟩ = some (.slice none 0 0) := by rw [cell_of_row w4 _ 0 _ _ _ hR4]; rfl
       have hf0 := frz_row (i := 0) hR4
       have hc6 : (w4.setCell ⟨w.heap.size + 1, 0, none⟩ (.slice A4 n4 c4)).cell? ⟨w.heap.size + 1, 0, none⟩ = some (.slice A4 n4 c4) := World.cell?_setCell_same _ _ _ hq0
       have hk3 : (w4.setCell ⟨w.heap.size + 1, 0, none⟩ (.slice A4 n4 c4)).cell? ⟨w.heap.size, 0, none⟩ = some (.slice A n c) := (World.cell?_setCell_other w4 ⟨w.heap.size + 1, 0, none⟩ ⟨w.heap.size, 0, none⟩ _ (by simp)).trans hk2
       clear hR4))
  clear hk1 hk2 hk3
  go_wp2
  refine bodyPost_ret (v := .agg #[.slice A4 n4 c4]) (by simp [results, Try.results32, go_sem, hc6]) rfl ?_
  rw [HR.out]
  exact res_set (M := w2.heap.size) (HB2.out.trans (HB4.out.mono (by omega))) (by omega) hz2 hs4 (fun b o e => (hp4 b o e).imp id (fun h => by have := HB3.out.size; omega)) (Nat.zero_le _) _
set_option maxRecDepth 100000 in
set_option maxHeartbeats 400000 in
theorem from_any_pos (w : World) (A : Option Addr) (n c v u : Nat) (L : List Rn) (h : Rs w w.heap.size A n c L) (hL : Okl L) (hn : n ≤ 900) (hv : v < two64) (huv : v = u + 1) :
    Calls Try.prog 33 #[.agg #[.slice A n c], .int .u64 (v : Int)] w (SaysS w 0 (fromL L v)) := by
  have H := Lib.hid h
  have HL := Lib.hid hL
  obtain ⟨R, HR⟩ : ∃ R, Hid (R = fromL L v) := ⟨_, rfl⟩
  rw [← HR.out]
  have HUV := Lib.hid huv
  have hv0 : ((v : Int) == 0) = false := by simp; omega
  have hv1 : (1 : Int) ≤ (v : Int) := by omega
  have hvu : IntKind.u64.wrap ((v : Int) - 1) = (u : Int) := by rw [IntKind.wrap_u64]; unfold two64 at hv; omega
  have hul : u < two64 := by omega
  clear h hL huv hv
  go_enter Try.func33, Try.ntmps33
  go_wp2_with fail
  have hb2 : Below w.heap.size w ((w.alloc (Obj.cells #[.slice A n c] 44)).alloc (Obj.cells #[.slice none 0 0] 44)) := (below_box w _).alloc (by simp) _
  have hR : ((w.alloc (Obj.cells #[.slice A n c] 44)).alloc (Obj.cells #[.slice none 0 0] 44)).heap[w.heap.size + 1]? = some (.cells #[.slice none 0 0] 44 (0, 0)) := by simpa using heap_alloc_new (w.alloc (Obj.cells #[.slice A n c] 44)) (Obj.cells #[.slice none 0 0] 44)
  have hc0 : ((w.alloc (Obj.cells #[.slice A n c] 44)).alloc (Obj.cells #[.slice none 0 0] 44)).cell? ⟨w.heap.size, 0, none⟩ = some (.slice A n c) := (World.cell?_alloc_lt _ _ ⟨w.heap.size, 0, none⟩ (by simp)).trans (cell_last w _ _ _ 0 rfl)
  have hz2 : w.heap.size + 1 < ((w.alloc (Obj.cells #[.slice A n c] 44)).alloc (Obj.cells #[.slice none 0 0] 44)).heap.size := by simp
  generalize (w.alloc (Obj.cells #[.slice A n c] 44)).alloc (Obj.cells #[.slice none 0 0] 44) = w2 at *
  have HA2 := Lib.hid (H.out.on hb2 (Nat.le_refl _))
  have HB2 := Lib.hid hb2
  have HRR := Lib.hid hR
  clear hb2 hR
  go_region_held3 (fun w' => w'.cell? ⟨w.heap.size, 0, none⟩ = some (.slice A n c)) (first | exact hc0 | exact hk1 | exact hk2 | exact hk3) (first
    | (go_at_call 13
       refine (span_any _ 0 none 0 0 0 u [] (St.nil_ _ _) (Nat.zero_le _) (by unfold two64; omega) hul (by omega)).mono ?_
       rintro e w3 ⟨A3, n3, c3, rfl, hs3, hp3, hb3⟩
       have hk1 : w3.cell? ⟨w.heap.size, 0, none⟩ = some (.slice A n c) := (hb3.cell (p := ⟨w.heap.size, 0, none⟩) (by show w.heap.size < w2.heap.size; omega)).trans hc0
       have HB3 : Hid (Below w2.heap.size w2 w3) := (below_drewN (Below.refl _ _) 1).trans hb3
       have HA3 := Lib.hid (HA2.out.on HB3.out (Nat.le_refl _))
       have HS3 := Lib.hid hs3)
    | (go_at_call 34
       refine (rless_any _ A A3 n c n3 c3 L _ HA3.out HS3.out.rs HL.out (span_ok Okl.nil (by unfold two64; omega) hul) hn (by have := span1_len 0 u (by unfold two64; omega) hul; rw [HS3.out.rs.len] at this; omega)).mono ?_
       rintro e w4 ⟨A4, n4, c4, rfl, hs4, hp4, hb4⟩
       have hk2 : w4.cell? ⟨w.heap.size, 0, none⟩ = some (.slice A n c) := (hb4.cell (p := ⟨w.heap.size, 0, none⟩) (by show w.heap.size < w3.heap.size; have := HB3.out.size; omega)).trans hk1
       have HB4 : Hid (Below w2.heap.size w2 w4) := HB3.out.trans (hb4.mono HB3.out.size)
       have hR4 := (HB4.out.block _ hz2).trans HRR.out
       have hq0 : w4.cell? ⟨w.heap.size + 1, 0, none⟩ = some (.slice none 0 0) := by rw [cell_of_row w4 _ 0 _ _ _ hR4]; rfl
       have hf0 := frz_row (i := 0) hR4
       have hc6 : (w4.setCell ⟨w.heap.size + 1, 0, none⟩ (.slice A4 n4 c4)).cell? ⟨w.heap.size + 1, 0, none⟩ = some (.slice A4 n4 c4) := World.cell?_setCell_same _ _ _ hq0
       have hk3 : (w4.setCell ⟨w.heap.size + 1, 0, none⟩ (.slice A4 n4 c4)).cell? ⟨w.heap.size, 0, none⟩ = some (.slice A n c) := (World.cell?_setCell_other w4 ⟨w.heap.size + 1, 0, none⟩ ⟨w.heap.size, 0, none⟩ _ (by simp)).trans hk2
       clear hR4))
  clear hk1 hk2 hk3
  go_wp2
  refine bodyPost_ret (v := .agg #[.slice A4 n4 c4]) (by simp [results, Try.results33, go_sem, hc6]) rfl ?_
  rw [HR.out, show fromL L v = lessL L (spanL [] 0 u) from by unfold fromL; rw [if_neg (by have := HUV.out; omega), HUV.out]; rfl]
  exact res_set (M := w2.heap.size) (HB2.out.trans (HB4.out.mono (by omega))) (by omega) hz2 hs4 (fun b o e => (hp4 b o e).imp id (fun h => by have := HB3.out.size; omega)) (Nat.zero_le _) _
set_option maxRecDepth 100000 in
set_option maxHeartbeats 400000 in
theorem from_any_zero (w : World) (A : Option Addr) (n c : Nat) :
    Calls Try.prog 33 #[.agg #[.slice A n c], .int .u64 0] w (Says w (.agg #[.slice A n c])) := by
  go_enter Try.func33, Try.ntmps33
  go_wp2
  have hc : ((w.alloc (Obj.cells #[.slice A n c] 44)).alloc (Obj.cells #[.slice A n c] 44)).cell? ⟨w.heap.size + 1, 0, none⟩ = some (.slice A n c) := cell_last (w.alloc (Obj.cells #[.slice A n c] 44)) _ _ _ 0 (by simp)
  have hb : Below w.heap.size w ((w.alloc (Obj.cells #[.slice A n c] 44)).alloc (Obj.cells #[.slice A n c] 44)) := (below_box w _).alloc (by simp) _
  refine bodyPost_ret (v := .agg #[.slice A n c]) (by simp [results, Try.results33, go_sem, hc]) rfl ?_
  exact ⟨rfl, hb⟩
theorem from_any (w : World) (A : Option Addr) (n c v : Nat) (L : List Rn) (h : St w w.heap.size A n c L) (hL : Okl L) (hn : n ≤ 900) (hv : v < two64) :
    Calls Try.prog 33 #[.agg #[.slice A n c], .int .u64 (v : Int)] w (SaysS w w.heap.size (fromL L v)) := by
  rcases v with _ | u
  · refine (from_any_zero w A n c).mono ?_
    rintro e w' ⟨rfl, hb⟩
    exact ⟨A, n, c, rfl, h.on hb (Nat.le_refl _), fun b o e => .inl (h.lies b o e), hb⟩
  · refine (from_any_pos w A n c (u + 1) u L h.rs hL hn hv rfl).mono ?_
    rintro e w' ⟨A', n', c', rfl, hs, hp, hb⟩
    exact ⟨A', n', c', rfl, hs, fun b o e => (hp b o e).imp (fun h => by omega) id, hb⟩
end Go.Proofs.Ytbnhemmklbbnmaa

/-! ## RunsEq -/
namespace Go.Proofs.Ytbnhemmklbbnmaa
open Go.RowKit

def sameR (L M : List Rn) : Bool := decide (L = M)
theorem take_eq_succR {l m : List Rn} {j : Nat} {x : Rn} (h1 : l[j]? = some x) (h2 : m[j]? = some x) (h : l.take j = m.take j) : l.take (j + 1) = m.take (j + 1) := by
  rw [List.take_add_one, List.take_add_one, h, h1, h2]
def SameRelR (w : World) (l m : List Rn) (k : Nat) (i : Value) (wr : World) : Prop :=
  ∃ (j q : Nat), k + j = l.length ∧ i = .int .i64 (j : Int) ∧ wr = w.drewN q ∧ l.take j = m.take j

theorem eqIn_eqR (a b : Rn) (w : World) : (Op.equalIn 10000 47 (.agg #[.int .u64 (a.1 : Int), .int .u64 (a.2 : Int)]) (.agg #[.int .u64 (b.1 : Int), .int .u64 (b.2 : Int)])).run Try.prog w = .ok (decide (a = b)) w := by
  have hS : Try.prog.underlying 47 = some (.struct (Try.prog.fieldsOf 47)) := by kernel_rfl
  have hp : Try.prog.stoodInHeld 47 = false := by kernel_rfl
  have u3 := Try.underlying34
  have a3 := Try.isAgg34
  have z3 := Try.sizeOf34
  rw [show (10000 : Nat) = 9999 + 1 from rfl, run_equalIn_agg w 9999 47 _ _ hS hp]
  simp only [Program.fieldsOf, Try.underlying47]
  go_simp
  obtain ⟨a1, a2⟩ := a
  obtain ⟨b1, b2⟩ := b
  by_cases h1 : a1 = b1 <;> by_cases h2 : a2 = b2 <;> simp [h1, h2] <;> omega
theorem guard_eqR : Try.prog.eqGuardType Try.prog.depth 47 = false := by kernel_rfl
set_option maxRecDepth 100000 in
set_option maxHeartbeats 400000 in
theorem eqR_any (w : World) (B : Nat) (A A' : Option Addr) (n c n' c' : Nat) (l l' : List Rn) (hs : Rs w B A n c l) (hs' : Rs w B A' n' c' l') :
    Calls Try.prog 53 #[.slice A n c, .slice A' n' c'] w fun e w' => e = .returned (.bool (sameR l l')) ∧ ∃ q, w' = w.drewN q := by
  have hle := hs.sn.le
  have hmax := hs.sn.max
  have hle' := hs'.sn.le
  have hmax' := hs'.sn.max
  unfold maxLen at hmax hmax'
  have hlen := Lib.hid hs.len
  have hlen' := Lib.hid hs'.len
  have hG := guard_eqR
  by_cases hnn : n = n'
  · subst hnn
    have HS := Lib.hid hs; clear hs
    have HS' := Lib.hid hs'; clear hs'
    have hne : ((n : Int) != (n : Int)) = false := by simp
    go_enter Try.func53, Try.ntmps53
    go_wp2
    go_loopg [13] n (fun k i wr => SameRelR w l l' k i wr)
    case atStart => exact ⟨0, 0, by have := hlen.out; omega, rfl, rfl, rfl⟩
    case round =>
      obtain ⟨j, q, hj, rfl, rfl, hq⟩ := hrel
      have HJ := Lib.hid hj; clear hj
      have HQ := Lib.hid hq; clear hq
      by_cases hlt : j < n
      · obtain ⟨b, o, x, rfl, _, hx, hc0, hc1, _, _⟩ := HS.out.at_ hlt
        obtain ⟨b', o', x', rfl, _, hx', hc0', hc1', _, _⟩ := HS'.out.at_ hlt
        have HX := Lib.hid hx; clear hx
        have HX' := Lib.hid hx'; clear hx'
        have hj0 : (0 : Int) ≤ (j : Int) := by omega
        have hjn : (j : Int) < (n : Int) := by omega
        have he := eqIn_eqR x x'
        by_cases hxx : x = x'
        · rw [decide_eq_true hxx] at he
          have HXX := Lib.hid hxx; clear hxx
          go_wp2
          go_quiet (fail)
          go_wp2
          go_roundg (gk - 1)
          case measure => have := HJ.out; have := hlen.out; omega
          case rel => exact ⟨j + 1, _, by have := HJ.out; have := hlen.out; omega, by go_num, rfl, take_eq_succR HX.out (by rw [HX'.out, HXX.out]) HQ.out⟩
        · rw [decide_eq_false hxx] at he
          have HXX := Lib.hid hxx; clear hxx
          go_wp2
          go_quiet (fail)
          go_wp2
          go_ret
          have : sameR l l' = false := by
            unfold sameR
            rw [decide_eq_false_iff_not]
            rintro rfl
            have h1 := HX.out
            rw [HX'.out] at h1
            injection h1 with h1
            exact HXX.out h1.symm
          exact ⟨by rw [this]; rfl, _, World.drewN_drewN ..⟩
      · have hjj : j = n := by have := HJ.out; have := hlen.out; omega
        have : sameR l l' = true := by
          have h1 := HQ.out
          rw [List.take_of_length_le (by have := hlen.out; omega), List.take_of_length_le (by have := hlen'.out; omega)] at h1
          unfold sameR
          rw [h1]
          simp
        have HT := Lib.hid this
        clear this hjj
        go_wp2
        go_ret
        exact ⟨by rw [HT.out]; rfl, _, rfl⟩
  · have hne : ((n : Int) != (n' : Int)) = true := by simp; omega
    go_enter Try.func53, Try.ntmps53
    go_wp2
    go_ret
    have : sameR l l' = false := by
      unfold sameR
      rw [decide_eq_false_iff_not]
      rintro rfl
      exact hnn (hlen.out.symm.trans hlen'.out)
    exact ⟨by rw [this]; rfl, 0, rfl⟩

theorem eqIn_refSameR (a b : Rn) (w : World) : (Op.equalIn 10000 49 (.agg #[.int .u64 (a.1 : Int), .int .u64 (a.2 : Int)]) (.agg #[.int .u64 (b.1 : Int), .int .u64 (b.2 : Int)])).run Try.prog w = .ok (decide (a = b)) w := by
  have hS : Try.prog.underlying 49 = some (.struct (Try.prog.fieldsOf 49)) := by kernel_rfl
  have hp : Try.prog.stoodInHeld 49 = false := by kernel_rfl
  have u3 := Try.underlying34
  have a3 := Try.isAgg34
  have z3 := Try.sizeOf34
  rw [show (10000 : Nat) = 9999 + 1 from rfl, run_equalIn_agg w 9999 49 _ _ hS hp]
  simp only [Program.fieldsOf, Try.underlying49]
  go_simp
  obtain ⟨a1, a2⟩ := a
  obtain ⟨b1, b2⟩ := b
  by_cases h1 : a1 = b1 <;> by_cases h2 : a2 = b2 <;> simp [h1, h2] <;> omega
theorem guard_refSameR : Try.prog.eqGuardType Try.prog.depth 49 = false := by kernel_rfl
theorem below_drewN' (w : World) (q : Nat) : Below w.heap.size w (w.drewN q) := below_drewN (Below.refl _ _) q
set_option maxHeartbeats 400000 in
theorem setSame_any (w : World) (A A' : Option Addr) (n c n' c' : Nat) (l l' : List Rn) (hs : Rs w w.heap.size A n c l) (hs' : Rs w w.heap.size A' n' c' l') :
    Calls Try.prog 28 #[.agg #[.slice A n c], .agg #[.slice A' n' c']] w (Says w (.bool (sameR l l'))) := by
  have H := Lib.hid hs
  have H' := Lib.hid hs'
  clear hs hs'
  go_enter Try.func28, Try.ntmps28
  go_wp2_with fail
  refine (eqR_any _ w.heap.size A A' n c n' c' l l' ((H.out.alloc (Nat.le_refl _) _).alloc (by simp) _) ((H'.out.alloc (Nat.le_refl _) _).alloc (by simp) _)).mono ?_
  rintro e w' ⟨rfl, q, rfl⟩
  go_wp2
  go_ret
  exact ⟨rfl, below_drewN ((below_box w _).alloc (by simp) _) q⟩

/-! ### Clone, Runs -/
theorem own_noneR (w : World) : (w.alloc (.cells #[] 47)).ownsRow w.heap.size 47 2 (.slice (some ⟨w.heap.size, 0, none⟩) 0 0) 0 (rvs []) :=
  ⟨rfl, .inr ⟨w.heap.size, 0, _, rfl, Nat.le_refl _, heap_alloc_new w _, Nat.le_refl _, by unfold maxLen; omega, rfl, rfl⟩⟩
theorem eqIn_nilR (w : World) (d : Nat) (a : Option Addr) (l c : Nat) : (Op.equalIn (d + 1) 38 (.slice a l c) (.slice none 0 0)).run Try.prog w = .ok a.isNone w := by
  cases a <;> simp [Op.equalIn, run_underlying Try.underlying38]
theorem eql_nilR (w : World) (a : Option Addr) (l c : Nat) : (binOp .eql 38 (.slice a l c) (.slice none 0 0)).run Try.prog w = .ok (.bool a.isNone) w := by
  have h : (Op.equal 38 (.slice a l c) (.slice none 0 0)).run Try.prog w = .ok a.isNone w := eqIn_nilR w 9999 a l c
  simp [binOp, h]
set_option maxHeartbeats 400000 in
theorem cloneR_any (w : World) (A : Option Addr) (n c : Nat) (l : List Rn) (hs : Rs w w.heap.size A n c l) (hb : n ≤ 1000000) :
    Calls Try.prog 85 #[.slice A n c] w (SaysOwn w w.heap.size l) := by
  obtain ⟨i0, hi0, hz0, hz1, hz2⟩ := info_parts run_info
  rcases A with _ | ad
  · have hn : n = 0 := by
      rcases Nat.eq_zero_or_pos n with h | h
      · exact h
      · obtain ⟨b, o, h1, _⟩ := hs.sn.cell (by omega)
        cases h1
    subst hn
    have hl : l = [] := List.eq_nil_of_length_eq_zero hs.len
    subst hl
    have hq := eql_nilR w none 0 c
    go_enter Try.func85, Try.ntmps85
    go_wp2_with fail
    go_ret
    exact ⟨none, 0, 0, rfl, ⟨rfl, .inl ⟨rfl, rfl⟩⟩, Below.refl _ _⟩
  · have hq := eql_nilR w (some ad) n c
    have H := Lib.hid hs
    clear hs
    go_enter Try.func85, Try.ntmps85
    go_wp2_with (at_builtin; refine wpList_append_dstN _ rfl (.tmp 5) (.tmp 6) 38 38 rfl w.heap.size 47 i0 _ 2 16 Try.underlying38 hi0 hz0 hz1 hz2 rfl _ 0 0 (rvs []) rfl (.inr (own_noneR w)) _ n (rvs l) rfl ((H.out.alloc (Nat.le_refl _) _).sn.src Try.underlying38 (rvs_one l)) (by omega) (by omega) (by simp) ?_; intro A3 c3 w3 h1 h2 h3 h4 h5 h6)
    go_ret
    exact ⟨A3, 0 + n, c3, by simp, h3 (own_noneR w), ((Below.refl _ w).alloc (Nat.le_refl _) _).trans h4⟩
theorem SaysOwn.of {w w1 w' : World} {L : List Rn} {e : Ending} (h : SaysOwn w1 w1.heap.size L e w') (hb : Below w.heap.size w w1) : SaysOwn w w.heap.size L e w' := by
  obtain ⟨A, n, c, he, hown, hbel⟩ := h
  have hz := hb.size
  refine ⟨A, n, c, he, ⟨hown.1, ?_⟩, hb.trans (hbel.mono hz)⟩
  rcases hown.2 with hn | ⟨g, cap, cur, hv, hbg, rest⟩
  · exact .inl hn
  · exact .inr ⟨g, cap, cur, hv, Nat.le_trans hz hbg, rest⟩
set_option maxHeartbeats 400000 in
theorem runs_any (w : World) (A : Option Addr) (n c : Nat) (l : List Rn) (hs : Rs w w.heap.size A n c l) (hb : n ≤ 1000000) :
    Calls Try.prog 61 #[.agg #[.slice A n c]] w (SaysOwn w w.heap.size l) := by
  have H := Lib.hid hs
  clear hs
  go_enter Try.func61, Try.ntmps61
  go_wp2_with fail
  refine (cloneR_any _ A n c l (H.out.onA _) hb).mono ?_
  rintro e w' h'
  have h2 := h'.of (below_box w _)
  obtain ⟨A', n', c', rfl, h3⟩ := h2
  go_wp2
  go_ret
  exact ⟨A', n', c', rfl, h3⟩
end Go.Proofs.Ytbnhemmklbbnmaa

/-! ## RunsLen -/
namespace Go.Proofs.Ytbnhemmklbbnmaa
open Go.RowKit
/-- Some number is handed back, and nothing has turned. -/
def SomeInt (w : World) (e : Ending) (w' : World) : Prop := (∃ z : Int, e = .returned (.int .i64 z)) ∧ w = w'
set_option maxRecDepth 100000 in
set_option maxHeartbeats 400000 in
theorem len64_any (w : World) (x : Nat) (hx : x < 256) : Calls Try.prog 82 #[.int .u64 (x : Int)] w (SomeInt w) := by
  have h1 : ¬ (4294967296 : Int) ≤ (x : Int) := by omega
  have h2 : ¬ (65536 : Int) ≤ (x : Int) := by omega
  have h3 : ¬ (256 : Int) ≤ (x : Int) := by omega
  have h4 : (x : Int) < 256 := by omega
  go_enter Try.func82, Try.ntmps82
  go_wp2_with fail
  go_ret
  exact ⟨⟨_, rfl⟩, rfl⟩
set_option maxRecDepth 100000 in
set_option maxHeartbeats 400000 in
theorem len_any (w : World) (x : Nat) (hx : x < 256) : Calls Try.prog 58 #[.int .u64 (x : Int)] w (SomeInt w) := by
  have h4 : (x : Int) < 256 := by omega
  go_enter Try.func58, Try.ntmps58
  go_wp2_with fail
  refine (len64_any w x hx).mono ?_
  rintro e w' ⟨⟨z, rfl⟩, rfl⟩
  go_wp2
  go_ret
  exact ⟨⟨_, rfl⟩, rfl⟩
set_option maxHeartbeats 400000 in
theorem nan_any (w : World) (a : Int) : Calls Try.prog 94 #[.int .u64 a] w fun e w' => e = .returned (.bool false) ∧ w = w' := by
  have h : (a != a) = false := by simp
  go_enter Try.func94, Try.ntmps94
  go_wp2
  go_ret
  exact ⟨rfl, rfl⟩
def ltB (a b : Nat) : Bool := decide (a < b)
set_option maxHeartbeats 400000 in
theorem cmpLess_any (w : World) (a b : Nat) : Calls Try.prog 78 #[.int .u64 (a : Int), .int .u64 (b : Int)] w fun e w' => e = .returned (.bool (ltB a b)) ∧ w = w' := by
  go_enter Try.func78, Try.ntmps78
  go_wp2_with fail
  refine (nan_any w (a : Int)).mono ?_
  rintro e w' ⟨rfl, rfl⟩
  go_wp2
  go_ret
  exact ⟨by simp [ltB], rfl⟩
end Go.Proofs.Ytbnhemmklbbnmaa

/-! ## SortLen -/
namespace Go.Proofs.Ytbnhemmklbbnmaa
open Go.RowKit
/-- The number of bits of a number below 64. -/
def lenN (x : Nat) : Nat := if x = 0 then 0 else if x < 2 then 1 else if x < 4 then 2 else if x < 8 then 3 else if x < 16 then 4 else if x < 32 then 5 else 6
def LenIs (w : World) (x : Nat) (e : Ending) (w' : World) : Prop := e = .returned (.int .i64 (lenN x : Int)) ∧ w = w'
set_option maxRecDepth 100000 in
set_option maxHeartbeats 400000 in
theorem len64_x (w : World) (x : Nat) (hx : x < 256) (h5 : x < 50) : Calls Try.prog 82 #[.int .u64 (x : Int)] w (LenIs w x) := by
  have h1 : ¬ (4294967296 : Int) ≤ (x : Int) := by omega
  have h2 : ¬ (65536 : Int) ≤ (x : Int) := by omega
  have h3 : ¬ (256 : Int) ≤ (x : Int) := by omega
  have h4 : (x : Int) < 256 := by omega
  have H5 := Lib.hid h5
  clear h5
  go_enter Try.func82, Try.ntmps82
  go_wp2_with fail
  go_ret
  refine ⟨congrArg (fun z => Ending.returned (Value.int IntKind.i64 z)) ?_, rfl⟩
  have h5 := H5.out
  clear H5 h1 h2 h3
  iterate 50
    rcases x with _ | x
    · clear h5; decide +revert +kernel
  omega
set_option maxRecDepth 100000 in
set_option maxHeartbeats 400000 in
theorem len_x (w : World) (x : Nat) (h5 : x < 50) : Calls Try.prog 58 #[.int .u64 (x : Int)] w (LenIs w x) := by
  have h4 : (x : Int) < 256 := by omega
  have H5 := Lib.hid h5
  have hx : x < 256 := by omega
  clear h5
  go_enter Try.func58, Try.ntmps58
  go_wp2_with fail
  refine (len64_x w x hx H5.out).mono ?_
  rintro e w' ⟨rfl, rfl⟩
  go_wp2
  go_ret
  exact ⟨rfl, rfl⟩
/-- 2 to the length: more than x, and at most twice x. -/
def PowIs (w : World) (x : Nat) (e : Ending) (w' : World) : Prop := (∃ m : Nat, e = .returned (.int .u64 (m : Int)) ∧ 1 ≤ m ∧ m ≤ 2 * x ∧ m ≤ 64) ∧ w = w'
set_option maxRecDepth 100000 in
set_option maxHeartbeats 400000 in
theorem pow_x (w : World) (x : Nat) (h5 : x < 50) (h8 : 8 ≤ x) : Calls Try.prog 90 #[.int .i64 (x : Int)] w (PowIs w x) := by
  have h4 : (x : Int) < 50 := by omega
  have h0 : (0 : Int) ≤ (x : Int) := by omega
  have H5 := Lib.hid h5
  have H8 := Lib.hid h8
  clear h5 h8
  go_enter Try.func90, Try.ntmps90
  go_wp2_with fail
  refine (len_x w x H5.out).mono ?_
  rintro e w' ⟨rfl, rfl⟩
  rcases Nat.lt_or_ge x 16 with h16 | h16
  · have HL : lenN x = 4 := by have := H8.out; unfold lenN; rw [if_neg (by omega), if_neg (by omega), if_neg (by omega), if_neg (by omega), if_pos h16]
    rw [HL]
    go_wp2
    go_ret
    exact ⟨⟨16, rfl, by omega, by have := H8.out; omega, by omega⟩, rfl⟩
  · rcases Nat.lt_or_ge x 32 with h32 | h32
    · have HL : lenN x = 5 := by unfold lenN; rw [if_neg (by omega), if_neg (by omega), if_neg (by omega), if_neg (by omega), if_neg (by omega), if_pos h32]
      rw [HL]
      go_wp2
      go_ret
      exact ⟨⟨32, rfl, by omega, by omega, by omega⟩, rfl⟩
    · have HL : lenN x = 6 := by unfold lenN; rw [if_neg (by omega), if_neg (by omega), if_neg (by omega), if_neg (by omega), if_neg (by omega), if_neg (by omega)]
      rw [HL]
      go_wp2
      go_ret
      exact ⟨⟨64, rfl, by omega, by omega, by omega⟩, rfl⟩
end Go.Proofs.Ytbnhemmklbbnmaa
