/-
  THE WALK of the law SpanGets: whatever the bytes, it returns true, and turns nothing that was there.
-/
import Derived.Test.YtefoeebchjnfaaaRefSpan
namespace Go.Proofs.Ytefoeebchjnfaaa
open Go.RowKit

theorem own_grown {w w' : World} {base k : Nat} {v : Value} {n : Nat} {xs : List Value} (h : w.ownsRow base 5 1 v n xs) (hg : w.grownBy w' (some k)) (hk : k < base) : w'.ownsRow base 5 1 v n xs := by
  obtain ⟨h1, h2⟩ := h
  refine ⟨h1, ?_⟩
  rcases h2 with h2 | ⟨g, cap, cur, hv, hg', hh, r⟩
  · exact Or.inl h2
  · exact Or.inr ⟨g, cap, cur, hv, hg', by rw [hg.block g (Array.getElem?_eq_some_iff.1 hh).1 (fun e => by injection e with e; omega)]; exact hh, r⟩
theorem below_grown {w0 w w' : World} {B k : Nat} (h : Below B w0 w) (hg : w.grownBy w' (some k)) (hk : B ≤ k) (hB : B ≤ w.heap.size) : Below B w0 w' :=
  ⟨hg.os.trans h.os, hg.tape.trans h.tape, hg.output.trans h.output, Nat.le_trans h.size hg.size, fun i hi => (hg.block i (by omega) (fun e => by injection e with e; omega)).trans (h.block i hi)⟩
theorem Sl.past {w w' : World} {B : Nat} {row : Option Nat} {A : Option Addr} {n c : Nat} {l : List UInt8} (h : Sl w B A n c l) (hg : w.grownBy w' row) (hB : B ≤ w.heap.size) (hr : ∀ k, row = some k → B ≤ k) : Sl w' B A n c l :=
  h.keep fun b o hb => World.cell?_of_block (a := ⟨b, o, none⟩) (hg.block b (by show b < _; omega) (fun e => by have := hr b e.symm; omega))
theorem ever_in {w : World} {g : Nat} {A : Option Addr} {n c er : Nat} {l : List UInt8} (h : InAt w g A n c er l) : Ever (fun w2 => InAt w2 g A n c er l) w := fun _ hb => h.below hb h.lt
theorem says_same {P : Program} {f : FuncId} {args : Array Value} {w : World} {v : Value} (h : Calls P f args w fun e w' => e = .returned v ∧ w = w') : Calls P f args w (Says w v) := h.mono fun _ _ ⟨he, hw⟩ => ⟨he, hw ▸ Below.refl _ _⟩

set_option maxRecDepth 100000 in
set_option maxHeartbeats 2000000 in
theorem spanGets_law (w : World) (A0 : Option Addr) (n0 c0 : Nat) (l0 : List UInt8) (h0 : Sl w w.heap.size A0 n0 c0 l0) :
    Calls Try.prog 11 #[.slice A0 n0 c0] w (Yes w) := by
  go_enter Try.func11, Try.ntmps11
  go_wp2_with fail
  refine (awake4_any w).mono ?_
  rintro e w1 ⟨rfl, hb1⟩
  have h0' := h0.on hb1 (Nat.le_refl _)
  clear h0
  go_wp2_with fail
  refine (cut_any w1 A0 n0 c0 l0 300 h0' (by omega)).mono ?_
  rintro e w2 ⟨Ap, np, cp, rfl, hown2, hbel⟩
  have h2 := Sl.of_own hown2
  have hb2 := hb1.trans (hbel.mono hb1.size)
  have hl2 : (l0.take 300).length ≤ 300 := by rw [List.length_take]; omega
  generalize l0.take 300 = p at *
  have hnp : np ≤ 300 := by have := h2.len; omega
  clear hown2 hbel hb1 h0'
  go_wp2_with fail
  refine (of_any w2 Ap np cp p h2 (by omega)).mono ?_
  rintro e w3 ⟨g1, A3, n3, c3, hg1, rfl, hin, hbel⟩
  have hp3 := h2.below hbel (Nat.le_refl _)
  have hb3 := hb2.trans (hbel.mono hb2.size)
  have hg1w := hin.lt
  have hz23 := hbel.size
  have hzw2 := hb2.size
  clear hbel hb2 h2
  go_wp2_with fail
  have hin4 := hin.below (below_box w3 (Obj.cells #[.slice Ap np cp, .int .i64 0, .int .i64 0] 91)) hg1w
  have hp4 := hp3.alloc hz23 (Obj.cells #[.slice Ap np cp, .int .i64 0, .int .i64 0] 91)
  have hrb := heap_alloc_new w3 (Obj.cells #[.slice Ap np cp, .int .i64 0, .int .i64 0] 91)
  have hb4 := hb3.alloc hb3.size (Obj.cells #[.slice Ap np cp, .int .i64 0, .int .i64 0] 91)
  have hr1z : w3.heap.size < (w3.alloc (Obj.cells #[.slice Ap np cp, .int .i64 0, .int .i64 0] 91)).heap.size := by simp
  clear hin hp3 hb3
  generalize w3.alloc (Obj.cells #[.slice Ap np cp, .int .i64 0, .int .i64 0] 91) = w4 at *
  generalize w3.heap.size = r1 at *
  generalize w2.heap.size = B0 at *
  obtain ⟨⟨k, b, l', er'⟩, hst⟩ : ∃ x, stSpan p 0 = x := ⟨_, rfl⟩
  have c1 := get_any hin4
  rw [hst] at c1
  refine c1.mono ?_
  rintro e w5 ⟨A5, n5, c5, A6, n6, c6, rfl, hown5, hin5, hgr5⟩
  have hrb5 := only_block hgr5 hrb (by intro e; injection e with e; omega)
  have hp5 := hp4.past hgr5 (by omega) (fun k hk => by injection hk; omega)
  have hb5 := below_grown hb4 hgr5 (by omega) hb4.size
  have hz5 := hgr5.size
  have hra5 : RefAt w5 r1 Ap np cp 0 0 p := ⟨hrb5, hp5.more (by omega), Nat.zero_le _, by omega⟩
  clear c1 hin4 hrb hp4 hb4 hgr5 hrb5
  go_wp2_with fail
  have c2 := refGet_any hra5
  rw [show p.drop 0 = p from rfl, hst] at c2
  refine c2.mono ?_
  rintro e w6 ⟨a1, A7, n7, c7, rfl, hown6, hra6, hd6, hgr6⟩
  have hin6 := hin5.kept hgr6 (fun k hk => by injection hk; omega)
  have hown5' := own_grown hown5 hgr6 (by omega)
  have hp6 := hp5.past hgr6 (by omega) (fun k hk => by injection hk; omega)
  have hb6 := below_grown hb5 hgr6 (by omega) hb5.size
  have hz6 := hgr6.size
  clear c2 hra5 hin5 hown5 hp5 hb5 hgr6
  unfold spv
  go_wp2_with fail
  have hs5 := Sl.of_own hown5'
  have hs6 := Sl.of_own hown6
  have hn5 : n5 = np - a1 := by
    have h1 := hin6.sl.len
    have h2 := hp6.len
    rw [← hd6, List.length_drop] at h1
    omega
  have hale := hra6.le
  have E1 : Hid (Ever (fun w' => (w'.cell? ⟨w6.heap.size, 0, none⟩ = some (.int .i64 (k : Int)) ∧ w'.cell? ⟨w6.heap.size, 1, none⟩ = some (.slice A6 n6 c6) ∧ w'.cell? ⟨w6.heap.size + 1, 0, none⟩ = some (.int .i64 (k : Int)) ∧ w'.cell? ⟨w6.heap.size + 1, 1, none⟩ = some (.slice A7 n7 c7) ∧
      w'.cell? ⟨r1, 1, none⟩ = some (.int .i64 (a1 : Int)) ∧ w'.cell? ⟨r1, 2, none⟩ = some (.int .i64 (er' : Int))) ∧ InAt w' g1 A5 n5 c5 er' l' ∧ Sl w' w'.heap.size A6 n6 c6 b ∧ Sl w' w'.heap.size A7 n7 c7 b)
      ((w6.alloc (Obj.cells #[.int .i64 (k : Int), .slice A6 n6 c6] 67)).alloc (Obj.cells #[.int .i64 (k : Int), .slice A7 n7 c7] 75))) := by
    have ha : ∀ i, ((w6.alloc (Obj.cells #[.int .i64 (k : Int), .slice A6 n6 c6] 67)).alloc (Obj.cells #[.int .i64 (k : Int), .slice A7 n7 c7] 75)).cell? ⟨w6.heap.size, i, none⟩ = (#[.int .i64 (k : Int), .slice A6 n6 c6] : Array Value)[i]? := fun i =>
      (World.cell?_alloc_lt _ _ ⟨w6.heap.size, i, none⟩ (by simp)).trans (cell_last w6 _ _ _ i rfl)
    have hb : ∀ i, ((w6.alloc (Obj.cells #[.int .i64 (k : Int), .slice A6 n6 c6] 67)).alloc (Obj.cells #[.int .i64 (k : Int), .slice A7 n7 c7] 75)).cell? ⟨w6.heap.size + 1, i, none⟩ = (#[.int .i64 (k : Int), .slice A7 n7 c7] : Array Value)[i]? := fun i =>
      cell_last _ _ _ _ i (by simp)
    have hc : ∀ i v, w6.cell? ⟨r1, i, none⟩ = some v → ((w6.alloc (Obj.cells #[.int .i64 (k : Int), .slice A6 n6 c6] 67)).alloc (Obj.cells #[.int .i64 (k : Int), .slice A7 n7 c7] 75)).cell? ⟨r1, i, none⟩ = some v := fun i v hv =>
      ever_cell hv _ ((below_box w6 _).alloc (by simp) _)
    have hi : InAt ((w6.alloc (Obj.cells #[.int .i64 (k : Int), .slice A6 n6 c6] 67)).alloc (Obj.cells #[.int .i64 (k : Int), .slice A7 n7 c7] 75)) g1 A5 n5 c5 er' l' := ever_in hin6 _ ((below_box w6 _).alloc (by simp) _)
    intro w' hw
    exact ⟨⟨ever_cell (ha 0) _ hw, ever_cell (ha 1) _ hw, ever_cell (hb 0) _ hw, ever_cell (hb 1) _ hw, ever_cell (hc 1 _ hra6.cell1) _ hw, ever_cell (hc 2 _ hra6.cell2) _ hw⟩, ever_in hi _ hw, ever_sl ((hs5.onA _).onA _) _ hw, ever_sl ((hs6.onA _).onA _) _ hw⟩
  have hp7 := (hp6.alloc (by omega) (Obj.cells #[.int .i64 (k : Int), .slice A6 n6 c6] 67)).alloc (by simp; omega) (Obj.cells #[.int .i64 (k : Int), .slice A7 n7 c7] 75)
  have hb7 : Below w.heap.size w ((w6.alloc (Obj.cells #[.int .i64 (k : Int), .slice A6 n6 c6] 67)).alloc (Obj.cells #[.int .i64 (k : Int), .slice A7 n7 c7] 75)) := (hb6.alloc hb6.size _).alloc (Nat.le_trans hb6.size (by simp)) _
  have hz7 : B0 ≤ ((w6.alloc (Obj.cells #[.int .i64 (k : Int), .slice A6 n6 c6] 67)).alloc (Obj.cells #[.int .i64 (k : Int), .slice A7 n7 c7] 75)).heap.size := by simp; omega
  clear hs5 hs6 hown5' hown6 hra6 hin6 hp6 hb6 hz6 hz5
  generalize ((w6.alloc (Obj.cells #[.int .i64 (k : Int), .slice A6 n6 c6] 67)).alloc (Obj.cells #[.int .i64 (k : Int), .slice A7 n7 c7] 75)) = w7 at *
  generalize w6.heap.size = s1 at *
  refine (of_any w7 Ap np cp p (hp7.more hz7) (by omega)).mono ?_
  rintro e w8 ⟨g2, A8, n8, c8, hg2, rfl, hin8, hbel8⟩
  have hg2w := hin8.lt
  have hz78 := hbel8.size
  go_wp2_with fail
  have hin9 := hin8.below (below_box w8 (Obj.cells #[.slice Ap np cp, .int .i64 0, .int .i64 0] 91)) hg2w
  have hb79 := hbel8.alloc hz78 (Obj.cells #[.slice Ap np cp, .int .i64 0, .int .i64 0] 91)
  have hrb9 := heap_alloc_new w8 (Obj.cells #[.slice Ap np cp, .int .i64 0, .int .i64 0] 91)
  have hr2z : w8.heap.size < (w8.alloc (Obj.cells #[.slice Ap np cp, .int .i64 0, .int .i64 0] 91)).heap.size := by simp
  clear hin8 hbel8
  generalize w8.alloc (Obj.cells #[.slice Ap np cp, .int .i64 0, .int .i64 0] 91) = w9 at *
  generalize w8.heap.size = r2 at *
  obtain ⟨⟨N, k2, b2, l2', er2⟩, hst2⟩ : ∃ x, stItem p 0 = x := ⟨_, rfl⟩
  have c1 := getItem_any hin9
  rw [hst2] at c1
  refine c1.mono ?_
  rintro e w10 ⟨A11, n11, c11, A12, n12, c12, rfl, hown10, hin10, hgr10⟩
  have hrb10 := only_block hgr10 hrb9 (by intro e; injection e with e; omega)
  have hb710 := below_grown hb79 hgr10 hg2 (by omega)
  have hz10 := hgr10.size
  have hp10 := hp7.below hb710 hz7
  have hra10 : RefAt w10 r2 Ap np cp 0 0 p := ⟨hrb10, hp10.more (by omega), Nat.zero_le _, by omega⟩
  clear c1 hin9 hrb9 hb79 hgr10 hrb10
  go_wp2_with fail
  have c2 := refGetItem_any hra10
  rw [show p.drop 0 = p from rfl, hst2] at c2
  refine c2.mono ?_
  rintro e w11 ⟨a2, A13, n13, c13, rfl, hown11, hra11, hd11, hgr11⟩
  have hin11 := hin10.kept hgr11 (fun k hk => by injection hk; omega)
  have hown10' := own_grown hown10 hgr11 (by omega)
  have hb711 := below_grown hb710 hgr11 (by omega) (by omega)
  have hz11 := hgr11.size
  have hp11 := hp7.below hb711 hz7
  clear c2 hra10 hin10 hown10 hb710 hgr11 hp10
  unfold itv
  go_wp2_with fail
  have hs10 := Sl.of_own hown10'
  have hs11 := Sl.of_own hown11
  have hn11 : n11 = np - a2 := by
    have h1 := hin11.sl.len
    have h2 := hp11.len
    rw [← hd11, List.length_drop] at h1
    omega
  have hale2 := hra11.le
  have E2 : Hid (Ever (fun w' => (w'.cell? ⟨w11.heap.size, 0, none⟩ = some (.int .u64 (N : Int)) ∧ w'.cell? ⟨w11.heap.size, 1, none⟩ = some (.int .i64 (k2 : Int)) ∧ w'.cell? ⟨w11.heap.size, 2, none⟩ = some (.slice A12 n12 c12) ∧ w'.cell? ⟨w11.heap.size + 1, 0, none⟩ = some (.int .u64 (N : Int)) ∧ w'.cell? ⟨w11.heap.size + 1, 1, none⟩ = some (.int .i64 (k2 : Int)) ∧ w'.cell? ⟨w11.heap.size + 1, 2, none⟩ = some (.slice A13 n13 c13) ∧ w'.cell? ⟨r2, 1, none⟩ = some (.int .i64 (a2 : Int)) ∧ w'.cell? ⟨r2, 2, none⟩ = some (.int .i64 (er2 : Int))) ∧ InAt w' g2 A11 n11 c11 er2 l2' ∧ Sl w' w'.heap.size A12 n12 c12 b2 ∧ Sl w' w'.heap.size A13 n13 c13 b2) ((w11.alloc (Obj.cells #[.int .u64 (N : Int), .int .i64 (k2 : Int), .slice A12 n12 c12] 72)).alloc (Obj.cells #[.int .u64 (N : Int), .int .i64 (k2 : Int), .slice A13 n13 c13] 79))) := by
    have ha : ∀ i, ((w11.alloc (Obj.cells #[.int .u64 (N : Int), .int .i64 (k2 : Int), .slice A12 n12 c12] 72)).alloc (Obj.cells #[.int .u64 (N : Int), .int .i64 (k2 : Int), .slice A13 n13 c13] 79)).cell? ⟨w11.heap.size, i, none⟩ = (#[.int .u64 (N : Int), .int .i64 (k2 : Int), .slice A12 n12 c12] : Array Value)[i]? := fun i =>
      (World.cell?_alloc_lt _ _ ⟨w11.heap.size, i, none⟩ (by simp)).trans (cell_last w11 _ _ _ i rfl)
    have hb : ∀ i, ((w11.alloc (Obj.cells #[.int .u64 (N : Int), .int .i64 (k2 : Int), .slice A12 n12 c12] 72)).alloc (Obj.cells #[.int .u64 (N : Int), .int .i64 (k2 : Int), .slice A13 n13 c13] 79)).cell? ⟨w11.heap.size + 1, i, none⟩ = (#[.int .u64 (N : Int), .int .i64 (k2 : Int), .slice A13 n13 c13] : Array Value)[i]? := fun i =>
      cell_last _ _ _ _ i (by simp)
    have hc : ∀ i v, w11.cell? ⟨r2, i, none⟩ = some v → ((w11.alloc (Obj.cells #[.int .u64 (N : Int), .int .i64 (k2 : Int), .slice A12 n12 c12] 72)).alloc (Obj.cells #[.int .u64 (N : Int), .int .i64 (k2 : Int), .slice A13 n13 c13] 79)).cell? ⟨r2, i, none⟩ = some v := fun i v hv =>
      ever_cell hv _ ((below_box w11 _).alloc (by simp) _)
    have hi : InAt ((w11.alloc (Obj.cells #[.int .u64 (N : Int), .int .i64 (k2 : Int), .slice A12 n12 c12] 72)).alloc (Obj.cells #[.int .u64 (N : Int), .int .i64 (k2 : Int), .slice A13 n13 c13] 79)) g2 A11 n11 c11 er2 l2' := ever_in hin11 _ ((below_box w11 _).alloc (by simp) _)
    intro w' hw
    exact ⟨⟨ever_cell (ha 0) _ hw, ever_cell (ha 1) _ hw, ever_cell (ha 2) _ hw, ever_cell (hb 0) _ hw, ever_cell (hb 1) _ hw, ever_cell (hb 2) _ hw, ever_cell (hc 1 _ hra11.cell1) _ hw, ever_cell (hc 2 _ hra11.cell2) _ hw⟩, ever_in hi _ hw, ever_sl ((hs10.onA _).onA _) _ hw, ever_sl ((hs11.onA _).onA _) _ hw⟩
  have hb712 : Below w7.heap.size w7 ((w11.alloc (Obj.cells #[.int .u64 (N : Int), .int .i64 (k2 : Int), .slice A12 n12 c12] 72)).alloc (Obj.cells #[.int .u64 (N : Int), .int .i64 (k2 : Int), .slice A13 n13 c13] 79)) := (hb711.alloc (by omega) _).alloc (by simp; omega) _
  have hzw7 : w.heap.size ≤ w7.heap.size := by omega
  have E3 : Hid (Ever (fun w' => Below w.heap.size w w') ((w11.alloc (Obj.cells #[.int .u64 (N : Int), .int .i64 (k2 : Int), .slice A12 n12 c12] 72)).alloc (Obj.cells #[.int .u64 (N : Int), .int .i64 (k2 : Int), .slice A13 n13 c13] 79))) := ever_below (hb7.trans (hb712.mono hzw7)) (by simp; omega)
  have E1' := Lib.hid (E1.out.next hb712)
  clear hs10 hs11 hown10' hown11 hra11 hin11 hp11 hb711 hb712 E1 hp7 hb7
  generalize ((w11.alloc (Obj.cells #[.int .u64 (N : Int), .int .i64 (k2 : Int), .slice A12 n12 c12] 72)).alloc (Obj.cells #[.int .u64 (N : Int), .int .i64 (k2 : Int), .slice A13 n13 c13] 79)) = wy at *
  generalize w11.heap.size = s2 at *
  obtain ⟨Ps, HP⟩ : ∃ Ps : World → Prop, Hid (Ps = fun w' => (w'.cell? ⟨s1, 0, none⟩ = some (.int .i64 (k : Int)) ∧ w'.cell? ⟨s1, 1, none⟩ = some (.slice A6 n6 c6) ∧ w'.cell? ⟨s1 + 1, 0, none⟩ = some (.int .i64 (k : Int)) ∧ w'.cell? ⟨s1 + 1, 1, none⟩ = some (.slice A7 n7 c7) ∧ w'.cell? ⟨r1, 1, none⟩ = some (.int .i64 (a1 : Int)) ∧ w'.cell? ⟨r1, 2, none⟩ = some (.int .i64 (er' : Int)) ∧ w'.cell? ⟨s2, 0, none⟩ = some (.int .u64 (N : Int)) ∧ w'.cell? ⟨s2, 1, none⟩ = some (.int .i64 (k2 : Int)) ∧ w'.cell? ⟨s2, 2, none⟩ = some (.slice A12 n12 c12) ∧ w'.cell? ⟨s2 + 1, 0, none⟩ = some (.int .u64 (N : Int)) ∧ w'.cell? ⟨s2 + 1, 1, none⟩ = some (.int .i64 (k2 : Int)) ∧ w'.cell? ⟨s2 + 1, 2, none⟩ = some (.slice A13 n13 c13) ∧ w'.cell? ⟨r2, 1, none⟩ = some (.int .i64 (a2 : Int)) ∧ w'.cell? ⟨r2, 2, none⟩ = some (.int .i64 (er2 : Int))) ∧ (InAt w' g1 A5 n5 c5 er' l' ∧ Sl w' w'.heap.size A6 n6 c6 b ∧ Sl w' w'.heap.size A7 n7 c7 b) ∧ (InAt w' g2 A11 n11 c11 er2 l2' ∧ Sl w' w'.heap.size A12 n12 c12 b2 ∧ Sl w' w'.heap.size A13 n13 c13 b2) ∧ Below w.heap.size w w') := ⟨_, rfl⟩
  have hE : Ever Ps wy := by
    rw [HP.out]
    intro w' hw
    obtain ⟨⟨x0, x1, x2, x3, x4, x5⟩, x6⟩ := E1'.out w' hw
    obtain ⟨⟨y0, y1, y2, y3, y4, y5, y6, y7⟩, y8⟩ := E2.out w' hw
    exact ⟨⟨x0, x1, x2, x3, x4, x5, y0, y1, y2, y3, y4, y5, y6, y7⟩, x6, y8, E3.out w' hw⟩
  have HN : Hid (∀ w', Ps w' → (w'.cell? ⟨s1, 0, none⟩ = some (.int .i64 (k : Int)) ∧ w'.cell? ⟨s1, 1, none⟩ = some (.slice A6 n6 c6) ∧ w'.cell? ⟨s1 + 1, 0, none⟩ = some (.int .i64 (k : Int)) ∧ w'.cell? ⟨s1 + 1, 1, none⟩ = some (.slice A7 n7 c7) ∧ w'.cell? ⟨r1, 1, none⟩ = some (.int .i64 (a1 : Int)) ∧ w'.cell? ⟨r1, 2, none⟩ = some (.int .i64 (er' : Int)) ∧ w'.cell? ⟨s2, 0, none⟩ = some (.int .u64 (N : Int)) ∧ w'.cell? ⟨s2, 1, none⟩ = some (.int .i64 (k2 : Int)) ∧ w'.cell? ⟨s2, 2, none⟩ = some (.slice A12 n12 c12) ∧ w'.cell? ⟨s2 + 1, 0, none⟩ = some (.int .u64 (N : Int)) ∧ w'.cell? ⟨s2 + 1, 1, none⟩ = some (.int .i64 (k2 : Int)) ∧ w'.cell? ⟨s2 + 1, 2, none⟩ = some (.slice A13 n13 c13) ∧ w'.cell? ⟨r2, 1, none⟩ = some (.int .i64 (a2 : Int)) ∧ w'.cell? ⟨r2, 2, none⟩ = some (.int .i64 (er2 : Int))) ∧ (InAt w' g1 A5 n5 c5 er' l' ∧ Sl w' w'.heap.size A6 n6 c6 b ∧ Sl w' w'.heap.size A7 n7 c7 b) ∧ (InAt w' g2 A11 n11 c11 er2 l2' ∧ Sl w' w'.heap.size A12 n12 c12 b2 ∧ Sl w' w'.heap.size A13 n13 c13 b2) ∧ Below w.heap.size w w') := by rw [HP.out]; exact fun _ h => h
  clear HP E1' E2 E3
  have HO1 : Hid (∀ w', Ps w' → Calls Try.prog 50 #[.agg #[.int .i64 (k : Int), .slice A6 n6 c6]] w' (Says w' (.agg #[.int .i64 (k : Int), .slice A6 n6 c6]))) := fun w' _ => ownSpan_any w' k _ n6 c6
  have HO2 : Hid (∀ w', Ps w' → Calls Try.prog 50 #[.agg #[.int .i64 (k2 : Int), .slice A12 n12 c12]] w' (Says w' (.agg #[.int .i64 (k2 : Int), .slice A12 n12 c12]))) := fun w' _ => ownSpan_any w' k2 _ n12 c12
  have HS1 : Hid (∀ w', Ps w' → Calls Try.prog 62 #[.agg #[.int .i64 (k : Int), .slice A6 n6 c6], .agg #[.int .i64 (k : Int), .slice A7 n7 c7]] w' (Says w' (.bool true))) := fun w' hp => by
    have h := refSpanSame_any w' k k A6 A7 n6 c6 n7 c7 b b (HN.out w' hp).2.1.2.1 (HN.out w' hp).2.1.2.2
    rw [show sameS (k : Int) b (k : Int) b = true from by simp [sameS, sameB]] at h
    exact h
  have HS2 : Hid (∀ w', Ps w' → Calls Try.prog 62 #[.agg #[.int .i64 (k2 : Int), .slice A12 n12 c12], .agg #[.int .i64 (k2 : Int), .slice A13 n13 c13]] w' (Says w' (.bool true))) := fun w' hp => by
    have h := refSpanSame_any w' k2 k2 A12 A13 n12 c12 n13 c13 b2 b2 (HN.out w' hp).2.2.1.2.1 (HN.out w' hp).2.2.1.2.2
    rw [show sameS (k2 : Int) b2 (k2 : Int) b2 = true from by simp [sameS, sameB]] at h
    exact h
  have HE1 : Hid (∀ w', Ps w' → Calls Try.prog 56 #[.pointer (some ⟨g1, 0, none⟩)] w' (Says w' (.int .i64 (er' : Int)))) := fun w' hp => says_same (err_any (HN.out w' hp).2.1.1)
  have HE2 : Hid (∀ w', Ps w' → Calls Try.prog 56 #[.pointer (some ⟨g2, 0, none⟩)] w' (Says w' (.int .i64 (er2 : Int)))) := fun w' hp => says_same (err_any (HN.out w' hp).2.2.1.1)
  have HF1 : Hid (∀ w', Ps w' → Calls Try.prog 58 #[.pointer (some ⟨g1, 0, none⟩)] w' (Says w' (.int .i64 (n5 : Int)))) := fun w' hp => says_same (left_any (HN.out w' hp).2.1.1)
  have HF2 : Hid (∀ w', Ps w' → Calls Try.prog 58 #[.pointer (some ⟨g2, 0, none⟩)] w' (Says w' (.int .i64 (n11 : Int)))) := fun w' hp => says_same (left_any (HN.out w' hp).2.2.1.1)
  have hw1 : IntKind.i64.wrap ((np : Int) - (a1 : Int)) = (n5 : Int) := by rw [IntKind.wrap_i64]; omega
  have hw2 : IntKind.i64.wrap ((np : Int) - (a2 : Int)) = (n11 : Int) := by rw [IntKind.wrap_i64]; omega
  have hE2 := hE.drewN 1
  clear hE hn5 hn11
  refine wp_region_noPanic ?_
  refine wp_region_held_drew (S := (fun w' => (w'.cell? ⟨s1, 0, none⟩ = some (.int .i64 (k : Int)) ∧ w'.cell? ⟨s1, 1, none⟩ = some (.slice A6 n6 c6) ∧ w'.cell? ⟨s1 + 1, 0, none⟩ = some (.int .i64 (k : Int)) ∧ w'.cell? ⟨s1 + 1, 1, none⟩ = some (.slice A7 n7 c7) ∧ w'.cell? ⟨r1, 1, none⟩ = some (.int .i64 (a1 : Int)) ∧ w'.cell? ⟨r1, 2, none⟩ = some (.int .i64 (er' : Int)) ∧ w'.cell? ⟨s2, 0, none⟩ = some (.int .u64 (N : Int)) ∧ w'.cell? ⟨s2, 1, none⟩ = some (.int .i64 (k2 : Int)) ∧ w'.cell? ⟨s2, 2, none⟩ = some (.slice A12 n12 c12) ∧ w'.cell? ⟨s2 + 1, 0, none⟩ = some (.int .u64 (N : Int)) ∧ w'.cell? ⟨s2 + 1, 1, none⟩ = some (.int .i64 (k2 : Int)) ∧ w'.cell? ⟨s2 + 1, 2, none⟩ = some (.slice A13 n13 c13) ∧ w'.cell? ⟨r2, 1, none⟩ = some (.int .i64 (a2 : Int)) ∧ w'.cell? ⟨r2, 2, none⟩ = some (.int .i64 (er2 : Int))) ∧ Ever Ps w')) (by kernel_rfl) ⟨(HN.out _ hE2.now).1, hE2⟩ (fun hHeld => ?_)
  refine wpAnyH_take (i := 0) (oi := { dst := some 33, op := Op.load 67 (Operand.tmp 5), type := 67, pos := "law.go:52", after := #[], guard := none }) (v := ?_) rfl (by kernel_rfl) (by kernel_rfl) (by kernel_rfl) (fun _ _ _ h => h) (Or.inl ⟨by rfl, ?_⟩) (by assumption) ?_
  rotate_left
  · intro w hSw; (try dsimp only at hSw); first | (go_simp; done) | (go_simp; with_reducible rfl)
  try simp only [Act.put, List.setIfInBounds_toArray, List.set_cons_zero, List.set_cons_succ]
  refine wpAnyH_take (i := 2) (oi := { dst := some 35, op := Op.load 75 (Operand.tmp 6), type := 75, pos := "law.go:52", after := #[], guard := none }) (v := ?_) rfl (by kernel_rfl) (by kernel_rfl) (by kernel_rfl) (fun _ _ _ h => h) (Or.inl ⟨by rfl, ?_⟩) (by assumption) ?_
  rotate_left
  · intro w hSw; (try dsimp only at hSw); first | (go_simp; done) | (go_simp; with_reducible rfl)
  try simp only [Act.put, List.setIfInBounds_toArray, List.set_cons_zero, List.set_cons_succ]
  refine wpAnyH_ready (rs := [1]) (by kernel_rfl) (by simp) ?_
  refine AllReadyH.cons (o := { dst := some 34, op := Op.call { callee := Callee.value (Operand.func 50), args := #[Operand.tmp 33], argTypes := #[67] }, type := 75, pos := "law.go:52", after := #[{ on := 0, ground := Ground.data }], guard := none }) rfl (fun K hK => ?_) AllReadyH.nil
  go_simp
  go_at_call 50
  first | with_reducible refine calls_ever (Ps := Ps) (by assumption) HO1.out ?_ | with_reducible refine calls_ever (Ps := Ps) (by assumption) HO2.out ?_
  clear hE2
  intro w2 hE2
  go_wp2_with fail
  clear hHeld
  refine hK.out _ _ ⟨(HN.out _ hE2.now).1, hE2⟩ (fun hHeld => ?_)
  clear hK K
  try simp only [Act.put, List.setIfInBounds_toArray, List.set_cons_zero, List.set_cons_succ]
  refine wpAnyH_ready (rs := [3]) (by kernel_rfl) (by simp) ?_
  refine AllReadyH.cons (o := { dst := some 36, op := Op.call { callee := Callee.value (Operand.func 62), args := #[Operand.tmp 34, Operand.tmp 35], argTypes := #[75, 75] }, type := 4, pos := "law.go:52", after := #[{ on := 1, ground := Ground.data }, { on := 2, ground := Ground.data }, { on := 1, ground := Ground.chain }], guard := none }) rfl (fun K hK => ?_) AllReadyH.nil
  go_simp
  go_at_call 62
  first | with_reducible refine calls_ever (Ps := Ps) (by assumption) HS1.out ?_ | with_reducible refine calls_ever (Ps := Ps) (by assumption) HS2.out ?_
  clear hE2
  intro w2 hE2
  go_wp2_with fail
  clear hHeld
  refine hK.out _ _ ⟨(HN.out _ hE2.now).1, hE2⟩ (fun hHeld => ?_)
  clear hK K
  try simp only [Act.put, List.setIfInBounds_toArray, List.set_cons_zero, List.set_cons_succ]
  refine wpAnyH_take (i := 4) (oi := { dst := some 37, op := Op.move (Operand.tmp 36), type := 4, pos := "law.go:52", after := #[{ on := 3, ground := Ground.data }, { on := 3, ground := Ground.chain }], guard := none }) (v := ?_) rfl (by kernel_rfl) (by kernel_rfl) (by kernel_rfl) (fun _ _ _ h => h) (Or.inl ⟨by rfl, ?_⟩) (by assumption) ?_
  rotate_left
  · intro w hSw; (try dsimp only at hSw); first | (go_simp; done) | (go_simp; with_reducible rfl)
  try simp only [Act.put, List.setIfInBounds_toArray, List.set_cons_zero, List.set_cons_succ]
  refine wpAnyH_take (i := 5) (oi := { dst := some 38, op := Op.move (Operand.tmp 3), type := 81, pos := "law.go:52", after := #[{ on := 4, ground := Ground.guard }], guard := some (4, true) }) (v := ?_) rfl (by kernel_rfl) (by kernel_rfl) (by kernel_rfl) (fun _ _ _ h => h) (Or.inl ⟨by rfl, ?_⟩) (by assumption) ?_
  rotate_left
  · intro w hSw; (try dsimp only at hSw); first | (go_simp; done) | (go_simp; with_reducible rfl)
  try simp only [Act.put, List.setIfInBounds_toArray, List.set_cons_zero, List.set_cons_succ]
  refine wpAnyH_take (i := 7) (oi := { dst := some 40, op := Op.move (Operand.tmp 4), type := 89, pos := "law.go:52", after := #[{ on := 4, ground := Ground.guard }], guard := some (4, true) }) (v := ?_) rfl (by kernel_rfl) (by kernel_rfl) (by kernel_rfl) (fun _ _ _ h => h) (Or.inl ⟨by rfl, ?_⟩) (by assumption) ?_
  rotate_left
  · intro w hSw; (try dsimp only at hSw); first | (go_simp; done) | (go_simp; with_reducible rfl)
  try simp only [Act.put, List.setIfInBounds_toArray, List.set_cons_zero, List.set_cons_succ]
  refine wpAnyH_take (i := 8) (oi := { dst := some 41, op := Op.nilCheck (Operand.tmp 40), type := 0, pos := "law.go:52", after := #[{ on := 7, ground := Ground.data }, { on := 4, ground := Ground.guard }], guard := some (4, true) }) (v := ?_) rfl (by kernel_rfl) (by kernel_rfl) (by kernel_rfl) (fun _ _ _ h => h) (Or.inl ⟨by rfl, ?_⟩) (by assumption) ?_
  rotate_left
  · intro w hSw; (try dsimp only at hSw); first | (go_simp; done) | (go_simp; with_reducible rfl)
  try simp only [Act.put, List.setIfInBounds_toArray, List.set_cons_zero, List.set_cons_succ]
  refine wpAnyH_take (i := 9) (oi := { dst := some 42, op := Op.fieldAddr 91 (Operand.tmp 41) 2, type := 0, pos := "law.go:52", after := #[{ on := 8, ground := Ground.data }, { on := 4, ground := Ground.guard }], guard := some (4, true) }) (v := ?_) rfl (by kernel_rfl) (by kernel_rfl) (by kernel_rfl) (fun _ _ _ h => h) (Or.inl ⟨by rfl, ?_⟩) (by assumption) ?_
  rotate_left
  · intro w hSw; (try dsimp only at hSw); first | (go_simp; done) | (go_simp; with_reducible rfl)
  try simp only [Act.put, List.setIfInBounds_toArray, List.set_cons_zero, List.set_cons_succ]
  refine wpAnyH_take (i := 10) (oi := { dst := some 43, op := Op.load 3 (Operand.tmp 42), type := 3, pos := "law.go:52", after := #[{ on := 9, ground := Ground.data }, { on := 4, ground := Ground.guard }], guard := some (4, true) }) (v := ?_) rfl (by kernel_rfl) (by kernel_rfl) (by kernel_rfl) (fun _ _ _ h => h) (Or.inl ⟨by rfl, ?_⟩) (by assumption) ?_
  rotate_left
  · intro w hSw; (try dsimp only at hSw); first | (go_simp; done) | (go_simp; with_reducible rfl)
  try simp only [Act.put, List.setIfInBounds_toArray, List.set_cons_zero, List.set_cons_succ]
  refine wpAnyH_ready (rs := [6]) (by kernel_rfl) (by simp) ?_
  refine AllReadyH.cons (o := { dst := some 39, op := Op.call { callee := Callee.value (Operand.func 56), args := #[Operand.tmp 38], argTypes := #[81] }, type := 84, pos := "law.go:52", after := #[{ on := 5, ground := Ground.data }, { on := 4, ground := Ground.chain }, { on := 4, ground := Ground.guard }], guard := some (4, true) }) rfl (fun K hK => ?_) AllReadyH.nil
  go_simp
  go_at_call 56
  first | with_reducible refine calls_ever (Ps := Ps) (by assumption) HE1.out ?_ | with_reducible refine calls_ever (Ps := Ps) (by assumption) HE2.out ?_
  clear hE2
  intro w2 hE2
  go_wp2_with fail
  clear hHeld
  refine hK.out _ _ ⟨(HN.out _ hE2.now).1, hE2⟩ (fun hHeld => ?_)
  clear hK K
  try simp only [Act.put, List.setIfInBounds_toArray, List.set_cons_zero, List.set_cons_succ]
  refine wpAnyH_take (i := 11) (oi := { dst := some 44, op := Op.binOp BinOp.eql 3 (Operand.tmp 39) (Operand.tmp 43) 3, type := 4, pos := "law.go:52", after := #[{ on := 6, ground := Ground.data }, { on := 10, ground := Ground.data }, { on := 4, ground := Ground.guard }], guard := some (4, true) }) (v := ?_) rfl (by kernel_rfl) (by kernel_rfl) (by kernel_rfl) (fun _ _ _ h => h) (Or.inl ⟨by rfl, ?_⟩) (by assumption) ?_
  rotate_left
  · intro w hSw; (try dsimp only at hSw); first | (go_simp; done) | (go_simp; with_reducible rfl)
  try simp only [Act.put, List.setIfInBounds_toArray, List.set_cons_zero, List.set_cons_succ]
  refine wpAnyH_take (i := 12) (oi := { dst := some 45, op := Op.pick (Operand.tmp 37) (Operand.tmp 44) (Operand.const (Value.bool false)), type := 4, pos := "law.go:52", after := #[{ on := 4, ground := Ground.data }, { on := 11, ground := Ground.data }], guard := none }) (v := ?_) rfl (by kernel_rfl) (by kernel_rfl) (by kernel_rfl) (fun _ _ _ h => h) (Or.inl ⟨by rfl, ?_⟩) (by assumption) ?_
  rotate_left
  · intro w hSw; (try dsimp only at hSw); first | (go_simp; done) | (go_simp; with_reducible rfl)
  try simp only [Act.put, List.setIfInBounds_toArray, List.set_cons_zero, List.set_cons_succ]
  refine wpAnyH_take (i := 13) (oi := { dst := some 46, op := Op.move (Operand.tmp 45), type := 4, pos := "law.go:52", after := #[{ on := 12, ground := Ground.data }, { on := 6, ground := Ground.chain }], guard := none }) (v := ?_) rfl (by kernel_rfl) (by kernel_rfl) (by kernel_rfl) (fun _ _ _ h => h) (Or.inl ⟨by rfl, ?_⟩) (by assumption) ?_
  rotate_left
  · intro w hSw; (try dsimp only at hSw); first | (go_simp; done) | (go_simp; with_reducible rfl)
  try simp only [Act.put, List.setIfInBounds_toArray, List.set_cons_zero, List.set_cons_succ]
  refine wpAnyH_take (i := 14) (oi := { dst := some 47, op := Op.move (Operand.tmp 3), type := 81, pos := "law.go:52", after := #[{ on := 13, ground := Ground.guard }], guard := some (13, true) }) (v := ?_) rfl (by kernel_rfl) (by kernel_rfl) (by kernel_rfl) (fun _ _ _ h => h) (Or.inl ⟨by rfl, ?_⟩) (by assumption) ?_
  rotate_left
  · intro w hSw; (try dsimp only at hSw); first | (go_simp; done) | (go_simp; with_reducible rfl)
  try simp only [Act.put, List.setIfInBounds_toArray, List.set_cons_zero, List.set_cons_succ]
  refine wpAnyH_take (i := 16) (oi := { dst := some 49, op := Op.move (Operand.tmp 0), type := 65, pos := "law.go:52", after := #[{ on := 13, ground := Ground.guard }], guard := some (13, true) }) (v := ?_) rfl (by kernel_rfl) (by kernel_rfl) (by kernel_rfl) (fun _ _ _ h => h) (Or.inl ⟨by rfl, ?_⟩) (by assumption) ?_
  rotate_left
  · intro w hSw; (try dsimp only at hSw); first | (go_simp; done) | (go_simp; with_reducible rfl)
  try simp only [Act.put, List.setIfInBounds_toArray, List.set_cons_zero, List.set_cons_succ]
  refine wpAnyH_take (i := 17) (oi := { dst := some 50, op := Op.call { callee := Callee.builtin Builtin.len, args := #[Operand.tmp 49], argTypes := #[65] }, type := 3, pos := "law.go:52", after := #[{ on := 16, ground := Ground.data }, { on := 13, ground := Ground.guard }], guard := some (13, true) }) (v := ?_) rfl (by kernel_rfl) (by kernel_rfl) (by kernel_rfl) (fun _ _ _ h => h) (Or.inl ⟨by rfl, ?_⟩) (by assumption) ?_
  rotate_left
  · intro w hSw; (try dsimp only at hSw); first | (go_simp; done) | (go_simp; with_reducible rfl)
  try simp only [Act.put, List.setIfInBounds_toArray, List.set_cons_zero, List.set_cons_succ]
  refine wpAnyH_take (i := 18) (oi := { dst := some 51, op := Op.move (Operand.tmp 4), type := 89, pos := "law.go:52", after := #[{ on := 13, ground := Ground.guard }], guard := some (13, true) }) (v := ?_) rfl (by kernel_rfl) (by kernel_rfl) (by kernel_rfl) (fun _ _ _ h => h) (Or.inl ⟨by rfl, ?_⟩) (by assumption) ?_
  rotate_left
  · intro w hSw; (try dsimp only at hSw); first | (go_simp; done) | (go_simp; with_reducible rfl)
  try simp only [Act.put, List.setIfInBounds_toArray, List.set_cons_zero, List.set_cons_succ]
  refine wpAnyH_take (i := 19) (oi := { dst := some 52, op := Op.nilCheck (Operand.tmp 51), type := 0, pos := "law.go:52", after := #[{ on := 18, ground := Ground.data }, { on := 13, ground := Ground.guard }], guard := some (13, true) }) (v := ?_) rfl (by kernel_rfl) (by kernel_rfl) (by kernel_rfl) (fun _ _ _ h => h) (Or.inl ⟨by rfl, ?_⟩) (by assumption) ?_
  rotate_left
  · intro w hSw; (try dsimp only at hSw); first | (go_simp; done) | (go_simp; with_reducible rfl)
  try simp only [Act.put, List.setIfInBounds_toArray, List.set_cons_zero, List.set_cons_succ]
  refine wpAnyH_take (i := 20) (oi := { dst := some 53, op := Op.fieldAddr 91 (Operand.tmp 52) 1, type := 0, pos := "law.go:52", after := #[{ on := 19, ground := Ground.data }, { on := 13, ground := Ground.guard }], guard := some (13, true) }) (v := ?_) rfl (by kernel_rfl) (by kernel_rfl) (by kernel_rfl) (fun _ _ _ h => h) (Or.inl ⟨by rfl, ?_⟩) (by assumption) ?_
  rotate_left
  · intro w hSw; (try dsimp only at hSw); first | (go_simp; done) | (go_simp; with_reducible rfl)
  try simp only [Act.put, List.setIfInBounds_toArray, List.set_cons_zero, List.set_cons_succ]
  refine wpAnyH_take (i := 21) (oi := { dst := some 54, op := Op.load 3 (Operand.tmp 53), type := 3, pos := "law.go:52", after := #[{ on := 20, ground := Ground.data }, { on := 13, ground := Ground.guard }], guard := some (13, true) }) (v := ?_) rfl (by kernel_rfl) (by kernel_rfl) (by kernel_rfl) (fun _ _ _ h => h) (Or.inl ⟨by rfl, ?_⟩) (by assumption) ?_
  rotate_left
  · intro w hSw; (try dsimp only at hSw); first | (go_simp; done) | (go_simp; with_reducible rfl)
  try simp only [Act.put, List.setIfInBounds_toArray, List.set_cons_zero, List.set_cons_succ]
  refine wpAnyH_take (i := 22) (oi := { dst := some 55, op := Op.binOp BinOp.sub 3 (Operand.tmp 50) (Operand.tmp 54) 3, type := 3, pos := "law.go:52", after := #[{ on := 17, ground := Ground.data }, { on := 21, ground := Ground.data }, { on := 13, ground := Ground.guard }], guard := some (13, true) }) (v := ?_) rfl (by kernel_rfl) (by kernel_rfl) (by kernel_rfl) (fun _ _ _ h => h) (Or.inl ⟨by rfl, ?_⟩) (by assumption) ?_
  rotate_left
  · intro w hSw; (try dsimp only at hSw); first | (go_simp; done) | (go_simp; with_reducible rfl)
  try simp only [Act.put, List.setIfInBounds_toArray, List.set_cons_zero, List.set_cons_succ]
  refine wpAnyH_ready (rs := [15]) (by kernel_rfl) (by simp) ?_
  refine AllReadyH.cons (o := { dst := some 48, op := Op.call { callee := Callee.value (Operand.func 58), args := #[Operand.tmp 47], argTypes := #[81] }, type := 3, pos := "law.go:52", after := #[{ on := 14, ground := Ground.data }, { on := 13, ground := Ground.chain }, { on := 13, ground := Ground.guard }], guard := some (13, true) }) rfl (fun K hK => ?_) AllReadyH.nil
  go_simp
  go_at_call 58
  first | with_reducible refine calls_ever (Ps := Ps) (by assumption) HF1.out ?_ | with_reducible refine calls_ever (Ps := Ps) (by assumption) HF2.out ?_
  clear hE2
  intro w2 hE2
  go_wp2_with fail
  clear hHeld
  refine hK.out _ _ ⟨(HN.out _ hE2.now).1, hE2⟩ (fun hHeld => ?_)
  clear hK K
  try simp only [Act.put, List.setIfInBounds_toArray, List.set_cons_zero, List.set_cons_succ]
  refine wpAnyH_take (i := 23) (oi := { dst := some 56, op := Op.binOp BinOp.eql 3 (Operand.tmp 48) (Operand.tmp 55) 3, type := 4, pos := "law.go:52", after := #[{ on := 15, ground := Ground.data }, { on := 22, ground := Ground.data }, { on := 13, ground := Ground.guard }], guard := some (13, true) }) (v := ?_) rfl (by kernel_rfl) (by kernel_rfl) (by kernel_rfl) (fun _ _ _ h => h) (Or.inl ⟨by rfl, ?_⟩) (by assumption) ?_
  rotate_left
  · intro w hSw; (try dsimp only at hSw); first | (go_simp; done) | (go_simp; with_reducible rfl)
  try simp only [Act.put, List.setIfInBounds_toArray, List.set_cons_zero, List.set_cons_succ]
  refine wpAnyH_take (i := 24) (oi := { dst := some 57, op := Op.pick (Operand.tmp 46) (Operand.tmp 56) (Operand.const (Value.bool false)), type := 4, pos := "law.go:52", after := #[{ on := 13, ground := Ground.data }, { on := 23, ground := Ground.data }], guard := none }) (v := ?_) rfl (by kernel_rfl) (by kernel_rfl) (by kernel_rfl) (fun _ _ _ h => h) (Or.inl ⟨by rfl, ?_⟩) (by assumption) ?_
  rotate_left
  · intro w hSw; (try dsimp only at hSw); first | (go_simp; done) | (go_simp; with_reducible rfl)
  try simp only [Act.put, List.setIfInBounds_toArray, List.set_cons_zero, List.set_cons_succ]
  refine wpAnyH_take (i := 25) (oi := { dst := some 58, op := Op.move (Operand.tmp 57), type := 4, pos := "law.go:52", after := #[{ on := 24, ground := Ground.data }, { on := 15, ground := Ground.chain }], guard := none }) (v := ?_) rfl (by kernel_rfl) (by kernel_rfl) (by kernel_rfl) (fun _ _ _ h => h) (Or.inl ⟨by rfl, ?_⟩) (by assumption) ?_
  rotate_left
  · intro w hSw; (try dsimp only at hSw); first | (go_simp; done) | (go_simp; with_reducible rfl)
  try simp only [Act.put, List.setIfInBounds_toArray, List.set_cons_zero, List.set_cons_succ]
  refine wpAnyH_take (i := 26) (oi := { dst := some 59, op := Op.fieldAddr 72 (Operand.tmp 9) 0, type := 0, pos := "law.go:52", after := #[{ on := 25, ground := Ground.guard }], guard := some (25, true) }) (v := ?_) rfl (by kernel_rfl) (by kernel_rfl) (by kernel_rfl) (fun _ _ _ h => h) (Or.inl ⟨by rfl, ?_⟩) (by assumption) ?_
  rotate_left
  · intro w hSw; (try dsimp only at hSw); first | (go_simp; done) | (go_simp; with_reducible rfl)
  try simp only [Act.put, List.setIfInBounds_toArray, List.set_cons_zero, List.set_cons_succ]
  refine wpAnyH_take (i := 27) (oi := { dst := some 60, op := Op.load 23 (Operand.tmp 59), type := 23, pos := "law.go:52", after := #[{ on := 26, ground := Ground.data }, { on := 25, ground := Ground.guard }], guard := some (25, true) }) (v := ?_) rfl (by kernel_rfl) (by kernel_rfl) (by kernel_rfl) (fun _ _ _ h => h) (Or.inl ⟨by rfl, ?_⟩) (by assumption) ?_
  rotate_left
  · intro w hSw; (try dsimp only at hSw); first | (go_simp; done) | (go_simp; with_reducible rfl)
  try simp only [Act.put, List.setIfInBounds_toArray, List.set_cons_zero, List.set_cons_succ]
  refine wpAnyH_take (i := 28) (oi := { dst := some 61, op := Op.fieldAddr 79 (Operand.tmp 10) 0, type := 0, pos := "law.go:52", after := #[{ on := 25, ground := Ground.guard }], guard := some (25, true) }) (v := ?_) rfl (by kernel_rfl) (by kernel_rfl) (by kernel_rfl) (fun _ _ _ h => h) (Or.inl ⟨by rfl, ?_⟩) (by assumption) ?_
  rotate_left
  · intro w hSw; (try dsimp only at hSw); first | (go_simp; done) | (go_simp; with_reducible rfl)
  try simp only [Act.put, List.setIfInBounds_toArray, List.set_cons_zero, List.set_cons_succ]
  refine wpAnyH_take (i := 29) (oi := { dst := some 62, op := Op.load 23 (Operand.tmp 61), type := 23, pos := "law.go:52", after := #[{ on := 28, ground := Ground.data }, { on := 25, ground := Ground.guard }], guard := some (25, true) }) (v := ?_) rfl (by kernel_rfl) (by kernel_rfl) (by kernel_rfl) (fun _ _ _ h => h) (Or.inl ⟨by rfl, ?_⟩) (by assumption) ?_
  rotate_left
  · intro w hSw; (try dsimp only at hSw); first | (go_simp; done) | (go_simp; with_reducible rfl)
  try simp only [Act.put, List.setIfInBounds_toArray, List.set_cons_zero, List.set_cons_succ]
  refine wpAnyH_take (i := 30) (oi := { dst := some 63, op := Op.binOp BinOp.eql 23 (Operand.tmp 60) (Operand.tmp 62) 23, type := 4, pos := "law.go:52", after := #[{ on := 27, ground := Ground.data }, { on := 29, ground := Ground.data }, { on := 25, ground := Ground.guard }], guard := some (25, true) }) (v := ?_) rfl (by kernel_rfl) (by kernel_rfl) (by kernel_rfl) (fun _ _ _ h => h) (Or.inl ⟨by rfl, ?_⟩) (by assumption) ?_
  rotate_left
  · intro w hSw; (try dsimp only at hSw); first | (go_simp; done) | (go_simp; with_reducible rfl)
  try simp only [Act.put, List.setIfInBounds_toArray, List.set_cons_zero, List.set_cons_succ]
  refine wpAnyH_take (i := 31) (oi := { dst := some 64, op := Op.pick (Operand.tmp 58) (Operand.tmp 63) (Operand.const (Value.bool false)), type := 4, pos := "law.go:52", after := #[{ on := 25, ground := Ground.data }, { on := 30, ground := Ground.data }], guard := none }) (v := ?_) rfl (by kernel_rfl) (by kernel_rfl) (by kernel_rfl) (fun _ _ _ h => h) (Or.inl ⟨by rfl, ?_⟩) (by assumption) ?_
  rotate_left
  · intro w hSw; (try dsimp only at hSw); first | (go_simp; done) | (go_simp; with_reducible rfl)
  try simp only [Act.put, List.setIfInBounds_toArray, List.set_cons_zero, List.set_cons_succ]
  refine wpAnyH_take (i := 32) (oi := { dst := some 65, op := Op.move (Operand.tmp 64), type := 4, pos := "law.go:52", after := #[{ on := 31, ground := Ground.data }, { on := 25, ground := Ground.chain }], guard := none }) (v := ?_) rfl (by kernel_rfl) (by kernel_rfl) (by kernel_rfl) (fun _ _ _ h => h) (Or.inl ⟨by rfl, ?_⟩) (by assumption) ?_
  rotate_left
  · intro w hSw; (try dsimp only at hSw); first | (go_simp; done) | (go_simp; with_reducible rfl)
  try simp only [Act.put, List.setIfInBounds_toArray, List.set_cons_zero, List.set_cons_succ]
  refine wpAnyH_take (i := 33) (oi := { dst := some 66, op := Op.fieldAddr 72 (Operand.tmp 9) 1, type := 0, pos := "law.go:52", after := #[{ on := 32, ground := Ground.guard }], guard := some (32, true) }) (v := ?_) rfl (by kernel_rfl) (by kernel_rfl) (by kernel_rfl) (fun _ _ _ h => h) (Or.inl ⟨by rfl, ?_⟩) (by assumption) ?_
  rotate_left
  · intro w hSw; (try dsimp only at hSw); first | (go_simp; done) | (go_simp; with_reducible rfl)
  try simp only [Act.put, List.setIfInBounds_toArray, List.set_cons_zero, List.set_cons_succ]
  refine wpAnyH_take (i := 34) (oi := { dst := some 67, op := Op.load 67 (Operand.tmp 66), type := 67, pos := "law.go:52", after := #[{ on := 33, ground := Ground.data }, { on := 32, ground := Ground.guard }], guard := some (32, true) }) (v := ?_) rfl (by kernel_rfl) (by kernel_rfl) (by kernel_rfl) (fun _ _ _ h => h) (Or.inl ⟨by rfl, ?_⟩) (by assumption) ?_
  rotate_left
  · intro w hSw; (try dsimp only at hSw); first | (go_simp; done) | (go_simp; with_reducible rfl)
  try simp only [Act.put, List.setIfInBounds_toArray, List.set_cons_zero, List.set_cons_succ]
  refine wpAnyH_take (i := 36) (oi := { dst := some 69, op := Op.fieldAddr 79 (Operand.tmp 10) 1, type := 0, pos := "law.go:52", after := #[{ on := 32, ground := Ground.guard }], guard := some (32, true) }) (v := ?_) rfl (by kernel_rfl) (by kernel_rfl) (by kernel_rfl) (fun _ _ _ h => h) (Or.inl ⟨by rfl, ?_⟩) (by assumption) ?_
  rotate_left
  · intro w hSw; (try dsimp only at hSw); first | (go_simp; done) | (go_simp; with_reducible rfl)
  try simp only [Act.put, List.setIfInBounds_toArray, List.set_cons_zero, List.set_cons_succ]
  refine wpAnyH_take (i := 37) (oi := { dst := some 70, op := Op.load 75 (Operand.tmp 69), type := 75, pos := "law.go:52", after := #[{ on := 36, ground := Ground.data }, { on := 32, ground := Ground.guard }], guard := some (32, true) }) (v := ?_) rfl (by kernel_rfl) (by kernel_rfl) (by kernel_rfl) (fun _ _ _ h => h) (Or.inl ⟨by rfl, ?_⟩) (by assumption) ?_
  rotate_left
  · intro w hSw; (try dsimp only at hSw); first | (go_simp; done) | (go_simp; with_reducible rfl)
  try simp only [Act.put, List.setIfInBounds_toArray, List.set_cons_zero, List.set_cons_succ]
  refine wpAnyH_ready (rs := [35]) (by kernel_rfl) (by simp) ?_
  refine AllReadyH.cons (o := { dst := some 68, op := Op.call { callee := Callee.value (Operand.func 50), args := #[Operand.tmp 67], argTypes := #[67] }, type := 75, pos := "law.go:52", after := #[{ on := 34, ground := Ground.data }, { on := 32, ground := Ground.chain }, { on := 32, ground := Ground.guard }], guard := some (32, true) }) rfl (fun K hK => ?_) AllReadyH.nil
  go_simp
  go_at_call 50
  first | with_reducible refine calls_ever (Ps := Ps) (by assumption) HO1.out ?_ | with_reducible refine calls_ever (Ps := Ps) (by assumption) HO2.out ?_
  clear hE2
  intro w2 hE2
  go_wp2_with fail
  clear hHeld
  refine hK.out _ _ ⟨(HN.out _ hE2.now).1, hE2⟩ (fun hHeld => ?_)
  clear hK K
  try simp only [Act.put, List.setIfInBounds_toArray, List.set_cons_zero, List.set_cons_succ]
  refine wpAnyH_ready (rs := [38]) (by kernel_rfl) (by simp) ?_
  refine AllReadyH.cons (o := { dst := some 71, op := Op.call { callee := Callee.value (Operand.func 62), args := #[Operand.tmp 68, Operand.tmp 70], argTypes := #[75, 75] }, type := 4, pos := "law.go:52", after := #[{ on := 35, ground := Ground.data }, { on := 37, ground := Ground.data }, { on := 35, ground := Ground.chain }, { on := 32, ground := Ground.guard }], guard := some (32, true) }) rfl (fun K hK => ?_) AllReadyH.nil
  go_simp
  go_at_call 62
  first | with_reducible refine calls_ever (Ps := Ps) (by assumption) HS1.out ?_ | with_reducible refine calls_ever (Ps := Ps) (by assumption) HS2.out ?_
  clear hE2
  intro w2 hE2
  go_wp2_with fail
  clear hHeld
  refine hK.out _ _ ⟨(HN.out _ hE2.now).1, hE2⟩ (fun hHeld => ?_)
  clear hK K
  try simp only [Act.put, List.setIfInBounds_toArray, List.set_cons_zero, List.set_cons_succ]
  refine wpAnyH_take (i := 39) (oi := { dst := some 72, op := Op.pick (Operand.tmp 65) (Operand.tmp 71) (Operand.const (Value.bool false)), type := 4, pos := "law.go:52", after := #[{ on := 32, ground := Ground.data }, { on := 38, ground := Ground.data }], guard := none }) (v := ?_) rfl (by kernel_rfl) (by kernel_rfl) (by kernel_rfl) (fun _ _ _ h => h) (Or.inl ⟨by rfl, ?_⟩) (by assumption) ?_
  rotate_left
  · intro w hSw; (try dsimp only at hSw); first | (go_simp; done) | (go_simp; with_reducible rfl)
  try simp only [Act.put, List.setIfInBounds_toArray, List.set_cons_zero, List.set_cons_succ]
  refine wpAnyH_take (i := 40) (oi := { dst := some 73, op := Op.move (Operand.tmp 72), type := 4, pos := "law.go:52", after := #[{ on := 39, ground := Ground.data }, { on := 38, ground := Ground.chain }], guard := none }) (v := ?_) rfl (by kernel_rfl) (by kernel_rfl) (by kernel_rfl) (fun _ _ _ h => h) (Or.inl ⟨by rfl, ?_⟩) (by assumption) ?_
  rotate_left
  · intro w hSw; (try dsimp only at hSw); first | (go_simp; done) | (go_simp; with_reducible rfl)
  try simp only [Act.put, List.setIfInBounds_toArray, List.set_cons_zero, List.set_cons_succ]
  refine wpAnyH_take (i := 41) (oi := { dst := some 74, op := Op.move (Operand.tmp 7), type := 81, pos := "law.go:52", after := #[{ on := 40, ground := Ground.guard }], guard := some (40, true) }) (v := ?_) rfl (by kernel_rfl) (by kernel_rfl) (by kernel_rfl) (fun _ _ _ h => h) (Or.inl ⟨by rfl, ?_⟩) (by assumption) ?_
  rotate_left
  · intro w hSw; (try dsimp only at hSw); first | (go_simp; done) | (go_simp; with_reducible rfl)
  try simp only [Act.put, List.setIfInBounds_toArray, List.set_cons_zero, List.set_cons_succ]
  refine wpAnyH_take (i := 43) (oi := { dst := some 76, op := Op.move (Operand.tmp 8), type := 89, pos := "law.go:52", after := #[{ on := 40, ground := Ground.guard }], guard := some (40, true) }) (v := ?_) rfl (by kernel_rfl) (by kernel_rfl) (by kernel_rfl) (fun _ _ _ h => h) (Or.inl ⟨by rfl, ?_⟩) (by assumption) ?_
  rotate_left
  · intro w hSw; (try dsimp only at hSw); first | (go_simp; done) | (go_simp; with_reducible rfl)
  try simp only [Act.put, List.setIfInBounds_toArray, List.set_cons_zero, List.set_cons_succ]
  refine wpAnyH_take (i := 44) (oi := { dst := some 77, op := Op.nilCheck (Operand.tmp 76), type := 0, pos := "law.go:52", after := #[{ on := 43, ground := Ground.data }, { on := 40, ground := Ground.guard }], guard := some (40, true) }) (v := ?_) rfl (by kernel_rfl) (by kernel_rfl) (by kernel_rfl) (fun _ _ _ h => h) (Or.inl ⟨by rfl, ?_⟩) (by assumption) ?_
  rotate_left
  · intro w hSw; (try dsimp only at hSw); first | (go_simp; done) | (go_simp; with_reducible rfl)
  try simp only [Act.put, List.setIfInBounds_toArray, List.set_cons_zero, List.set_cons_succ]
  refine wpAnyH_take (i := 45) (oi := { dst := some 78, op := Op.fieldAddr 91 (Operand.tmp 77) 2, type := 0, pos := "law.go:52", after := #[{ on := 44, ground := Ground.data }, { on := 40, ground := Ground.guard }], guard := some (40, true) }) (v := ?_) rfl (by kernel_rfl) (by kernel_rfl) (by kernel_rfl) (fun _ _ _ h => h) (Or.inl ⟨by rfl, ?_⟩) (by assumption) ?_
  rotate_left
  · intro w hSw; (try dsimp only at hSw); first | (go_simp; done) | (go_simp; with_reducible rfl)
  try simp only [Act.put, List.setIfInBounds_toArray, List.set_cons_zero, List.set_cons_succ]
  refine wpAnyH_take (i := 46) (oi := { dst := some 79, op := Op.load 3 (Operand.tmp 78), type := 3, pos := "law.go:52", after := #[{ on := 45, ground := Ground.data }, { on := 40, ground := Ground.guard }], guard := some (40, true) }) (v := ?_) rfl (by kernel_rfl) (by kernel_rfl) (by kernel_rfl) (fun _ _ _ h => h) (Or.inl ⟨by rfl, ?_⟩) (by assumption) ?_
  rotate_left
  · intro w hSw; (try dsimp only at hSw); first | (go_simp; done) | (go_simp; with_reducible rfl)
  try simp only [Act.put, List.setIfInBounds_toArray, List.set_cons_zero, List.set_cons_succ]
  refine wpAnyH_ready (rs := [42]) (by kernel_rfl) (by simp) ?_
  refine AllReadyH.cons (o := { dst := some 75, op := Op.call { callee := Callee.value (Operand.func 56), args := #[Operand.tmp 74], argTypes := #[81] }, type := 84, pos := "law.go:52", after := #[{ on := 41, ground := Ground.data }, { on := 40, ground := Ground.chain }, { on := 40, ground := Ground.guard }], guard := some (40, true) }) rfl (fun K hK => ?_) AllReadyH.nil
  go_simp
  go_at_call 56
  first | with_reducible refine calls_ever (Ps := Ps) (by assumption) HE1.out ?_ | with_reducible refine calls_ever (Ps := Ps) (by assumption) HE2.out ?_
  clear hE2
  intro w2 hE2
  go_wp2_with fail
  clear hHeld
  refine hK.out _ _ ⟨(HN.out _ hE2.now).1, hE2⟩ (fun hHeld => ?_)
  clear hK K
  try simp only [Act.put, List.setIfInBounds_toArray, List.set_cons_zero, List.set_cons_succ]
  refine wpAnyH_take (i := 47) (oi := { dst := some 80, op := Op.binOp BinOp.eql 3 (Operand.tmp 75) (Operand.tmp 79) 3, type := 4, pos := "law.go:52", after := #[{ on := 42, ground := Ground.data }, { on := 46, ground := Ground.data }, { on := 40, ground := Ground.guard }], guard := some (40, true) }) (v := ?_) rfl (by kernel_rfl) (by kernel_rfl) (by kernel_rfl) (fun _ _ _ h => h) (Or.inl ⟨by rfl, ?_⟩) (by assumption) ?_
  rotate_left
  · intro w hSw; (try dsimp only at hSw); first | (go_simp; done) | (go_simp; with_reducible rfl)
  try simp only [Act.put, List.setIfInBounds_toArray, List.set_cons_zero, List.set_cons_succ]
  refine wpAnyH_take (i := 48) (oi := { dst := some 81, op := Op.pick (Operand.tmp 73) (Operand.tmp 80) (Operand.const (Value.bool false)), type := 4, pos := "law.go:52", after := #[{ on := 40, ground := Ground.data }, { on := 47, ground := Ground.data }], guard := none }) (v := ?_) rfl (by kernel_rfl) (by kernel_rfl) (by kernel_rfl) (fun _ _ _ h => h) (Or.inl ⟨by rfl, ?_⟩) (by assumption) ?_
  rotate_left
  · intro w hSw; (try dsimp only at hSw); first | (go_simp; done) | (go_simp; with_reducible rfl)
  try simp only [Act.put, List.setIfInBounds_toArray, List.set_cons_zero, List.set_cons_succ]
  refine wpAnyH_take (i := 49) (oi := { dst := some 82, op := Op.move (Operand.tmp 81), type := 4, pos := "law.go:52", after := #[{ on := 48, ground := Ground.data }, { on := 42, ground := Ground.chain }], guard := none }) (v := ?_) rfl (by kernel_rfl) (by kernel_rfl) (by kernel_rfl) (fun _ _ _ h => h) (Or.inl ⟨by rfl, ?_⟩) (by assumption) ?_
  rotate_left
  · intro w hSw; (try dsimp only at hSw); first | (go_simp; done) | (go_simp; with_reducible rfl)
  try simp only [Act.put, List.setIfInBounds_toArray, List.set_cons_zero, List.set_cons_succ]
  refine wpAnyH_take (i := 50) (oi := { dst := some 83, op := Op.move (Operand.tmp 7), type := 81, pos := "law.go:52", after := #[{ on := 49, ground := Ground.guard }], guard := some (49, true) }) (v := ?_) rfl (by kernel_rfl) (by kernel_rfl) (by kernel_rfl) (fun _ _ _ h => h) (Or.inl ⟨by rfl, ?_⟩) (by assumption) ?_
  rotate_left
  · intro w hSw; (try dsimp only at hSw); first | (go_simp; done) | (go_simp; with_reducible rfl)
  try simp only [Act.put, List.setIfInBounds_toArray, List.set_cons_zero, List.set_cons_succ]
  refine wpAnyH_take (i := 52) (oi := { dst := some 85, op := Op.move (Operand.tmp 0), type := 65, pos := "law.go:52", after := #[{ on := 49, ground := Ground.guard }], guard := some (49, true) }) (v := ?_) rfl (by kernel_rfl) (by kernel_rfl) (by kernel_rfl) (fun _ _ _ h => h) (Or.inl ⟨by rfl, ?_⟩) (by assumption) ?_
  rotate_left
  · intro w hSw; (try dsimp only at hSw); first | (go_simp; done) | (go_simp; with_reducible rfl)
  try simp only [Act.put, List.setIfInBounds_toArray, List.set_cons_zero, List.set_cons_succ]
  refine wpAnyH_take (i := 53) (oi := { dst := some 86, op := Op.call { callee := Callee.builtin Builtin.len, args := #[Operand.tmp 85], argTypes := #[65] }, type := 3, pos := "law.go:52", after := #[{ on := 52, ground := Ground.data }, { on := 49, ground := Ground.guard }], guard := some (49, true) }) (v := ?_) rfl (by kernel_rfl) (by kernel_rfl) (by kernel_rfl) (fun _ _ _ h => h) (Or.inl ⟨by rfl, ?_⟩) (by assumption) ?_
  rotate_left
  · intro w hSw; (try dsimp only at hSw); first | (go_simp; done) | (go_simp; with_reducible rfl)
  try simp only [Act.put, List.setIfInBounds_toArray, List.set_cons_zero, List.set_cons_succ]
  refine wpAnyH_take (i := 54) (oi := { dst := some 87, op := Op.move (Operand.tmp 8), type := 89, pos := "law.go:52", after := #[{ on := 49, ground := Ground.guard }], guard := some (49, true) }) (v := ?_) rfl (by kernel_rfl) (by kernel_rfl) (by kernel_rfl) (fun _ _ _ h => h) (Or.inl ⟨by rfl, ?_⟩) (by assumption) ?_
  rotate_left
  · intro w hSw; (try dsimp only at hSw); first | (go_simp; done) | (go_simp; with_reducible rfl)
  try simp only [Act.put, List.setIfInBounds_toArray, List.set_cons_zero, List.set_cons_succ]
  refine wpAnyH_take (i := 55) (oi := { dst := some 88, op := Op.nilCheck (Operand.tmp 87), type := 0, pos := "law.go:52", after := #[{ on := 54, ground := Ground.data }, { on := 49, ground := Ground.guard }], guard := some (49, true) }) (v := ?_) rfl (by kernel_rfl) (by kernel_rfl) (by kernel_rfl) (fun _ _ _ h => h) (Or.inl ⟨by rfl, ?_⟩) (by assumption) ?_
  rotate_left
  · intro w hSw; (try dsimp only at hSw); first | (go_simp; done) | (go_simp; with_reducible rfl)
  try simp only [Act.put, List.setIfInBounds_toArray, List.set_cons_zero, List.set_cons_succ]
  refine wpAnyH_take (i := 56) (oi := { dst := some 89, op := Op.fieldAddr 91 (Operand.tmp 88) 1, type := 0, pos := "law.go:52", after := #[{ on := 55, ground := Ground.data }, { on := 49, ground := Ground.guard }], guard := some (49, true) }) (v := ?_) rfl (by kernel_rfl) (by kernel_rfl) (by kernel_rfl) (fun _ _ _ h => h) (Or.inl ⟨by rfl, ?_⟩) (by assumption) ?_
  rotate_left
  · intro w hSw; (try dsimp only at hSw); first | (go_simp; done) | (go_simp; with_reducible rfl)
  try simp only [Act.put, List.setIfInBounds_toArray, List.set_cons_zero, List.set_cons_succ]
  refine wpAnyH_take (i := 57) (oi := { dst := some 90, op := Op.load 3 (Operand.tmp 89), type := 3, pos := "law.go:52", after := #[{ on := 56, ground := Ground.data }, { on := 49, ground := Ground.guard }], guard := some (49, true) }) (v := ?_) rfl (by kernel_rfl) (by kernel_rfl) (by kernel_rfl) (fun _ _ _ h => h) (Or.inl ⟨by rfl, ?_⟩) (by assumption) ?_
  rotate_left
  · intro w hSw; (try dsimp only at hSw); first | (go_simp; done) | (go_simp; with_reducible rfl)
  try simp only [Act.put, List.setIfInBounds_toArray, List.set_cons_zero, List.set_cons_succ]
  refine wpAnyH_take (i := 58) (oi := { dst := some 91, op := Op.binOp BinOp.sub 3 (Operand.tmp 86) (Operand.tmp 90) 3, type := 3, pos := "law.go:52", after := #[{ on := 53, ground := Ground.data }, { on := 57, ground := Ground.data }, { on := 49, ground := Ground.guard }], guard := some (49, true) }) (v := ?_) rfl (by kernel_rfl) (by kernel_rfl) (by kernel_rfl) (fun _ _ _ h => h) (Or.inl ⟨by rfl, ?_⟩) (by assumption) ?_
  rotate_left
  · intro w hSw; (try dsimp only at hSw); first | (go_simp; done) | (go_simp; with_reducible rfl)
  try simp only [Act.put, List.setIfInBounds_toArray, List.set_cons_zero, List.set_cons_succ]
  refine wpAnyH_ready (rs := [51]) (by kernel_rfl) (by simp) ?_
  refine AllReadyH.cons (o := { dst := some 84, op := Op.call { callee := Callee.value (Operand.func 58), args := #[Operand.tmp 83], argTypes := #[81] }, type := 3, pos := "law.go:52", after := #[{ on := 50, ground := Ground.data }, { on := 49, ground := Ground.chain }, { on := 49, ground := Ground.guard }], guard := some (49, true) }) rfl (fun K hK => ?_) AllReadyH.nil
  go_simp
  go_at_call 58
  first | with_reducible refine calls_ever (Ps := Ps) (by assumption) HF1.out ?_ | with_reducible refine calls_ever (Ps := Ps) (by assumption) HF2.out ?_
  clear hE2
  intro w2 hE2
  go_wp2_with fail
  clear hHeld
  refine hK.out _ _ ⟨(HN.out _ hE2.now).1, hE2⟩ (fun hHeld => ?_)
  clear hK K
  try simp only [Act.put, List.setIfInBounds_toArray, List.set_cons_zero, List.set_cons_succ]
  refine wpAnyH_take (i := 59) (oi := { dst := some 92, op := Op.binOp BinOp.eql 3 (Operand.tmp 84) (Operand.tmp 91) 3, type := 4, pos := "law.go:52", after := #[{ on := 51, ground := Ground.data }, { on := 58, ground := Ground.data }, { on := 49, ground := Ground.guard }], guard := some (49, true) }) (v := ?_) rfl (by kernel_rfl) (by kernel_rfl) (by kernel_rfl) (fun _ _ _ h => h) (Or.inl ⟨by rfl, ?_⟩) (by assumption) ?_
  rotate_left
  · intro w hSw; (try dsimp only at hSw); first | (go_simp; done) | (go_simp; with_reducible rfl)
  try simp only [Act.put, List.setIfInBounds_toArray, List.set_cons_zero, List.set_cons_succ]
  refine wpAnyH_take (i := 60) (oi := { dst := some 93, op := Op.pick (Operand.tmp 82) (Operand.tmp 92) (Operand.const (Value.bool false)), type := 4, pos := "law.go:52", after := #[{ on := 49, ground := Ground.data }, { on := 59, ground := Ground.data }], guard := none }) (v := ?_) rfl (by kernel_rfl) (by kernel_rfl) (by kernel_rfl) (fun _ _ _ h => h) (Or.inl ⟨by rfl, ?_⟩) (by assumption) ?_
  rotate_left
  · intro w hSw; (try dsimp only at hSw); first | (go_simp; done) | (go_simp; with_reducible rfl)
  try simp only [Act.put, List.setIfInBounds_toArray, List.set_cons_zero, List.set_cons_succ]
  refine wpAnyH_take (i := 61) (oi := { dst := some 2, op := Op.assign (Operand.tmp 93), type := 4, pos := "law.go:52", after := #[{ on := 60, ground := Ground.data }, { on := 51, ground := Ground.chain }, { on := 0, ground := Ground.phase }, { on := 1, ground := Ground.phase }, { on := 2, ground := Ground.phase }, { on := 3, ground := Ground.phase }, { on := 4, ground := Ground.phase }, { on := 5, ground := Ground.phase }, { on := 6, ground := Ground.phase }, { on := 7, ground := Ground.phase }, { on := 8, ground := Ground.phase }, { on := 9, ground := Ground.phase }, { on := 10, ground := Ground.phase }, { on := 11, ground := Ground.phase }, { on := 12, ground := Ground.phase }, { on := 13, ground := Ground.phase }, { on := 14, ground := Ground.phase }, { on := 15, ground := Ground.phase }, { on := 16, ground := Ground.phase }, { on := 17, ground := Ground.phase }, { on := 18, ground := Ground.phase }, { on := 19, ground := Ground.phase }, { on := 20, ground := Ground.phase }, { on := 21, ground := Ground.phase }, { on := 22, ground := Ground.phase }, { on := 23, ground := Ground.phase }, { on := 24, ground := Ground.phase }, { on := 25, ground := Ground.phase }, { on := 26, ground := Ground.phase }, { on := 27, ground := Ground.phase }, { on := 28, ground := Ground.phase }, { on := 29, ground := Ground.phase }, { on := 30, ground := Ground.phase }, { on := 31, ground := Ground.phase }, { on := 32, ground := Ground.phase }, { on := 33, ground := Ground.phase }, { on := 34, ground := Ground.phase }, { on := 35, ground := Ground.phase }, { on := 36, ground := Ground.phase }, { on := 37, ground := Ground.phase }, { on := 38, ground := Ground.phase }, { on := 39, ground := Ground.phase }, { on := 40, ground := Ground.phase }, { on := 41, ground := Ground.phase }, { on := 42, ground := Ground.phase }, { on := 43, ground := Ground.phase }, { on := 44, ground := Ground.phase }, { on := 45, ground := Ground.phase }, { on := 46, ground := Ground.phase }, { on := 47, ground := Ground.phase }, { on := 48, ground := Ground.phase }, { on := 49, ground := Ground.phase }, { on := 50, ground := Ground.phase }, { on := 51, ground := Ground.phase }, { on := 52, ground := Ground.phase }, { on := 53, ground := Ground.phase }, { on := 54, ground := Ground.phase }, { on := 55, ground := Ground.phase }, { on := 56, ground := Ground.phase }, { on := 57, ground := Ground.phase }, { on := 58, ground := Ground.phase }, { on := 59, ground := Ground.phase }, { on := 60, ground := Ground.phase }], guard := none }) (v := ?_) rfl (by kernel_rfl) (by kernel_rfl) (by kernel_rfl) (fun _ _ _ h => h) (Or.inl ⟨by rfl, ?_⟩) (by assumption) ?_
  rotate_left
  · intro w hSw; (try dsimp only at hSw); first | (go_simp; done) | (go_simp; with_reducible rfl)
  try simp only [Act.put, List.setIfInBounds_toArray, List.set_cons_zero, List.set_cons_succ]
  refine wpAnyH_done (by kernel_rfl) ?_ _
  refine NoPanic.normal ?_
  go_wp2
  go_ret
  exact ⟨rfl, (HN.out _ hE2.now).2.2.2⟩
end Go.Proofs.Ytefoeebchjnfaaa
