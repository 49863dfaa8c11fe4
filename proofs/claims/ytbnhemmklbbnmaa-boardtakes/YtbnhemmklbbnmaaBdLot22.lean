/-
  TEXTS OF EARLIER ROUNDS, laid together: part 22.
  No statement is proved here.
-/
import Derived.Test.YtbnhemmklbbnmaaBdLot21
import Derived.Deep.Onto
import Derived.Test.YtbnhemmklbbnmaaBdLot14
import Derived.Test.YtbnhemmklbbnmaaBdLot18

/-! ## BoardNew -/
namespace Go.Proofs.Ytbnhemmklbbnmaa
open Go.RowKit Go.Sort Go.Maps

theorem Al.more {w : World} {S : Nat → Prop} {base base' a : Nat} {l : List En} (h : Al w S base a l) (hb : base' ≤ base) : Al w S base' a l := by
  obtain ⟨mb, A, n, c, d, f, h1, h2⟩ := h.ex
  exact ⟨mb, A, n, c, d, f, { h1 with hq := { h1.hq with own := h1.hq.own.mono hb }, sl := fun k hk => ⟨Nat.le_trans hb (h1.sl k hk).1, (h1.sl k hk).2⟩ }, h2⟩
/-- The world behind a Clear's first two lines. -/
def clrW (w : World) (bd : Nat) : World :=
  ((((w.setCell ⟨bd, 3, none⟩ (.map (some w.heap.size))).setCell ⟨bd, 4, none⟩ (.map (some (w.heap.size + 1)))).setCell ⟨bd, 5, none⟩ (.slice none 0 0)).alloc (.map #[] 0)).alloc (.map #[] 0)
theorem clr_mem {w : World} {bd f m last : Nat} {v3 v4 v5 v6 : Value} (h : w.heap[bd]? = some (.cells #[.int .i64 (f : Int), .int .i64 (m : Int), .int .u64 (last : Int), v3, v4, v5, v6] 78 (0, 0))) :
    (clrW w bd).heap[bd]? = some (.cells #[.int .i64 (f : Int), .int .i64 (m : Int), .int .u64 (last : Int), .map (some w.heap.size), .map (some (w.heap.size + 1)), .slice none 0 0, v6] 78 (0, 0)) ∧
      Mv Try.prog 34 (clrW w bd) w.heap.size 0 (fun _ => none) ∧ Mv Try.prog 34 (clrW w bd) (w.heap.size + 1) 0 (fun _ => none) ∧ Only (fun k => k = bd) w (clrW w bd) ∧ (clrW w bd).heap.size = w.heap.size + 2 := by
  have hlt := lt_at h
  have h1 := at_set (at_set (at_set h 3 (.map (some w.heap.size))) 4 (.map (some (w.heap.size + 1)))) 5 (.slice none 0 0)
  have ho : Only (fun k => k = bd) w (((w.setCell ⟨bd, 3, none⟩ (.map (some w.heap.size))).setCell ⟨bd, 4, none⟩ (.map (some (w.heap.size + 1)))).setCell ⟨bd, 5, none⟩ (.slice none 0 0)) := ((Only.setCell _ bd 3 _).trans (Only.setCell _ bd 4 _) (fun _ _ k => k)).trans (Only.setCell _ bd 5 _) (fun _ _ k => k)
  have hz : (((w.setCell ⟨bd, 3, none⟩ (.map (some w.heap.size))).setCell ⟨bd, 4, none⟩ (.map (some (w.heap.size + 1)))).setCell ⟨bd, 5, none⟩ (.slice none 0 0)).heap.size = w.heap.size := by simp
  unfold clrW
  generalize ((w.setCell ⟨bd, 3, none⟩ (.map (some w.heap.size))).setCell ⟨bd, 4, none⟩ (.map (some (w.heap.size + 1)))).setCell ⟨bd, 5, none⟩ (.slice none 0 0) = v at *
  have s1 : (v.alloc (.map #[] 0)).heap.size = w.heap.size + 1 := by simp [hz]
  have e0 : ((v.alloc (.map #[] 0)).alloc (.map #[] 0)).heap[bd]? = v.heap[bd]? := (RowKit.Below.heap_alloc _ _ _ (by omega)).trans (RowKit.Below.heap_alloc _ _ _ (by omega))
  have m1 := (Mv.made Try.prog 34 v).kept (RowKit.Below.heap_alloc (v.alloc (.map #[] 0)) (.map #[] 0) v.heap.size (by omega))
  have m2 := Mv.made Try.prog 34 (v.alloc (.map #[] 0))
  rw [s1] at m2
  rw [hz] at m1
  have hb : RowKit.Below v.heap.size v ((v.alloc (.map #[] 0)).alloc (.map #[] 0)) := (below_box v _).trans ((below_box (v.alloc (.map #[] 0)) _).mono (by omega))
  exact ⟨e0.trans h1, m1, m2, ho.andBelow hb, by simp [hz]⟩
def BCleared (w : World) (base bd f m last : Nat) (e : Ending) (w' : World) : Prop :=
  e = .returned (.tuple #[]) ∧ ∃ gm hm Sa a, BP w' base bd f m last gm hm none 0 0 Sa a [] 0 0 (fun _ => none) (fun _ => none) [] [] ∧ Only (fun k => k = bd) w w' ∧ ∀ k, FtB bd gm hm none Sa [] k → k = bd ∨ w.heap.size ≤ k
set_option maxRecDepth 100000 in
set_option maxHeartbeats 4000000 in
theorem bclear_any (w : World) (base bd f m last : Nat) (v3 v4 v5 v6 : Value) (h : w.heap[bd]? = some (.cells #[.int .i64 (f : Int), .int .i64 (m : Int), .int .u64 (last : Int), v3, v4, v5, v6] 78 (0, 0))) (hb : base ≤ bd) :
    Calls Try.prog 17 #[.pointer (some ⟨bd, 0, none⟩)] w (BCleared w base bd f m last) := by
  have HM := Lib.hid (clr_mem h)
  have hlt := lt_at h
  have hz1 : (w.alloc (.map #[] 0)).heap.size = w.heap.size + 1 := by simp
  have hmm := @run_makeMap Try.prog
  have hr := (RowKit.Below.heap_alloc (w.alloc (.map #[] 0)) (.map #[] 0) bd (by omega)).trans ((RowKit.Below.heap_alloc w (.map #[] 0) bd hlt).trans h)
  have f3 := frz_blk (i := 3) h
  have f4 := frz_blk (i := 4) h
  have f5 := frz_blk (i := 5) h
  have c3 := cell_at h 3 (v := v3) rfl
  have c4 := cell_at h 4 (v := v4) rfl
  have c5 := cell_at h 5 (v := v5) rfl
  clear hr h
  go_enter Try.func17, Try.ntmps17
  go_wp2_with fail
  rw [show (((((w.setCell ⟨bd, 3, none⟩ (.map (some w.heap.size))).setCell ⟨bd, 4, none⟩ (.map (some (w.heap.size + 1)))).setCell ⟨bd, 5, none⟩ (.slice none 0 0)).alloc (.map #[] 0)).alloc (.map #[] 0)) = clrW w bd from rfl]
  clear f3 f4 f5 c3 c4 c5
  generalize clrW w bd = v at *
  refine (anew_any v).mono ?_
  rintro e w5 ⟨a, Sa, rfl, hal, hb5⟩
  have hblk5 := (hb5.block bd (by have := HM.out.2.2.2.2; omega)).trans HM.out.1
  have f6 := frz_blk (i := 6) hblk5
  have c6 := cell_at hblk5 6 (v := v6) rfl
  have HBL := Lib.hid hblk5
  have HAL := Lib.hid hal
  have HB5 := Lib.hid hb5
  clear hblk5 hal hb5
  go_wp2
  go_end0
  have hblk6 := at_set HBL.out 6 (.pointer (some ⟨a, 0, none⟩))
  have hz5 := HB5.out.size
  have ho6 := Only.setCell w5 bd 6 (.pointer (some ⟨a, 0, none⟩))
  have hzv := HM.out.2.2.2.2
  have hsl := HAL.out.sl
  have hbS : ¬ Sa bd := fun e => by have := hsl bd e; omega
  refine ⟨rfl, w.heap.size, w.heap.size + 1, Sa, a, ⟨hblk6, (HM.out.2.1.kept (HB5.out.block _ HM.out.2.1.lt)).kept (ho6.block _ (by omega) (by omega)), (HM.out.2.2.1.kept (HB5.out.block _ HM.out.2.2.1.lt)).kept (ho6.block _ (by omega) (by omega)), World.ownsRow_nil _ _ _ _, (HAL.out.more (by omega)).only ho6 (fun k _ e => by rw [e]; exact hbS), (fun g hg => by cases hg), ?_, ?_, (fun b hb2 => by cases hb2)⟩, ?_, ?_⟩
  · unfold ownB
    simp
    omega
  · intro k hk
    unfold ownB at hk
    simp at hk
    rw [World.size_setCell]
    rcases hk with rfl | rfl | rfl
    · exact ⟨hb, by omega, hbS, by simp [Value.ownBlock]⟩
    · exact ⟨by omega, by omega, fun e => by have := hsl _ e; omega, by simp [Value.ownBlock]⟩
    · exact ⟨by omega, by omega, fun e => by have := hsl _ e; omega, by simp [Value.ownBlock]⟩
  · exact (HM.out.2.2.2.1.andBelow HB5.out).trans ho6 (fun _ _ k => k)
  · intro k hk
    unfold FtB ownB at hk
    simp at hk
    rcases hk with (rfl | rfl | rfl) | hk | hk
    · exact .inl rfl
    · exact .inr (Nat.le_refl _)
    · exact .inr (by omega)
    · simp [Value.ownBlock] at hk
    · exact .inr (by have := hsl _ hk; omega)
def BNewOk (w : World) (f m : Nat) (e : Ending) (w' : World) : Prop :=
  ∃ bd gm hm Sa a, e = .returned (.tuple #[.pointer (some ⟨bd, 0, none⟩), .int .i64 0]) ∧ BP w' w.heap.size bd f m 0 gm hm none 0 0 Sa a [] 0 0 (fun _ => none) (fun _ => none) [] [] ∧ RowKit.Below w.heap.size w w'
set_option maxRecDepth 100000 in
set_option maxHeartbeats 4000000 in
theorem bnew_ok (w : World) (f m : Nat) (hp : Pr f m) : Calls Try.prog 10 #[prv (f : Int) (m : Int)] w (BNewOk w f m) := by
  have HR : Hid (∀ w1 : World, Calls Try.prog 31 #[prv (f : Int) (m : Int)] w1 (Ans w1 (.bool true))) := fun w1 => by
    rw [← rightI_yes hp]
    exact right_any w1 (f : Int) (m : Int)
  unfold prv at *
  go_enter Try.func10, Try.ntmps10
  go_wp2_with fail
  have hc0 := cell_last w #[.int .i64 (f : Int), .int .i64 (m : Int)] 26 w.heap.size 0 rfl
  have hc1 := cell_last w #[.int .i64 (f : Int), .int .i64 (m : Int)] 26 w.heap.size 1 rfl
  have hb1 := below_box w (.cells #[.int .i64 (f : Int), .int .i64 (m : Int)] 26)
  have hz1 : (w.alloc (.cells #[.int .i64 (f : Int), .int .i64 (m : Int)] 26)).heap.size = w.heap.size + 1 := by simp
  generalize w.alloc (.cells #[.int .i64 (f : Int), .int .i64 (m : Int)] 26) = w1 at *
  refine (HR.out w1).mono ?_
  rintro e w2 ⟨rfl, hb2⟩
  have hd0 : w2.cell? ⟨w.heap.size, 0, none⟩ = some (.int .i64 (f : Int)) := (hb2.cell (p := ⟨w.heap.size, 0, none⟩) (show w.heap.size < _ by omega)).trans hc0
  have hd1 : w2.cell? ⟨w.heap.size, 1, none⟩ = some (.int .i64 (m : Int)) := (hb2.cell (p := ⟨w.heap.size, 1, none⟩) (show w.heap.size < _ by omega)).trans hc1
  have HB2 : Hid (RowKit.Below w.heap.size w w2) := hb1.trans (hb2.mono (by omega))
  have hz2 := hb2.size
  clear hc0 hc1 hb1 hb2
  go_wp2_with fail
  have h3 := heap_alloc_new w2 (.cells #[.int .i64 (f : Int), .int .i64 (m : Int), .int .u64 0, .map none, .map none, .slice none 0 0, .pointer none] 78)
  have hb3 := below_box w2 (.cells #[.int .i64 (f : Int), .int .i64 (m : Int), .int .u64 0, .map none, .map none, .slice none 0 0, .pointer none] 78)
  have HC := Lib.hid (bclear_any _ w.heap.size w2.heap.size f m 0 _ _ _ _ h3 (by omega))
  have HB3 := Lib.hid hb3
  clear h3 hb3
  refine HC.out.mono ?_
  rintro e w4 ⟨rfl, gm, hm, Sa, a, hbp, ho, hft⟩
  have HBP := Lib.hid hbp
  have HO := Lib.hid ho
  clear hbp ho hft
  go_wp2_with fail
  go_ret2
  refine ⟨w2.heap.size, gm, hm, Sa, a, rfl, HBP.out, HB2.out.trans ?_⟩
  have h5 := HB3.out
  have h6 := HO.out
  exact ⟨h6.os.trans h5.os, h6.tape.trans h5.tape, h6.output.trans h5.output, Nat.le_trans h5.size h6.size, fun k hk => (h6.block k (by have := h5.size; omega) (by omega)).trans (h5.block k (by omega))⟩
set_option maxRecDepth 100000 in
set_option maxHeartbeats 4000000 in
theorem bnew_no (w : World) (f m : Int) (hp : rightI f m = false) : Calls Try.prog 10 #[prv f m] w (Ans w (.tuple #[.pointer none, .int .i64 1])) := by
  have HR : Hid (∀ w1 : World, Calls Try.prog 31 #[prv f m] w1 (Ans w1 (.bool false))) := fun w1 => by
    rw [← hp]
    exact right_any w1 f m
  unfold prv at *
  go_enter Try.func10, Try.ntmps10
  go_wp2_with fail
  have hb1 := below_box w (.cells #[.int .i64 f, .int .i64 m] 26)
  refine (HR.out _).mono ?_
  rintro e w2 ⟨rfl, hb2⟩
  have HB2 : Hid (RowKit.Below w.heap.size w w2) := hb1.trans (hb2.mono (by simp))
  clear hb1 hb2
  go_wp2_with fail
  go_ret2
  exact ⟨rfl, HB2.out⟩
end Go.Proofs.Ytbnhemmklbbnmaa

/-! ## BoardSend -/
namespace Go.Proofs.Ytbnhemmklbbnmaa
open Go.RowKit Go.Sort Go.Maps

def putAll (hF : Nat → Option Value) (ss : List Nat) (v : Value) : Nat → Option Value := fun k => if k ∈ ss then some v else hF k
theorem putAll_nil (hF : Nat → Option Value) (v : Value) : putAll hF [] v = hF := by funext k; simp [putAll]
theorem putAll_put (hF : Nat → Option Value) (ss : List Nat) (x : Nat) (v : Value) : putF (putAll hF ss v) x v = putAll hF (ss ++ [x]) v := by
  funext k
  unfold putF putAll
  by_cases e : k = x
  · subst e; simp
  · by_cases e2 : k ∈ ss <;> simp [e, e2]
theorem putAll_same (hF : Nat → Option Value) {ss mem : List Nat} (h : ∀ k, k ∈ ss ↔ k ∈ mem) (v : Value) : putAll hF ss v = putAll hF mem v := by
  funext k
  unfold putAll
  by_cases e : k ∈ ss
  · rw [if_pos e, if_pos ((h k).1 e)]
  · rw [if_neg e, if_neg (fun e2 => e ((h k).2 e2))]
theorem sortN_perm {a b : List Nat} (h : a.Perm b) : sortN a = sortN b := by
  refine List.Perm.eq_of_pairwise (le := fun x y => x ≤ y) (fun x y _ _ h1 h2 => Nat.le_antisymm h1 h2) (sortN_le a) (sortN_le b) ?_
  unfold sortN
  exact (List.mergeSort_perm a _).trans (h.trans (List.mergeSort_perm b _).symm)
theorem bump_snoc {q : Nat} {G : List Gp} {g : Gp} (h : ∀ x ∈ G, x.num ≠ q) (hg : g.num = q) : bump q (G ++ [g]) = G ++ [{ g with tries := g.tries + 1 }] := by
  unfold bump
  rw [List.map_append, List.map_cons, List.map_nil, if_pos hg]
  congr 1
  conv => rhs; rw [← List.map_id G]
  exact List.map_congr_left fun x hx => by rw [if_neg (h x hx)]; rfl
theorem ownB_snoc (bd gm hm : Nat) (G : List Gp) (g : Gp) : (ownB bd gm hm (G ++ [g])).Perm (g.gb :: g.mb :: ownB bd gm hm G) := by
  unfold ownB
  rw [List.map_append, List.map_append, List.map_cons, List.map_nil, List.map_cons, List.map_nil]
  refine List.perm_iff_count.2 fun x => ?_
  simp only [List.count_cons, List.count_append, List.count_nil]
  omega
theorem grown_any {w w' : World} {r : Option Nat} {p : Prop} [Decidable p] (h : w.grownBy w' (if p then none else r)) : w.grownBy w' r := by
  split at h
  · exact ⟨h.os, h.tape, h.output, h.size, fun k hk _ => h.block k hk (by simp)⟩
  · exact h
theorem oper_mvPut {P : Program} {w : World} {o : Oper} {a : Act} {K : Act → World → Prop} {Q : Exit → Act → World → Prop} (m x v : Operand) (mt : TypeId) (hop : o.op = Op.mapUpdate mt m x v) (t e : TypeId) (Kd : Keyed P t) (ht : P.underlying mt = some (.map t e)) (b n : Nat) (f : Nat → Option Value)
    (hm : a.eval m = .map (some b)) (h : Mv P t w b n f) (hn : n < maxLen) (q : Nat) (val : Value) (hx : a.eval x = .int .u64 (q : Int)) (hv : a.eval v = val) (hq : keyOf P t (.int .u64 (q : Int)) = some (kl q))
    (hK : ∀ w', Mv P t w' b (if (f q).isSome then n else n + 1) (putF f q val) → Only (fun k => k = b) w w' → K (a.put o.dst undef) w') : Oper.wp P o a w K Q := by
  obtain ⟨w', hrun, r1, r2⟩ := h.store Kd ht hn (v := val) hq
  unfold Oper.wp
  simp [execOp, hop, hm, hx, hv, hrun, Result.andThen]
  exact hK w' r1 r2
section
variable {w w' : World} {base bd f m last gm hm : Nat} {A : Option Addr} {n c : Nat} {Sa Q : Nat → Prop} {a : Nat} {G : List Gp} {gN hN : Nat} {gF hF : Nat → Option Value} {E : List En} {fl : List Nat} {g : Gp}
set_option maxRecDepth 100000 in
set_option maxHeartbeats 4000000 in
theorem bsend_none (h : BP w base bd f m last gm hm A n c Sa a G gN hN gF hF E fl) (A' : Option Addr) (n' c' : Nat) (l : List Nat) (hs : Sn w w.heap.size A' n' c' 1 (nvs l)) (hl : ∀ x ∈ l, x < 18446744073709551616) (hn : n' ≤ 100000) (h0 : freshL hF l = []) (now : Int) :
    Calls Try.prog 11 #[.pointer (some ⟨bd, 0, none⟩), .int .i64 now, .slice A' n' c'] w (Ans w (.int .u64 0)) := by
  have HFR := Lib.hid (bfresh_any h A' n' c' l hs hl hn)
  clear h hs hl
  go_enter Try.func11, Try.ntmps11
  go_wp2_with fail
  refine HFR.out.mono ?_
  rintro e w1 ⟨mb, rfl, hz, hmv, hb1⟩
  rw [h0] at hmv
  have HMV := Lib.hid hmv
  have HB1 := Lib.hid hb1
  clear hmv hb1
  have hlen := HMV.out.len Try.underlying79 3
  simp only [List.length_nil] at hlen
  go_wp2_with fail
  go_ret
  exact ⟨rfl, HB1.out⟩
def BSend (w : World) (base bd f m last gm hm : Nat) (A : Option Addr) (Sa : Nat → Prop) (a : Nat) (G : List Gp) (gN hN : Nat) (gF hF : Nat → Option Value) (E : List En) (fl mem : List Nat) (now : Int) (e : Ending) (w' : World) : Prop :=
  e = .returned (.int .u64 ((last + 1 : Nat) : Int)) ∧ ∃ gb mb A' n' c' Sa', BP w' base bd f m (last + 1) gm hm A' n' c' Sa' a (G ++ [⟨last + 1, 1, gb, mb, mem⟩]) (gN + 1) (hN + mem.length) (putF gF (last + 1) (.pointer (some ⟨gb, 0, none⟩))) (putAll hF mem (.pointer (some ⟨gb, 0, none⟩))) (setE (last + 1) (now + (wt f m 0 : Nat)) E) (sortN (fl ++ mem)) ∧
    Only (FtB bd gm hm A Sa G) w w' ∧ ∀ k, FtB bd gm hm A' Sa' (G ++ [⟨last + 1, 1, gb, mb, mem⟩]) k → FtB bd gm hm A Sa G k ∨ w.heap.size ≤ k
def SendRel (w3 w4 : World) (base bd f m last gm hm : Nat) (Sa : Nat → Prop) (a : Nat) (G : List Gp) (gN hN : Nat) (gF hF : Nat → Option Value) (E : List En) (fl mem : List Nat) (A0 : Option Addr) (gb mb rb : Nat) (gk : Nat) (wr : World) : Prop :=
  ∃ cnt ss A n c, gk = cnt ∧ Rg Try.prog 34 wr mb rb mem.length (memF mem) cnt ss ∧ BP wr base bd f m last gm hm A n c Sa a G (gN + 1) (hN + ss.length) gF (putAll hF ss (.pointer (some ⟨gb, 0, none⟩))) E (fl ++ ss) ∧ (∀ k ∈ ss, k ∈ mem) ∧
    Only (fun k => k = bd ∨ k = hm ∨ k = rb ∨ some k = (Value.slice A0 0 0).ownBlock) w3 wr ∧ (A = A0 ∨ ∃ b, A = some ⟨b, 0, none⟩ ∧ w4.heap.size ≤ b)
set_option maxRecDepth 100000 in
set_option maxHeartbeats 4000000 in
theorem bsend_some (h : BP w base bd f m last gm hm A n c Sa a G gN hN gF hF E fl) (A' : Option Addr) (n' c' : Nat) (l : List Nat) (hs : Sn w w.heap.size A' n' c' 1 (nvs l)) (hl : ∀ x ∈ l, x < 18446744073709551616) (hn : n' ≤ 100000) (h0 : freshL hF l ≠ []) (now : Int) (hnow : -4611686018427387904 ≤ now ∧ now ≤ 4611686018427387904)
    (hp : Pr f m) (hla : last + 1 < 18446744073709551616) (hnum : (G.map (·.num)).Nodup) (hnl : ∀ x ∈ G, x.num ≤ last) (hgl : gF (last + 1) = none) (hE : E.length ≤ 90000) (hgN : gN ≤ 100000) (hhN : hN ≤ 100000) (hfl : n + n' < 50) :
    Calls Try.prog 11 #[.pointer (some ⟨bd, 0, none⟩), .int .i64 now, .slice A' n' c'] w (BSend w base bd f m last gm hm A Sa a G gN hN gF hF E fl (freshL hF l) now) := by
  obtain ⟨i0, hi0, hz0, hz1, hz2⟩ := info_parts u64_info
  have HFR := Lib.hid (bfresh_any h A' n' c' l hs hl hn)
  have H := Lib.hid h
  have HLN : Hid (l.length = n') := by have := hs.len; rw [nvs_len] at this; show _ = _; omega
  have HML0 : Hid ((freshL hF l).length ≤ n') := by have := freshL_len hF l; have := HLN.out; show _ ≤ _; omega
  have HNH : Hid (∀ k ∈ freshL hF l, (hF k).isSome = false) := fun k hk => ((freshL_mem hF l k).1 hk).2
  have HMND := Lib.hid (freshL_nd hF l)
  obtain ⟨mem, HMEM⟩ : ∃ x, Hid (x = freshL hF l) := ⟨_, rfl⟩
  rw [← HMEM.out] at HML0 HNH HMND h0 ⊢
  have hml : mem.length ≠ 0 := fun e => h0 (List.eq_nil_of_length_eq_zero e)
  clear h hs hl h0
  go_enter Try.func11, Try.ntmps11
  go_wp2_with fail
  refine HFR.out.mono ?_
  rintro e w1 ⟨mb, rfl, hz, hmv, hb1⟩
  rw [← HMEM.out] at hmv
  have H1 := Lib.hid (H.out.below hb1)
  have HMV := Lib.hid hmv
  have HB1 := Lib.hid hb1
  have HFT := Lib.hid H.out.ft_lt
  have c2 := H1.out.c2
  have f2 := H1.out.fz 2
  have c3 := H1.out.c3
  have HSET := Lib.hid (H1.out.setLast (last + 1))
  clear hmv hb1
  obtain ⟨ml, HMLE⟩ : ∃ x, Hid (x = mem.length) := ⟨_, rfl⟩
  rw [← HMLE.out] at hml HMV
  have hmlI : ((ml : Int) == 0) = false := by simp; omega
  have hlen := HMV.out.len Try.underlying79 3
  go_wp2_with fail
  obtain ⟨L, HL⟩ : ∃ x, Hid (x = last + 1) := ⟨_, rfl⟩
  have hLI : (last : Int) + 1 = (L : Int) := by have := HL.out; omega
  rw [hLI]
  rw [← HL.out] at HSET hla hgl
  have hz1 : (w1.setCell ⟨bd, 2, none⟩ (.int .u64 (L : Int))).heap.size = w1.heap.size := by simp
  have hmvl := HMV.out.lt
  have hz01 := HB1.out.size
  have hnb := below_box (w1.setCell ⟨bd, 2, none⟩ (.int .u64 (L : Int))) (.cells #[.int .u64 (L : Int), .int .i64 0, .map (some mb)] 83)
  have hng := heap_alloc_new (w1.setCell ⟨bd, 2, none⟩ (.int .u64 (L : Int))) (.cells #[.int .u64 (L : Int), .int .i64 0, .map (some mb)] 83)
  have hBP2 := HSET.out.below hnb
  have hbd1 := (H1.out.lo _ own_bd).2.1
  have hmbF : mb ≠ bd := fun e => by have := HFT.out bd (.inl own_bd); omega
  have hmv2 := (HMV.out.kept ((Only.setCell w1 bd 2 (.int .u64 (L : Int))).block mb hmvl hmbF)).kept (hnb.block mb (by omega))
  have hon2 : Only (fun k => k = bd) w1 _ := (Only.setCell w1 bd 2 (.int .u64 (L : Int))).andBelow hnb
  rw [hz1] at hng
  clear hnb
  generalize (w1.setCell ⟨bd, 2, none⟩ (.int .u64 (L : Int))).alloc (.cells #[.int .u64 (L : Int), .int .i64 0, .map (some mb)] 83) = W2 at *
  rw [HMLE.out] at hmv2
  obtain ⟨gb, HGB⟩ : ∃ x, Hid (x = w1.heap.size) := ⟨_, rfl⟩
  rw [← HGB.out] at hng ⊢
  have hga : GAt W2 ⟨L, 0, gb, mb, mem⟩ := ⟨hng, hmv2⟩
  have hFTbase : base ≤ w.heap.size := Nat.le_of_lt (Nat.lt_of_le_of_lt (H.out.lo bd own_bd).1 (H.out.lo bd own_bd).2.1)
  have HBP2 := Lib.hid (BP.addGroup (w0 := w) (g := ⟨L, 0, gb, mb, mem⟩) ⟨by have := HGB.out; show _ ≤ gb; omega, hz, by have := HGB.out; show gb ≠ mb; omega⟩ HFT.out hFTbase hBP2 hga)
  have g0 := hga.c0
  have c3' := HBP2.out.c3
  have HON2 := Lib.hid hon2
  simp only at g0
  clear c2 f2 c3 HSET hBP2 hga hng hmv2 hz1 hon2 HMV
  have hkL := key64 Try.underlying34 hla
  have H0 : W2.cell? ⟨bd, 3, none⟩ = some (.map (some gm)) ∧ W2.cell? ⟨gb, 0, none⟩ = some (.int .u64 (L : Int)) := ⟨c3', g0⟩
  refine wp_region_noPanic ?_
  refine wp_region_F (S := (fun w' => w'.cell? ⟨bd, 3, none⟩ = some (.map (some gm)) ∧ w'.cell? ⟨gb, 0, none⟩ = some (.int .u64 (L : Int)))) (F := (fun j => j == 9)) (by kernel_rfl) H0 (fun hHeld => ?_)
  refine wpAnyF_take0 (i := 0) (oi := { dst := some 32, op := Op.move (Operand.tmp 0), type := 28, pos := "board.go:56", after := #[], guard := none }) (v := ?_) rfl (by kernel_rfl) (by kernel_rfl) (by kernel_rfl) (fun _ _ _ h => h) (Or.inl ⟨by rfl, ?_⟩) ?_
  rotate_left
  · intro w hSw; (try dsimp only at hSw); first | (go_simp; done) | (go_simp; with_reducible rfl)
  try simp only [Act.put, List.setIfInBounds_toArray, List.set_cons_zero, List.set_cons_succ]
  refine wpAnyF_take0 (i := 1) (oi := { dst := some 33, op := Op.nilCheck (Operand.tmp 32), type := 0, pos := "board.go:56", after := #[{ on := 0, ground := Ground.data }], guard := none }) (v := ?_) rfl (by kernel_rfl) (by kernel_rfl) (by kernel_rfl) (fun _ _ _ h => h) (Or.inl ⟨by rfl, ?_⟩) ?_
  rotate_left
  · intro w hSw; (try dsimp only at hSw); first | (go_simp; done) | (go_simp; with_reducible rfl)
  try simp only [Act.put, List.setIfInBounds_toArray, List.set_cons_zero, List.set_cons_succ]
  refine wpAnyF_take0 (i := 2) (oi := { dst := some 34, op := Op.fieldAddr 78 (Operand.tmp 33) 2, type := 0, pos := "board.go:56", after := #[{ on := 1, ground := Ground.data }], guard := none }) (v := ?_) rfl (by kernel_rfl) (by kernel_rfl) (by kernel_rfl) (fun _ _ _ h => h) (Or.inl ⟨by rfl, ?_⟩) ?_
  rotate_left
  · intro w hSw; (try dsimp only at hSw); first | (go_simp; done) | (go_simp; with_reducible rfl)
  try simp only [Act.put, List.setIfInBounds_toArray, List.set_cons_zero, List.set_cons_succ]
  refine wpAnyF_take (i := 3) (oi := { dst := some 35, op := Op.load 75 (Operand.tmp 34), type := 75, pos := "board.go:56", after := #[{ on := 2, ground := Ground.data }], guard := none }) (v := ?_) (fun j hj => by simp only [beq_iff_eq] at hj; subst hj; exact of_decide_eq_true (by kernel_rfl)) rfl (by kernel_rfl) (by kernel_rfl) (by kernel_rfl) (by kernel_rfl) (by kernel_rfl) (fun _ _ _ h => h) (Or.inl ⟨by rfl, ?_⟩) (by assumption) ?_
  rotate_left
  · intro w hSw; (try dsimp only at hSw); first | (go_simp; done) | (go_simp; with_reducible rfl)
  try simp only [Act.put, List.setIfInBounds_toArray, List.set_cons_zero, List.set_cons_succ]
  refine wpAnyF_take0 (i := 4) (oi := { dst := some 36, op := Op.move (Operand.tmp 8), type := 81, pos := "board.go:56", after := #[], guard := none }) (v := ?_) rfl (by kernel_rfl) (by kernel_rfl) (by kernel_rfl) (fun _ _ _ h => h) (Or.inl ⟨by rfl, ?_⟩) ?_
  rotate_left
  · intro w hSw; (try dsimp only at hSw); first | (go_simp; done) | (go_simp; with_reducible rfl)
  try simp only [Act.put, List.setIfInBounds_toArray, List.set_cons_zero, List.set_cons_succ]
  refine wpAnyF_take0 (i := 5) (oi := { dst := some 37, op := Op.nilCheck (Operand.tmp 36), type := 0, pos := "board.go:56", after := #[{ on := 4, ground := Ground.data }], guard := none }) (v := ?_) rfl (by kernel_rfl) (by kernel_rfl) (by kernel_rfl) (fun _ _ _ h => h) (Or.inl ⟨by rfl, ?_⟩) ?_
  rotate_left
  · intro w hSw; (try dsimp only at hSw); first | (go_simp; done) | (go_simp; with_reducible rfl)
  try simp only [Act.put, List.setIfInBounds_toArray, List.set_cons_zero, List.set_cons_succ]
  refine wpAnyF_take0 (i := 6) (oi := { dst := some 38, op := Op.fieldAddr 83 (Operand.tmp 37) 0, type := 0, pos := "board.go:56", after := #[{ on := 5, ground := Ground.data }], guard := none }) (v := ?_) rfl (by kernel_rfl) (by kernel_rfl) (by kernel_rfl) (fun _ _ _ h => h) (Or.inl ⟨by rfl, ?_⟩) ?_
  rotate_left
  · intro w hSw; (try dsimp only at hSw); first | (go_simp; done) | (go_simp; with_reducible rfl)
  try simp only [Act.put, List.setIfInBounds_toArray, List.set_cons_zero, List.set_cons_succ]
  refine wpAnyF_take (i := 7) (oi := { dst := some 39, op := Op.load 34 (Operand.tmp 38), type := 34, pos := "board.go:56", after := #[{ on := 6, ground := Ground.data }], guard := none }) (v := ?_) (fun j hj => by simp only [beq_iff_eq] at hj; subst hj; exact of_decide_eq_true (by kernel_rfl)) rfl (by kernel_rfl) (by kernel_rfl) (by kernel_rfl) (by kernel_rfl) (by kernel_rfl) (fun _ _ _ h => h) (Or.inl ⟨by rfl, ?_⟩) (by assumption) ?_
  rotate_left
  · intro w hSw; (try dsimp only at hSw); first | (go_simp; done) | (go_simp; with_reducible rfl)
  try simp only [Act.put, List.setIfInBounds_toArray, List.set_cons_zero, List.set_cons_succ]
  refine wpAnyF_take0 (i := 8) (oi := { dst := some 40, op := Op.move (Operand.tmp 8), type := 81, pos := "board.go:56", after := #[], guard := none }) (v := ?_) rfl (by kernel_rfl) (by kernel_rfl) (by kernel_rfl) (fun _ _ _ h => h) (Or.inl ⟨by rfl, ?_⟩) ?_
  rotate_left
  · intro w hSw; (try dsimp only at hSw); first | (go_simp; done) | (go_simp; with_reducible rfl)
  try simp only [Act.put, List.setIfInBounds_toArray, List.set_cons_zero, List.set_cons_succ]
  refine wpAnyF_oneF (i := 9) (o := { dst := none, op := Op.mapUpdate 75 (Operand.tmp 35) (Operand.tmp 39) (Operand.tmp 40), type := 0, pos := "board.go:56", after := #[{ on := 3, ground := Ground.data }, { on := 7, ground := Ground.data }, { on := 8, ground := Ground.data }, { on := 0, ground := Ground.phase }, { on := 1, ground := Ground.phase }, { on := 2, ground := Ground.phase }, { on := 3, ground := Ground.phase }, { on := 4, ground := Ground.phase }, { on := 5, ground := Ground.phase }, { on := 6, ground := Ground.phase }, { on := 7, ground := Ground.phase }, { on := 8, ground := Ground.phase }], guard := none }) (by kernel_rfl) (by kernel_rfl) rfl (fun K hK => ?_)
  rw [if_pos (by rfl)]
  refine oper_mvPut _ _ _ 75 rfl 34 81 u64_keyed Try.underlying75 gm gN gF rfl (HBP2.out.gmv.kept rfl) (by unfold maxLen; omega) L (.pointer (some ⟨gb, 0, none⟩)) rfl rfl hkL ?_
  intro w3 hm3 ho3
  have HO3 : Hid (Only (fun k => k = gm) W2 w3) := (Only.refl (fun k => k = gm) W2).drew.trans ho3 (fun _ _ k => k)
  rw [hgl] at hm3
  have HBP3 := Lib.hid (HBP2.out.gput hm3 HO3.out)
  clear hm3 ho3
  refine hK.out _ _ ?_
  clear hK K
  try simp only [Act.put]
  refine wpAnyF_done (by kernel_rfl) ?_ _
  refine NoPanic.normal ?_
  have hSZ : Hid (w.heap.size ≤ w1.heap.size ∧ w1.heap.size ≤ W2.heap.size ∧ W2.heap.size ≤ w3.heap.size) := ⟨HB1.out.size, HON2.out.size, HO3.out.size⟩
  obtain ⟨G2, HG2⟩ : ∃ x : List Gp, Hid (x = G ++ [(⟨L, 0, gb, mb, mem⟩ : Gp)]) := ⟨_, rfl⟩
  rw [← HG2.out] at HBP3
  obtain ⟨gF2, HGF2⟩ : ∃ x, Hid (x = putF gF L (.pointer (some ⟨gb, 0, none⟩))) := ⟨_, rfl⟩
  rw [← HGF2.out] at HBP3
  simp only [Option.isSome_none, Bool.false_eq_true, if_false] at HBP3
  have HMV3 : Hid (Mv Try.prog 34 w3 mb mem.length (memF mem)) := (HBP3.out.gr ⟨L, 0, gb, mb, mem⟩ (by rw [HG2.out]; simp)).mv
  clear HBP2 c3' g0 H0
  go_wp2_with (at_range; refine wpList_mvRange rfl _ 79 rfl u64_keyed Try.underlying79 mb mem.length (memF mem) rfl HMV3.out ?_; intro w4 hrg4 hb4 hs4; have HRG4 := Lib.hid hrg4; have HB4 := Lib.hid hb4; have HS4 := Lib.hid hs4; clear hrg4 hb4 hs4)
  obtain ⟨rb, HRB⟩ : ∃ x, Hid (x = w3.heap.size) := ⟨_, rfl⟩
  rw [← HRB.out]
  go_frame
  go_loopg [9] mem.length (fun gk _ wr => SendRel w3 w4 base bd f m L gm hm Sa a G2 gN hN gF2 hF E fl mem A gb mb rb gk wr)
  case atStart =>
    refine ⟨_, [], A, n, c, rfl, HRB.out ▸ HRG4.out, ?_, (fun k hk => by cases hk), Only.of_below HB4.out, .inl rfl⟩
    rw [putAll_nil, List.append_nil]
    exact HBP3.out.below HB4.out
  case round =>
    obtain ⟨cnt, ss, Ar, nl, cl, hg, hrg, hbp, hss, hon, hnear⟩ := hrel
    have HG := Lib.hid hg
    have HRG := Lib.hid hrg
    have HBP := Lib.hid hbp
    have HSS := Lib.hid hss
    have HON := Lib.hid hon
    have HNEAR := Lib.hid hnear
    clear hg hrg hbp hss hon hnear
    go_wp2_with (at_next; refine wpList_mvNext rfl _ rfl u64_keyed Try.underlying34 mb rb mem.length (memF mem) cnt ss rfl HRG.out ?_ ?_)
    · intro hall
      have HPM : Hid (ss.Perm mem) := (List.perm_ext_iff_of_nodup HRG.out.nd HMND.out).2 fun k => by rw [hall k, memF_some]; simp
      have HNL : Hid (nl < 50 ∧ ss.length = mem.length) := by
        have h1 := HBP.out.row.len
        have h2 := H.out.row.len
        have h3 := HPM.out.length_eq
        have h4 := HML0.out
        rw [List.length_append] at h1
        exact ⟨by omega, h3⟩
      have c5 := HBP.out.c5
      clear hall
      go_wp2_with fail
      refine (sort_own wr base Ar nl cl (fl ++ ss) HBP.out.row HNL.out.1).mono ?_
      rintro e w5 ⟨rfl, hrow5, hb5, hg5⟩
      have HBP5 := Lib.hid (HBP.out.rowed hrow5 hg5)
      have HG5 := Lib.hid hg5
      clear hrow5 hb5 hg5 c5
      have hg0 : (⟨L, 0, gb, mb, mem⟩ : Gp) ∈ G2 := by rw [HG2.out]; simp
      have hnumG : (G2.map (·.num)).Nodup := by
        rw [HG2.out, List.map_append, List.map_cons, List.map_nil, List.nodup_append]
        refine ⟨hnum, by simp, fun x hx y hy e => ?_⟩
        obtain ⟨z, hz2, rfl⟩ := List.mem_map.1 hx
        have h1 := hnl z hz2
        have h2 := HL.out
        rw [List.mem_singleton] at hy
        subst hy
        omega
      have HW := Lib.hid (bwait_any HBP5.out hnumG hg0 hp (by show 0 < _; omega) hla hE now hnow)
      clear hg0 hnumG
      go_wp2_with fail
      refine HW.out.mono ?_
      rintro e w6 ⟨rfl, Sa', hbp6, ho6, hs6⟩
      simp only at hbp6 ho6
      have hbs : bump L G2 = G ++ [⟨L, 1, gb, mb, mem⟩] := by
        rw [HG2.out]
        exact bump_snoc (fun x hx e => by have := hnl x hx; have := HL.out; omega) rfl
      rw [hbs] at hbp6
      have HBP6 := Lib.hid hbp6
      have HO6 := Lib.hid ho6
      have HS6 := Lib.hid hs6
      have g0 := (hbp6.gr ⟨L, 1, gb, mb, mem⟩ (by simp)).c0
      simp only at g0
      clear hbp6 ho6 hs6 hbs
      go_wp2
      go_ret
      have hbp6 := HBP6.out
      rw [sortN_perm (HPM.out.append_left fl), putAll_same hF (fun k => HPM.out.mem_iff), HNL.out.2, HGF2.out] at hbp6
      have hLL := HL.out
      subst hLL
      have hz3 := hSZ.out
      have hzr := HON.out.size
      have hgbz := HGB.out
      have hrbz := HRB.out
      have hs4z := HS4.out
      have hnew : ∀ b, (Value.slice Ar 0 0).ownBlock = some b → (Value.slice A 0 0).ownBlock = some b ∨ w.heap.size ≤ b := fun b hb => by
        rcases HNEAR.out with e | ⟨x, e, hx⟩
        · rw [e] at hb; exact .inl hb
        · rw [e] at hb
          simp [Value.ownBlock] at hb
          exact .inr (by omega)
      refine ⟨rfl, gb, mb, Ar, nl, cl, Sa', hbp6, ?_, fun k hk => ?_⟩
      · have o1 : Only (FtB bd gm hm A Sa G) w w1 := Only.of_below HB1.out
        have o2 := o1.trans HON2.out (fun k _ e => by rw [e]; exact .inl own_bd)
        have o3 := o2.trans HO3.out (fun k _ e => by rw [e]; exact .inl own_gm)
        have o4 := o3.trans HON.out (fun k hk e => by
          rcases e with e | e | e | e
          · rw [e]; exact .inl own_bd
          · rw [e]; exact .inl own_hm
          · omega
          · exact .inr (.inl e))
        have o5 := o4.trans (Only.of_grown HG5.out (S := fun k => some k = (Value.slice Ar nl cl).ownBlock) (fun k e => e)) (fun k hk e => by
          rcases hnew k ((own_block Ar 0 0 nl cl).trans e.symm) with e | e
          · exact .inr (.inl e.symm)
          · omega)
        exact o5.trans HO6.out (fun k hk e => by
          rcases e with e | e
          · exact .inr (.inr e)
          · omega)
      · rcases hk with hk | hk | hk
        · rw [(ownB_snoc bd gm hm G _).mem_iff, List.mem_cons, List.mem_cons] at hk
          rcases hk with hk | hk | hk
          · exact .inr (by simp only at hk; omega)
          · exact .inr (by simp only at hk; omega)
          · exact .inl (.inl hk)
        · rcases hnew k hk.symm with e | e
          · exact .inl (.inr (.inl e.symm))
          · exact .inr e
        · rcases HS6.out k hk with e | e
          · exact .inl (.inr (.inr e))
          · exact .inr (by have := HG5.out.size; omega)
    · intro x v w5 cnt5 hx hfx hxs hrg5 hlt hg5 hs5 hen
      have HRG5 := Lib.hid hrg5
      have HXS := Lib.hid hxs
      have hrbF : ¬ FtB bd gm hm Ar Sa G2 rb := by
        have h3 := HBP3.out.ft_lt
        rintro (hk | hk | hk)
        · have := h3 rb (.inl hk); have := HRB.out; omega
        · rcases HNEAR.out with e | ⟨b, e, hb⟩
          · rw [e] at hk
            have := h3 rb (.inr (.inl hk)); have := HRB.out; omega
          · rw [e] at hk
            simp [Value.ownBlock] at hk
            have := HS4.out; have := HRB.out; omega
        · have := h3 rb (.inr (.inr hk)); have := HRB.out; omega
      have ho5 : Only (fun k => k = rb) wr w5 := Only.of_grown hg5 (fun k e => by injection e)
      have HO5 := Lib.hid ho5
      have HBP5 := Lib.hid (HBP.out.only ho5 (fun k _ e => by rw [e]; exact hrbF))
      have hxm : x ∈ mem := by
        unfold memF at hfx
        by_cases e : x ∈ mem
        · exact e
        · rw [if_neg e] at hfx; cases hfx
      have HXM := Lib.hid hxm
      have hkey := key64 Try.underlying34 hx
      have hNo : (putAll hF ss (.pointer (some ⟨gb, 0, none⟩)) x).isSome = false := by
        unfold putAll
        rw [if_neg HXS.out]
        exact HNH.out x hxm
      have HNO := Lib.hid hNo
      have hssl : ss.length ≤ n' := by
        have h1 := HRG5.out.len
        have h2 := HML0.out
        simp only [List.length_append, List.length_singleton] at h1
        omega
      have HNL1 : Hid (nl = n + ss.length) := by
        show nl = n + ss.length
        have h1 := HBP5.out.row.len
        have h2 := H.out.row.len
        rw [List.length_append] at h1
        omega
      have hnl50 : nl < 50 := by have := HNL1.out; omega
      have c4 := HBP5.out.c4
      have hne := HBP5.out.ne
      have hg0 : (⟨L, 0, gb, mb, mem⟩ : Gp) ∈ G2 := by rw [HG2.out]; simp
      have hmbo := HBP5.out.lo mb (own_mb hg0)
      have hneM := hne.2.2.2.1 _ hg0
      simp only at hneM
      have HNEM := Lib.hid hneM
      have HMBO := Lib.hid hmbo
      have HRBF := Lib.hid hrbF
      clear hxm hNo hne hg0 hmbo hneM hrbF ho5 hxs hrg5 hg5
      go_wp2_with (first
        | (at_mapUpdate; refine wpList_mvPut _ rfl _ _ _ 75 rfl 34 81 u64_keyed Try.underlying75 hm _ _ rfl HBP5.out.hmv (by unfold maxLen; omega) x (.pointer (some ⟨gb, 0, none⟩)) rfl rfl hkey ?_; intro w6 hm6 ho6; rw [HNO.out, putAll_put] at hm6; simp only [Bool.false_eq_true, if_false] at hm6; have HBP6 := Lib.hid (HBP5.out.hput hm6 ho6); have HO6 := Lib.hid ho6; have c56 := HBP6.out.c5; clear hm6 ho6)
        | (at_builtin; go_loud (refine wpList_append_dstN _ rfl (.tmp 57) (.tmp 59) 37 37 rfl base 34 i0 _ 1 8 Try.underlying37 hi0 hz0 hz1 hz2 rfl Ar nl cl (nvs (fl ++ ss)) rfl (.inr (HBP6.out.row.alloc _)) _ 1 (nvs [x]) rfl ((lit_sn w6 34 (nvs [x]) 1 1 rfl (by unfold maxLen; omega)).src Try.underlying37 (nvs_one [x])) (by omega) (by omega) (by have h1 := HBP6.out.lo bd own_bd; simp; omega) ?_; intro A7 c7 w7 g1 g2 g3 g4 g5 g6; have HR7 := Lib.hid (g2 (by omega)); have HG7 := Lib.hid (grown_any g5); have HN7 := Lib.hid g6; clear g1 g2 g3 g4 g5 g6; have c57 : w7.cell? ⟨bd, 5, none⟩ = some (.slice Ar nl cl) := (World.cell?_of_block (a := ⟨bd, 5, none⟩) (HG7.out.block bd (by have h1 := HBP6.out.lo bd own_bd; simp; omega) (HBP6.out.lo bd own_bd).2.2.2)).trans ((World.cell?_of_block (a := ⟨bd, 5, none⟩) (RowKit.Below.heap_alloc w6 _ bd (HBP6.out.lo bd own_bd).2.1)).trans c56); have f57 : w7.frozen? ⟨bd, 5, none⟩ = false := (World.frozen?_of_block (a := ⟨bd, 5, none⟩) (HG7.out.block bd (by have h1 := HBP6.out.lo bd own_bd; simp; omega) (HBP6.out.lo bd own_bd).2.2.2)).trans ((World.frozen?_of_block (a := ⟨bd, 5, none⟩) (RowKit.Below.heap_alloc w6 _ bd (HBP6.out.lo bd own_bd).2.1)).trans (HBP6.out.fz 5)))))
      have hb6 := below_box w6 (.cells (nvs [x]).toArray 34)
      have hR7 : OwnN w7 base A7 (nl + 1) c7 (fl ++ (ss ++ [x])) := by
        unfold OwnN
        rw [← List.append_assoc]
        unfold nvs
        rw [List.map_append]
        exact HR7.out
      have HBPF := Lib.hid ((HBP6.out.below hb6).setRow hR7 HG7.out HN7.out)
      have hoF : Only (fun k => k = hm ∨ some k = (Value.slice Ar nl cl).ownBlock ∨ k = bd) w5 (w7.setCell ⟨bd, 5, none⟩ (.slice A7 (nl + 1) c7)) :=
        (((HO6.out.mono (S2 := fun k => k = hm ∨ some k = (Value.slice Ar nl cl).ownBlock ∨ k = bd) (fun k _ e => .inl e)).andBelow hb6).trans (Only.of_grown HG7.out (S := fun k => some k = (Value.slice Ar nl cl).ownBlock) (fun k e => e)) (fun k _ e => .inr (.inl e))).trans (Only.setCell w7 bd 5 _) (fun k _ e => .inr (.inr e))
      have HOF := Lib.hid hoF
      have HRGF : Hid (Rg Try.prog 34 (w7.setCell ⟨bd, 5, none⟩ (.slice A7 (nl + 1) c7)) mb rb mem.length (memF mem) cnt5 (ss ++ [x])) := by
        refine HRG5.out.only hoF ?_ ?_
        · rintro (e | e | e)
          · exact HNEM.out.2.2.2.2.2 e.symm
          · exact HMBO.out.2.2.2 e
          · exact HNEM.out.2.1 e.symm
        · rintro (e | e | e)
          · exact HRBF.out (.inl (by rw [e]; exact own_hm))
          · exact HRBF.out (.inr (.inl (by rw [e]; exact own_block _ _ _ _ _)))
          · exact HRBF.out (.inl (by rw [e]; exact own_bd))
      clear hb6 hR7 hoF
      go_wp2
      go_roundg cnt5
      case measure => have := HG.out; omega
      case rel =>
        refine ⟨cnt5, ss ++ [x], A7, nl + 1, c7, rfl, HRGF.out, ?_, ?_, ?_, ?_⟩
        · have hb := HBPF.out
          rw [show hN + (ss ++ [x]).length = hN + ss.length + 1 from by simp; omega]
          exact hb
        · intro k hk
          rcases List.mem_append.1 hk with hk | hk
          · exact HSS.out k hk
          · rw [List.mem_singleton] at hk
            rw [hk]
            exact HXM.out
        · refine (HON.out.trans HO5.out (fun k _ e => .inr (.inr (.inl e)))).trans HOF.out (fun k hk e => ?_)
          rcases e with e | e | e
          · exact .inr (.inl e)
          · rcases HNEAR.out with e2 | ⟨b, e2, hb⟩
            · rw [e2] at e
              exact .inr (.inr (.inr (e.trans (own_block _ _ _ _ _))))
            · rw [e2] at e
              simp [Value.ownBlock] at e
              have := HS4.out
              omega
          · exact .inl e
        · rcases HN7.out with e | ⟨b, e, hb⟩
          · rw [e]; exact HNEAR.out
          · refine .inr ⟨b, e, ?_⟩
            have h1 := HRG.out.lt.1
            have h2 := HS4.out
            have h3 := HRB.out
            have h4 := HO5.out.size
            have h5 := HO6.out.size
            simp at hb
            omega
end
end Go.Proofs.Ytbnhemmklbbnmaa

/-! ## BoardDrop -/
namespace Go.Proofs.Ytbnhemmklbbnmaa
open Go.RowKit Go.Sort Go.Maps

/-- Group q has these members. -/
def setMem (q : Nat) (mem : List Nat) (G : List Gp) : List Gp := G.map fun g => if g.num = q then { g with mem := mem } else g
/-- Group q is gone. -/
def delG (q : Nat) (G : List Gp) : List Gp := G.filter fun g => decide (g.num ≠ q)
theorem setMem_gb (q : Nat) (mem : List Nat) (G : List Gp) : (setMem q mem G).map (·.gb) = G.map (·.gb) := by unfold setMem; rw [List.map_map]; congr 1; funext g; simp only [Function.comp]; split <;> rfl
theorem setMem_mb (q : Nat) (mem : List Nat) (G : List Gp) : (setMem q mem G).map (·.mb) = G.map (·.mb) := by unfold setMem; rw [List.map_map]; congr 1; funext g; simp only [Function.comp]; split <;> rfl
theorem setMem_num (q : Nat) (mem : List Nat) (G : List Gp) : (setMem q mem G).map (·.num) = G.map (·.num) := by unfold setMem; rw [List.map_map]; congr 1; funext g; simp only [Function.comp]; split <;> rfl
theorem memF_del {mem : List Nat} (h : mem.Nodup) (x : Nat) : delF (memF mem) x = memF (mem.erase x) := by
  funext k
  unfold delF memF
  by_cases e : k = x
  · subst e
    rw [if_pos rfl, if_neg (fun h1 => (h.mem_erase_iff.1 h1).1 rfl)]
  · rw [if_neg e]
    by_cases h1 : k ∈ mem
    · rw [if_pos h1, if_pos (h.mem_erase_iff.2 ⟨e, h1⟩)]
    · rw [if_neg h1, if_neg (fun h2 => h1 (h.mem_erase_iff.1 h2).2)]
section
variable {w w' : World} {base bd f m last gm hm : Nat} {A : Option Addr} {n c : Nat} {Sa Q : Nat → Prop} {a : Nat} {G : List Gp} {gN hN : Nat} {gF hF : Nat → Option Value} {E : List En} {fl : List Nat} {g : Gp}
/-- A group's members were written anew. -/
theorem BP.memput (h : BP w base bd f m last gm hm A n c Sa a G gN hN gF hF E fl) (hn : (G.map (·.num)).Nodup) (hg : g ∈ G) {mem : List Nat} (hmv : Mv Try.prog 34 w' g.mb mem.length (memF mem)) (ho : Only (fun k => k = g.mb) w w') :
    BP w' base bd f m last gm hm A n c Sa a (setMem g.num mem G) gN hN gF hF E fl := by
  have hne := h.ne
  have hob : ownB bd gm hm (setMem g.num mem G) = ownB bd gm hm G := by unfold ownB; rw [setMem_gb, setMem_mb]
  have hk : ∀ k ∈ ownB bd gm hm G, k ≠ g.mb → w'.heap[k]? = w.heap[k]? := fun k h1 h2 => ho.block k (h.lo k h1).2.1 h2
  refine ⟨(hk _ own_bd (hne.2.2.2.1 g hg).2.1).trans h.blk, h.gmv.kept (hk _ own_gm (hne.2.2.2.1 g hg).2.2.2.1), h.hmv.kept (hk _ own_hm (hne.2.2.2.1 g hg).2.2.2.2.2), h.row1 ho (own_mb hg), h.al1 ho (own_mb hg), fun x hx => ?_, by rw [hob]; exact h.nd, by rw [hob]; exact h.lo1 ho.size, h.sr⟩
  obtain ⟨y, hy, rfl⟩ := List.mem_map.1 hx
  have hgb := hk y.gb (own_gb hy) (hne.2.2.2.2 y hy g hg)
  by_cases e : y.num = g.num
  · obtain rfl := inj_of hn hy hg e
    rw [if_pos rfl]
    exact ⟨hgb.trans (h.gr y hy).blk, hmv⟩
  · rw [if_neg e]
    exact (h.gr y hy).kept hgb (hk y.mb (own_mb hy) (fun e2 => e (by rw [inj_of h.mbs hy hg e2])))
/-- A group is counted no more. -/
theorem BP.forget (h : BP w base bd f m last gm hm A n c Sa a G gN hN gF hF E fl) (q : Nat) : BP w base bd f m last gm hm A n c Sa a (delG q G) gN hN gF hF E fl := by
  have hsub : (ownB bd gm hm (delG q G)).Sublist (ownB bd gm hm G) := by
    unfold ownB delG
    exact ((List.filter_sublist.map _).append (List.filter_sublist.map _)).cons_cons _ |>.cons_cons _ |>.cons_cons _
  exact ⟨h.blk, h.gmv, h.hmv, h.row, h.al, fun x hx => h.gr x (List.mem_filter.1 hx).1, hsub.nodup h.nd, fun k hk => h.lo k (hsub.subset hk), h.sr⟩
def BDrop (w : World) (base bd f m last gm hm : Nat) (A : Option Addr) (n c : Nat) (Sa : Nat → Prop) (a : Nat) (G : List Gp) (gN hN : Nat) (gF hF : Nat → Option Value) (E : List En) (fl : List Nat) (g : Gp) (x : Nat) (e : Ending) (w' : World) : Prop :=
  e = .returned (.tuple #[]) ∧ (if g.mem.erase x = [] then BP w' base bd f m last gm hm A n c Sa a (delG g.num (setMem g.num [] G)) (gN - 1) (hN - 1) (delF gF g.num) (delF hF x) (without g.num E) fl else BP w' base bd f m last gm hm A n c Sa a (setMem g.num (g.mem.erase x) G) gN (hN - 1) gF (delF hF x) E fl) ∧
    Only (fun k => k ∈ ownB bd gm hm G ∨ Sa k) w w'
set_option maxRecDepth 100000 in
set_option maxHeartbeats 4000000 in
theorem bdrop_any (h : BP w base bd f m last gm hm A n c Sa a G gN hN gF hF E fl) (hn : (G.map (·.num)).Nodup) (hg : g ∈ G) (hE : E.length ≤ 90000) (hq : g.num < 18446744073709551616) (x : Nat) (hx : x < 18446744073709551616) (hxm : x ∈ g.mem) (hnd : g.mem.Nodup) (hhx : hF x = some (gv g)) (hgx : gF g.num = some (gv g)) :
    Calls Try.prog 43 #[.pointer (some ⟨bd, 0, none⟩), .int .u64 (x : Int)] w (BDrop w base bd f m last gm hm A n c Sa a G gN hN gF hF E fl g x) := by
  have H := Lib.hid h
  have HG := Lib.hid (h.gr g hg)
  have c4 := h.c4
  have hkx := key64 Try.underlying34 hx
  have hkq := key64 Try.underlying34 hq
  have HHX := Lib.hid hhx
  have HGX := Lib.hid hgx
  obtain ⟨gb, HGB⟩ : ∃ z, Hid (z = g.gb) := ⟨_, rfl⟩
  obtain ⟨mb, HMB⟩ : ∃ z, Hid (z = g.mb) := ⟨_, rfl⟩
  obtain ⟨q, HQ⟩ : ∃ z, Hid (z = g.num) := ⟨_, rfl⟩
  have HV : Hid (gv g = .pointer (some ⟨gb, 0, none⟩)) := by show _ = _; rw [HGB.out]; rfl
  have HM := Lib.hid HG.out.mv
  rw [← HMB.out] at HM
  rw [HV.out] at HHX HGX
  rw [← HQ.out] at HGX hkq hq
  clear h hhx hgx
  have HLE : Hid (g.mem.length - 1 = (g.mem.erase x).length) := (List.length_erase_of_mem hxm).symm
  have hmF : (memF g.mem x).isSome = true := by rw [memF_some]; simpa using hxm
  obtain ⟨ml, HML⟩ : ∃ z, Hid (z = (g.mem.erase x).length) := ⟨_, rfl⟩
  go_enter Try.func43, Try.ntmps43
  rcases Nat.eq_zero_or_pos ml with h0 | h0
  · have hmlI : ((ml : Int) == 0) = true := by rw [h0]; rfl
    have HER : Hid (g.mem.erase x = []) := List.eq_nil_of_length_eq_zero (by have := HML.out; omega)
    clear h0
    go_wp2_with (first
      | (at_lookup; refine wpList_mv1 _ rfl _ _ 75 rfl 34 81 u64_keyed Try.underlying75 (.pointer none) (zero_group _) hm hN hF rfl H.out.hmv x rfl hkx (.pointer (some ⟨gb, 0, none⟩)) (by rw [HHX.out]; rfl) ?_)
      | (at_delete; refine wpList_mvDel _ rfl _ _ 75 34 rfl 81 u64_keyed Try.underlying75 hm hN hF rfl H.out.hmv x rfl hkx ?_; intro w1 hm1 ho1; rw [HHX.out] at hm1; simp only [Option.isSome_some, if_true] at hm1; have HB1 := Lib.hid (H.out.hput hm1 ho1); have HO1 := Lib.hid ho1; have g2 := (HB1.out.gr g hg).c2; rw [← HGB.out, ← HMB.out] at g2; have HM1 := Lib.hid (HB1.out.gr g hg).mv; rw [← HMB.out] at HM1; clear hm1 ho1)
      | (at_delete; refine wpList_mvDel _ rfl _ _ 79 34 rfl 100 u64_keyed Try.underlying79 mb g.mem.length (memF g.mem) rfl HM1.out x rfl hkx ?_; intro w2 hm2 ho2; rw [hmF, memF_del hnd, if_pos rfl, HLE.out] at hm2; have hm2' := hm2; rw [← HML.out] at hm2'; have HM2 := Lib.hid hm2'; clear hm2'; have HO2 := Lib.hid ho2; rw [HMB.out] at hm2 ho2; have HB2 := Lib.hid (HB1.out.memput hn hg hm2 ho2); clear hm2 ho2; have g22 := (HO2.out.block gb (by rw [HGB.out]; exact (HB1.out.lo _ (own_gb hg)).2.1) (by rw [HGB.out, HMB.out]; exact HB1.out.ne.2.2.2.2 g hg g hg)); have g2' : w2.cell? ⟨gb, 2, none⟩ = some (.map (some mb)) := (World.cell?_of_block (a := ⟨gb, 2, none⟩) g22).trans g2)
      | (at_len; refine wpList_mvLen _ rfl _ 79 rfl 34 100 Try.underlying79 mb ml (memF (g.mem.erase x)) rfl HM2.out ?_))
    have HB2' : Hid (BP w2 base bd f m last gm hm A n c Sa a (setMem g.num [] G) gN (hN - 1) gF (delF hF x) E fl) := by
      have hb := HB2.out
      rw [HER.out] at hb
      exact hb
    have hg' : (⟨g.num, g.tries, g.gb, g.mb, []⟩ : Gp) ∈ setMem g.num [] G := List.mem_map.2 ⟨g, hg, by rw [if_pos rfl]⟩
    have b3 := HB2'.out.c3
    have g0 := (HB2'.out.gr _ hg').c0
    simp only at g0
    rw [← HQ.out, ← HGB.out] at g0
    clear g2 g22 g2'
    have H0 : w2.cell? ⟨bd, 3, none⟩ = some (.map (some gm)) ∧ w2.cell? ⟨gb, 0, none⟩ = some (.int .u64 (q : Int)) := ⟨b3, g0⟩
    refine wp_region_noPanic ?_
    refine wp_region_F (S := (fun w' => w'.cell? ⟨bd, 3, none⟩ = some (.map (some gm)) ∧ w'.cell? ⟨gb, 0, none⟩ = some (.int .u64 (q : Int)))) (F := (fun j => j == 8)) (by kernel_rfl) H0 (fun hHeld => ?_)
    refine wpAnyF_take0 (i := 0) (oi := { dst := some 27, op := Op.move (Operand.tmp 0), type := 28, pos := "board.go:167", after := #[], guard := none }) (v := ?_) rfl (by kernel_rfl) (by kernel_rfl) (by kernel_rfl) (fun _ _ _ h => h) (Or.inl ⟨by rfl, ?_⟩) ?_
    rotate_left
    · intro w hSw; (try dsimp only at hSw); first | (go_simp; done) | (go_simp; with_reducible rfl)
    try simp only [Act.put, List.setIfInBounds_toArray, List.set_cons_zero, List.set_cons_succ]
    refine wpAnyF_take0 (i := 1) (oi := { dst := some 28, op := Op.nilCheck (Operand.tmp 27), type := 0, pos := "board.go:167", after := #[{ on := 0, ground := Ground.data }], guard := none }) (v := ?_) rfl (by kernel_rfl) (by kernel_rfl) (by kernel_rfl) (fun _ _ _ h => h) (Or.inl ⟨by rfl, ?_⟩) ?_
    rotate_left
    · intro w hSw; (try dsimp only at hSw); first | (go_simp; done) | (go_simp; with_reducible rfl)
    try simp only [Act.put, List.setIfInBounds_toArray, List.set_cons_zero, List.set_cons_succ]
    refine wpAnyF_take0 (i := 2) (oi := { dst := some 29, op := Op.fieldAddr 78 (Operand.tmp 28) 2, type := 0, pos := "board.go:167", after := #[{ on := 1, ground := Ground.data }], guard := none }) (v := ?_) rfl (by kernel_rfl) (by kernel_rfl) (by kernel_rfl) (fun _ _ _ h => h) (Or.inl ⟨by rfl, ?_⟩) ?_
    rotate_left
    · intro w hSw; (try dsimp only at hSw); first | (go_simp; done) | (go_simp; with_reducible rfl)
    try simp only [Act.put, List.setIfInBounds_toArray, List.set_cons_zero, List.set_cons_succ]
    refine wpAnyF_take (i := 3) (oi := { dst := some 30, op := Op.load 75 (Operand.tmp 29), type := 75, pos := "board.go:167", after := #[{ on := 2, ground := Ground.data }], guard := none }) (v := ?_) (fun j hj => by simp only [beq_iff_eq] at hj; subst hj; exact of_decide_eq_true (by kernel_rfl)) rfl (by kernel_rfl) (by kernel_rfl) (by kernel_rfl) (by kernel_rfl) (by kernel_rfl) (fun _ _ _ h => h) (Or.inl ⟨by rfl, ?_⟩) (by assumption) ?_
    rotate_left
    · intro w hSw; (try dsimp only at hSw); first | (go_simp; done) | (go_simp; with_reducible rfl)
    try simp only [Act.put, List.setIfInBounds_toArray, List.set_cons_zero, List.set_cons_succ]
    refine wpAnyF_take0 (i := 4) (oi := { dst := some 31, op := Op.move (Operand.tmp 4), type := 81, pos := "board.go:167", after := #[], guard := none }) (v := ?_) rfl (by kernel_rfl) (by kernel_rfl) (by kernel_rfl) (fun _ _ _ h => h) (Or.inl ⟨by rfl, ?_⟩) ?_
    rotate_left
    · intro w hSw; (try dsimp only at hSw); first | (go_simp; done) | (go_simp; with_reducible rfl)
    try simp only [Act.put, List.setIfInBounds_toArray, List.set_cons_zero, List.set_cons_succ]
    refine wpAnyF_take0 (i := 5) (oi := { dst := some 32, op := Op.nilCheck (Operand.tmp 31), type := 0, pos := "board.go:167", after := #[{ on := 4, ground := Ground.data }], guard := none }) (v := ?_) rfl (by kernel_rfl) (by kernel_rfl) (by kernel_rfl) (fun _ _ _ h => h) (Or.inl ⟨by rfl, ?_⟩) ?_
    rotate_left
    · intro w hSw; (try dsimp only at hSw); first | (go_simp; done) | (go_simp; with_reducible rfl)
    try simp only [Act.put, List.setIfInBounds_toArray, List.set_cons_zero, List.set_cons_succ]
    refine wpAnyF_take0 (i := 6) (oi := { dst := some 33, op := Op.fieldAddr 83 (Operand.tmp 32) 0, type := 0, pos := "board.go:167", after := #[{ on := 5, ground := Ground.data }], guard := none }) (v := ?_) rfl (by kernel_rfl) (by kernel_rfl) (by kernel_rfl) (fun _ _ _ h => h) (Or.inl ⟨by rfl, ?_⟩) ?_
    rotate_left
    · intro w hSw; (try dsimp only at hSw); first | (go_simp; done) | (go_simp; with_reducible rfl)
    try simp only [Act.put, List.setIfInBounds_toArray, List.set_cons_zero, List.set_cons_succ]
    refine wpAnyF_take (i := 7) (oi := { dst := some 34, op := Op.load 34 (Operand.tmp 33), type := 34, pos := "board.go:167", after := #[{ on := 6, ground := Ground.data }], guard := none }) (v := ?_) (fun j hj => by simp only [beq_iff_eq] at hj; subst hj; exact of_decide_eq_true (by kernel_rfl)) rfl (by kernel_rfl) (by kernel_rfl) (by kernel_rfl) (by kernel_rfl) (by kernel_rfl) (fun _ _ _ h => h) (Or.inl ⟨by rfl, ?_⟩) (by assumption) ?_
    rotate_left
    · intro w hSw; (try dsimp only at hSw); first | (go_simp; done) | (go_simp; with_reducible rfl)
    try simp only [Act.put, List.setIfInBounds_toArray, List.set_cons_zero, List.set_cons_succ]
    refine wpAnyF_oneF (i := 8) (o := { dst := none, op := Op.call { callee := Callee.builtin Builtin.delete, args := #[Operand.tmp 30, Operand.tmp 34], argTypes := #[75, 34] }, type := 0, pos := "board.go:167", after := #[{ on := 3, ground := Ground.data }, { on := 7, ground := Ground.data }], guard := none }) (by kernel_rfl) (by kernel_rfl) rfl (fun K hK => ?_)
    rw [if_pos (by rfl)]
    refine oper_mvDel _ _ 75 34 rfl 81 u64_keyed Try.underlying75 gm gN gF rfl (HB2'.out.gmv.kept rfl) q rfl hkq ?_
    intro w3 hm3 ho3
    rw [HGX.out] at hm3
    simp only [Option.isSome_some, if_true] at hm3
    have HO3 : Hid (Only (fun k => k = gm) w2 w3) := (Only.refl (fun k => k = gm) w2).drew.trans ho3 (fun _ _ k => k)
    have HB3 := Lib.hid (HB2'.out.gput hm3 HO3.out)
    clear hm3 ho3
    refine hK.out _ _ ?_
    clear hK K
    try simp only [Act.put]
    refine wpAnyF_done (by kernel_rfl) ?_ _
    refine NoPanic.normal ?_
    have b6 := HB3.out.c6
    have g0' := (HB3.out.gr _ hg').c0
    simp only at g0'
    rw [← HQ.out, ← HGB.out] at g0'
    clear b3 g0 H0
    go_wp2_with fail
    have HLO := Lib.hid (HB3.out.lo _ (own_gb hg'))
    have HLD := Lib.hid (HB3.out.lo _ own_bd)
    simp only at HLO
    rw [← HGB.out] at HLO
    have HAC : Hid (∀ v : World, Only (fun _ => False) w3 v → Calls Try.prog 65 #[.pointer (some ⟨a, 0, none⟩), .int .u64 (q : Int)] v (AClear v Sa base a q E)) := fun v hv => aclear_any v Sa base a q E (HB3.out.al.only hv (fun _ _ k => k.elim)) hq (by omega)
    go_region_held3 (fun w' => w'.cell? ⟨bd, 6, none⟩ = some (.pointer (some ⟨a, 0, none⟩)) ∧ w'.cell? ⟨gb, 0, none⟩ = some (.int .u64 (q : Int))) (first | exact ⟨b6, g0'⟩ | exact hk5) (first
      | (go_at_call 65
         refine (HAC.out _ (Only.refl _ w3).drew).mono ?_
         rintro e w5 ⟨rfl, hal5, ho5⟩
         have HO5 : Hid (Only Sa w3 w5) := (Only.refl Sa w3).drew.trans ho5 (fun _ _ k => k)
         have e1 := HO5.out.block bd HLD.out.2.1 HLD.out.2.2.1
         have e2 := HO5.out.block gb HLO.out.2.1 HLO.out.2.2.1
         have hk5 : w5.cell? ⟨bd, 6, none⟩ = some (.pointer (some ⟨a, 0, none⟩)) ∧ w5.cell? ⟨gb, 0, none⟩ = some (.int .u64 (q : Int)) := ⟨(World.cell?_of_block (a := ⟨bd, 6, none⟩) e1).trans b6, (World.cell?_of_block (a := ⟨gb, 0, none⟩) e2).trans g0'⟩
         have HAL5 := Lib.hid hal5
         clear e1 e2 hal5 ho5))
    go_wp2
    go_end0
    have hb5 := (HB3.out.alarm HAL5.out HO5.out (fun k e => .inl e)).forget g.num
    rw [HQ.out] at hb5
    refine ⟨rfl, ?_, ?_⟩
    · rw [if_pos HER.out]
      exact hb5
    · refine (((HO1.out.mono (S2 := fun k => k ∈ ownB bd gm hm G ∨ Sa k) (fun k _ e => .inl (by rw [e]; exact own_hm))).trans HO2.out (fun k _ e => .inl (by rw [e, HMB.out]; exact own_mb hg))).trans HO3.out (fun k _ e => .inl (by rw [e]; exact own_gm))).trans HO5.out (fun k _ e => .inr e)
  · have hmlI : ((ml : Int) == 0) = false := by simp; omega
    have HER : Hid (g.mem.erase x ≠ []) := fun e => by have := HML.out; rw [e] at this; simp at this; omega
    go_wp2_with (first
      | (at_lookup; refine wpList_mv1 _ rfl _ _ 75 rfl 34 81 u64_keyed Try.underlying75 (.pointer none) (zero_group _) hm hN hF rfl H.out.hmv x rfl hkx (.pointer (some ⟨gb, 0, none⟩)) (by rw [HHX.out]; rfl) ?_)
      | (at_delete; refine wpList_mvDel _ rfl _ _ 75 34 rfl 81 u64_keyed Try.underlying75 hm hN hF rfl H.out.hmv x rfl hkx ?_; intro w1 hm1 ho1; rw [HHX.out] at hm1; simp only [Option.isSome_some, if_true] at hm1; have HB1 := Lib.hid (H.out.hput hm1 ho1); have HO1 := Lib.hid ho1; have g2 := (HB1.out.gr g hg).c2; rw [← HGB.out, ← HMB.out] at g2; have HM1 := Lib.hid (HB1.out.gr g hg).mv; rw [← HMB.out] at HM1; clear hm1 ho1)
      | (at_delete; refine wpList_mvDel _ rfl _ _ 79 34 rfl 100 u64_keyed Try.underlying79 mb g.mem.length (memF g.mem) rfl HM1.out x rfl hkx ?_; intro w2 hm2 ho2; rw [hmF, memF_del hnd, if_pos rfl, HLE.out] at hm2; have hm2' := hm2; rw [← HML.out] at hm2'; have HM2 := Lib.hid hm2'; clear hm2'; have HO2 := Lib.hid ho2; rw [HMB.out] at hm2 ho2; have HB2 := Lib.hid (HB1.out.memput hn hg hm2 ho2); clear hm2 ho2; have g22 := (HO2.out.block gb (by rw [HGB.out]; exact (HB1.out.lo _ (own_gb hg)).2.1) (by rw [HGB.out, HMB.out]; exact HB1.out.ne.2.2.2.2 g hg g hg)); have g2' : w2.cell? ⟨gb, 2, none⟩ = some (.map (some mb)) := (World.cell?_of_block (a := ⟨gb, 2, none⟩) g22).trans g2)
      | (at_len; refine wpList_mvLen _ rfl _ 79 rfl 34 100 Try.underlying79 mb ml (memF (g.mem.erase x)) rfl HM2.out ?_))
    go_end0
    refine ⟨rfl, ?_, ?_⟩
    · rw [if_neg HER.out]
      exact HB2.out
    · exact (HO1.out.mono (S2 := fun k => k ∈ ownB bd gm hm G ∨ Sa k) (fun k _ e => .inl (by rw [e]; exact own_hm))).trans HO2.out (fun k _ e => .inl (by rw [e, HMB.out]; exact own_mb hg))
end
end Go.Proofs.Ytbnhemmklbbnmaa

/-! ## BoardPlace -/
namespace Go.Proofs.Ytbnhemmklbbnmaa
open Go Go.RowKit Go.Sort

theorem only_setRow (w : World) (g : Nat) (cs : Array Value) : Only (fun k => k = g) w (w.setRow g cs) := ⟨rfl, rfl, rfl, by simp, fun k _ hn => setRow_other w g k _ (fun e => hn (by first | exact e | exact e.symm))⟩
section
variable {P : Program} (w : World)
theorem run_append_place (t tx ty e : TypeId) (i : TypeInfo) (ht : P.underlying t = some (.slice e)) (hi : P.info? e = some i) (hsize : i.size = 1) (g n c : Nat) (cur : List Value) (hg : w.heap[g]? = some (.cells cur.toArray e (0, 0))) (hc : cur.length = c) (x : Value) (m : Nat) (news : List Value) (hs : Src P 1 tx x m news w) (hroom : n + m ≤ c) :
    (Builtin.append_ #[t, tx] ty #[.slice (some ⟨g, 0, none⟩) n c, x]).run P w = .ok (.slice (some ⟨g, 0, none⟩) (n + m) c) (w.setRow g (cur.take n ++ news ++ cur.drop (n + m)).toArray) := by
  have hml : news.length = m := by have := hs.newsLen; omega
  have hcell : ∀ j, j < cur.length → (w.cell? ⟨g, j, none⟩).isSome = true := fun j hj => by
    rw [cell_of_row w g j cur.toArray e (0, 0) hg]
    simp [hj]
  have hfr : ∀ j, w.frozen? ⟨g, j, none⟩ = false := fun j => frz_blk hg
  have hr := run_append_room_src (P := P) w t tx ty e i ht hi g 0 n c x m news (by rw [hsize]; exact hs) hroom
    (fun j hj => by rw [hml] at hj; exact hcell _ (by rw [hsize]; omega)) (fun j _ => hfr _)
  have hst := run_storeCells_at P g n e news 0 cur.toArray w hg (by simp; omega) hs.one
  have hst2 := run_storeCells_cells (P := P) g n news 0 w (fun j hj => by rw [hml] at hj; exact hcell _ (by omega)) (fun j _ => hfr _) hs.one
  rw [hst2] at hst
  injection hst with _ hw
  simp only [Nat.add_zero] at hw
  rw [hsize, Nat.mul_one, Nat.zero_add, hw, hml] at hr
  exact hr
theorem wpList_append_place {ops : Array Oper} {rest : List Oper} {o : Oper} {a : Act} {Q : Exit → Act → World → Prop} (hgd : o.guard = none) (s x : Operand) (t tx : TypeId)
    (ho : o.op = .call { callee := .builtin .append, args := #[s, x], argTypes := #[t, tx] }) (e : TypeId) (i : TypeInfo) (ht : P.underlying t = some (.slice e)) (hi : P.info? e = some i) (hsize : i.size = 1) (g n c : Nat) (hs : a.eval s = .slice (some ⟨g, 0, none⟩) n c) (cur : List Value) (hg : w.heap[g]? = some (.cells cur.toArray e (0, 0))) (hc : cur.length = c)
    (v : Value) (m : Nat) (news : List Value) (hx : a.eval x = v) (hsrc : Src P 1 tx v m news w) (hroom : n + m ≤ c)
    (h : ∀ w', w'.heap[g]? = some (.cells (cur.take n ++ news ++ cur.drop (n + m)).toArray e (0, 0)) → Only (fun k => k = g) w w' → wpList P ops Q rest (a.put o.dst (.slice (some ⟨g, 0, none⟩) (n + m) c)) w') : wpList P ops Q (o :: rest) a w := by
  refine wpList_plain hgd fun _ hK => ?_
  have hr := run_append_place (P := P) w t tx o.type e i ht hi hsize g n c cur hg hc v m news hsrc hroom
  unfold Oper.wp execOp
  simp only [ho, resolve, invoke, builtin, Sem.run_bind, Sem.run_pure, Result.andThen_ok, List.map_toArray, List.map_cons, List.map_nil, hs, hx, hr]
  exact hK _ _ (h _ (setRow_heap w g cur.toArray _ e _ hg) (only_setRow w g _))
end
/-- What is left of the list, who is gone, what is still to be looked at. -/
def cutStep (s : List Nat × List Nat × List Nat) (r : Rn) : List Nat × List Nat × List Nat := (s.1 ++ s.2.2.take (lowN s.2.2 r.1), s.2.1 ++ (s.2.2.drop (lowN s.2.2 r.1)).take (upN s.2.2 r.2 - lowN s.2.2 r.1), s.2.2.drop (upN s.2.2 r.2))
def inR (L : List Rn) (x : Nat) : Bool := L.any fun r => decide (r.1 ≤ x) && decide (x ≤ r.2)
/-- A list as it lies in block g from cell 'off' on. -/
structure Lies (w : World) (g off len c : Nat) (L : List Nat) (A : Option Addr) : Prop where
  cells : ∃ cur : List Value, w.heap[g]? = some (.cells cur.toArray 34 (0, 0)) ∧ cur.length = c ∧ (cur.drop off).take len = nvs L
  fits : off + len ≤ c ∧ c ≤ maxLen
  addr : 0 < len → A = some ⟨g, off, none⟩
  len : L.length = len
theorem Lies.sn {w : World} {g off len c : Nat} {L : List Nat} {A : Option Addr} (h : Lies w g off len c L A) : Sn w (g + 1) A len (c - off) 1 (nvs L) := by
  obtain ⟨cur, h1, h2, h3⟩ := h.cells
  refine ⟨by rw [nvs_len, h.len]; omega, by have := h.fits; omega, by have := h.fits; omega, fun hn => ⟨g, off, h.addr (by omega), by omega, fun j x hx => ?_⟩⟩
  rw [cell_of_row w g (off + j) cur.toArray 34 (0, 0) h1]
  rw [← h3, List.getElem?_take] at hx
  split at hx
  · rw [List.getElem?_drop] at hx
    simpa using hx
  · cases hx
end Go.Proofs.Ytbnhemmklbbnmaa

/-! ## BoardMath -/
namespace Go.Proofs.Ytbnhemmklbbnmaa
open Go.RowKit Go.Sort Go.Maps

theorem gv_inj {x y : Gp} (h : gv x = gv y) : x.gb = y.gb := by
  unfold gv at h
  injection h with h
  injection h with h
  injection h
theorem inR_cons (r : Rn) (R : List Rn) (x : Nat) : inR (r :: R) x = ((decide (r.1 ≤ x) && decide (x ≤ r.2)) || inR R x) := rfl
theorem inR_low {R : List Rn} {x : Nat} (h : ∀ r ∈ R, x < r.1) : inR R x = false := by
  unfold inR
  rw [List.any_eq_false]
  intro r hr
  have := h r hr
  simp
  omega
theorem cut_parts {N : List Nat} (h : Inc N) {a b : Nat} (hab : a ≤ b) : ∃ A M Z, N = A ++ M ++ Z ∧ N.take (lowN N a) = A ∧ (N.drop (lowN N a)).take (upN N b - lowN N a) = M ∧ N.drop (upN N b) = Z ∧ (∀ x ∈ A, x < a) ∧ (∀ x ∈ M, a ≤ x ∧ x ≤ b) ∧ ∀ x ∈ Z, b < x := by
  have hle : lowN N a ≤ upN N b := by
    rcases Nat.lt_or_ge (upN N b) (lowN N a) with h3 | h3
    · exfalso
      have h4 : lowN N a ≤ N.length := (List.takeWhile_sublist _).length_le
      have h6 := List.getElem?_eq_getElem (l := N) (i := upN N b) (by omega)
      have h7 := (lowN_iff h h6 (v := a)).1 h3
      have h8 := mt (upN_iff h h6 (v := b)).2 (by omega)
      omega
    · exact h3
  refine ⟨_, _, _, ?_, rfl, rfl, rfl, fun x hx => ?_, fun x hx => ?_, fun x hx => ?_⟩
  · have e : N.drop (upN N b) = (N.drop (lowN N a)).drop (upN N b - lowN N a) := by rw [List.drop_drop]; congr 1; omega
    rw [e, List.append_assoc, List.take_append_drop, List.take_append_drop]
  · obtain ⟨j, hj⟩ := List.mem_iff_getElem?.1 hx
    rw [List.getElem?_take] at hj
    split at hj
    · rename_i h1
      exact (lowN_iff h hj).1 h1
    · cases hj
  · obtain ⟨j, hj⟩ := List.mem_iff_getElem?.1 hx
    rw [List.getElem?_take] at hj
    split at hj
    · rename_i h1
      rw [List.getElem?_drop] at hj
      have h2 := mt (lowN_iff h hj (v := a)).2 (by omega)
      have h3 := (upN_iff h hj (v := b)).1 (by omega)
      omega
    · cases hj
  · obtain ⟨j, hj⟩ := List.mem_iff_getElem?.1 hx
    rw [List.getElem?_drop] at hj
    have h3 := mt (upN_iff h hj (v := b)).2 (by omega)
    omega
theorem cut_fold : ∀ (R : List Rn), R.Pairwise (fun a b => a.2 + 1 < b.1) → (∀ r ∈ R, r.1 ≤ r.2) → ∀ (l go N : List Nat), Inc N →
    (R.foldl cutStep (l, go, N)).1 ++ (R.foldl cutStep (l, go, N)).2.2 = l ++ N.filter (fun x => !inR R x) ∧ (R.foldl cutStep (l, go, N)).2.1 = go ++ N.filter (inR R)
  | [], _, _, l, go, N, _ => by
    have e1 : N.filter (fun x => !inR [] x) = N := List.filter_eq_self.2 fun x _ => rfl
    have e2 : N.filter (inR []) = [] := List.filter_eq_nil_iff.2 fun x _ => by simp [inR]
    simp [e1, e2]
  | r :: R, hf, hok, l, go, N, hN => by
    rw [List.pairwise_cons] at hf
    obtain ⟨A, M, Z, hs, e1, e2, e3, hA, hM, hZ⟩ := cut_parts hN (hok r List.mem_cons_self)
    have hZi : Inc Z := by rw [← e3]; exact hN.sublist (List.drop_sublist _ _)
    have ih := cut_fold R hf.2 (fun q hq => hok q (List.mem_cons_of_mem _ hq)) (l ++ A) (go ++ M) Z hZi
    have hst : cutStep (l, go, N) r = (l ++ A, go ++ M, Z) := by
      unfold cutStep
      simp only [e1, e2, e3]
    rw [List.foldl_cons, hst, ih.1, ih.2, hs]
    have rA : ∀ x ∈ A, inR (r :: R) x = false := fun x hx => by
      refine inR_low fun q hq => ?_
      have h1 := hA x hx
      rcases List.mem_cons.1 hq with rfl | hq
      · exact h1
      · have := hf.1 q hq
        have := hok r List.mem_cons_self
        omega
    have rM : ∀ x ∈ M, inR (r :: R) x = true := fun x hx => by
      have h1 := hM x hx
      rw [inR_cons]
      simp [h1.1, h1.2]
    have rZ : ∀ x ∈ Z, inR (r :: R) x = inR R x := fun x hx => by
      have h1 := hZ x hx
      rw [inR_cons]
      simp
      omega
    have f1 : A.filter (fun x => !inR (r :: R) x) = A := List.filter_eq_self.2 fun x hx => by rw [rA x hx]; rfl
    have f2 : A.filter (inR (r :: R)) = [] := List.filter_eq_nil_iff.2 fun x hx => by rw [rA x hx]; simp
    have f3 : M.filter (fun x => !inR (r :: R) x) = [] := List.filter_eq_nil_iff.2 fun x hx => by rw [rM x hx]; simp
    have f4 : M.filter (inR (r :: R)) = M := List.filter_eq_self.2 fun x hx => rM x hx
    have f5 : Z.filter (fun x => !inR (r :: R) x) = Z.filter (fun x => !inR R x) := List.filter_congr fun x hx => by rw [rZ x hx]
    have f6 : Z.filter (inR (r :: R)) = Z.filter (inR R) := List.filter_congr fun x hx => by rw [rZ x hx]
    rw [List.filter_append, List.filter_append, List.filter_append, List.filter_append, f1, f2, f3, f4, f5, f6]
    simp
/-- The members that P keeps. -/
def keepM (P : Nat → Bool) (g : Gp) : Gp := { g with mem := g.mem.filter P }
/-- The groups of whom P keeps somebody, with those. -/
def takeG (P : Nat → Bool) (G : List Gp) : List Gp := (G.map (keepM P)).filter (fun g => !g.mem.isEmpty)
/-- The times of these groups. -/
def takeE (G : List Gp) (E : List En) : List En := E.filter (fun e => decide (e.1 ∈ G.map (·.num)))
theorem takeG_cons (P : Nat → Bool) (g : Gp) (G : List Gp) : takeG P (g :: G) = if (g.mem.filter P).isEmpty then takeG P G else keepM P g :: takeG P G := by
  unfold takeG
  rw [List.map_cons, List.filter_cons]
  show (if (!(keepM P g).mem.isEmpty) = true then _ else _) = _
  unfold keepM
  cases (g.mem.filter P).isEmpty <;> simp
theorem takeG_congr {P Q : Nat → Bool} : ∀ {G : List Gp}, (∀ g ∈ G, ∀ x ∈ g.mem, P x = Q x) → takeG P G = takeG Q G
  | [], _ => rfl
  | g :: G, h => by
    have e : g.mem.filter P = g.mem.filter Q := List.filter_congr fun x hx => h g List.mem_cons_self x hx
    rw [takeG_cons, takeG_cons, takeG_congr fun g' hg' => h g' (List.mem_cons_of_mem _ hg')]
    unfold keepM
    rw [e]
theorem takeG_takeG (P Q : Nat → Bool) : ∀ (G : List Gp), takeG Q (takeG P G) = takeG (fun x => P x && Q x) G
  | [] => rfl
  | g :: G => by
    have e : (g.mem.filter P).filter Q = g.mem.filter (fun x => P x && Q x) := by rw [List.filter_filter]; exact List.filter_congr fun x _ => Bool.and_comm _ _
    rw [takeG_cons, takeG_cons]
    cases h : (g.mem.filter P).isEmpty
    · rw [if_neg (by simp), takeG_cons, takeG_takeG P Q G]
      unfold keepM
      simp only [e]
    · rw [if_pos rfl, takeG_takeG P Q G]
      rw [List.isEmpty_iff] at h
      rw [h] at e
      rw [← e]
      simp
theorem takeG_all {P : Nat → Bool} : ∀ {G : List Gp}, (∀ g ∈ G, g.mem ≠ []) → (∀ g ∈ G, ∀ x ∈ g.mem, P x = true) → takeG P G = G
  | [], _, _ => rfl
  | g :: G, h0, h => by
    have e : g.mem.filter P = g.mem := List.filter_eq_self.2 fun x hx => h g List.mem_cons_self x hx
    rw [takeG_cons, e, takeG_all (fun g' hg' => h0 g' (List.mem_cons_of_mem _ hg')) fun g' hg' => h g' (List.mem_cons_of_mem _ hg')]
    unfold keepM
    rw [e, if_neg (by rw [List.isEmpty_iff]; exact h0 g List.mem_cons_self)]
theorem takeG_mem {P : Nat → Bool} {G : List Gp} {y : Gp} : y ∈ takeG P G ↔ ∃ g ∈ G, keepM P g = y ∧ g.mem.filter P ≠ [] := by
  unfold takeG
  rw [List.mem_filter, List.mem_map]
  constructor
  · rintro ⟨⟨g, hg, rfl⟩, h⟩
    refine ⟨g, hg, rfl, fun e => ?_⟩
    simp [keepM, e] at h
  · rintro ⟨g, hg, rfl, h⟩
    refine ⟨⟨g, hg, rfl⟩, ?_⟩
    cases e : g.mem.filter P with
    | nil => exact absurd e h
    | cons a l => simp [keepM, e]
theorem takeG_nums_sub (P : Nat → Bool) (G : List Gp) : ((takeG P G).map (·.num)).Sublist (G.map (·.num)) := by
  unfold takeG
  refine (List.filter_sublist.map _).trans ?_
  rw [List.map_map]
  exact List.Sublist.refl _
theorem takeG_gbs_sub (P : Nat → Bool) (G : List Gp) : ((takeG P G).map (·.gb)).Sublist (G.map (·.gb)) := by
  unfold takeG
  refine (List.filter_sublist.map _).trans ?_
  rw [List.map_map]
  exact List.Sublist.refl _
/-- One number goes, with its group if nobody is left there. -/
theorem gdrop_del {G : List Gp} {g : Gp} {x : Nat} (hn : (G.map (·.num)).Nodup) (hg : g ∈ G) (ho : ∀ y ∈ G, y.num ≠ g.num → x ∉ y.mem) (hne : ∀ y ∈ G, y.mem ≠ []) (hd : g.mem.Nodup) (he : g.mem.erase x = []) :
    delG g.num (setMem g.num [] G) = takeG (fun y => decide (y ≠ x)) G := by
  have hf : g.mem.filter (fun y => decide (y ≠ x)) = [] := by rw [← he, hd.erase_eq_filter]; exact List.filter_congr fun y _ => by simp [bne, BEq.beq]
  have key : ∀ (L : List Gp), (∀ y ∈ L, y ∈ G) → delG g.num (setMem g.num [] L) = takeG (fun y => decide (y ≠ x)) L := fun L => by
    induction L with
    | nil => intro _; rfl
    | cons y L ih =>
      intro hL
      have hy := hL y List.mem_cons_self
      have ih := ih fun z hz => hL z (List.mem_cons_of_mem _ hz)
      rw [takeG_cons, ← ih]
      by_cases e : y.num = g.num
      · obtain rfl := inj_of hn hy hg e
        rw [hf, if_pos (by rfl)]
        unfold delG setMem
        rw [List.map_cons, if_pos rfl, List.filter_cons_of_neg (by simp)]
      · have e2 : y.mem.filter (fun z => decide (z ≠ x)) = y.mem := List.filter_eq_self.2 fun z hz => by
          have := ho y hy e
          simp
          exact fun e3 => this (e3 ▸ hz)
        rw [if_neg (by rw [e2, List.isEmpty_iff]; exact hne y hy)]
        unfold delG setMem keepM
        rw [List.map_cons, if_neg e, List.filter_cons_of_pos (by simpa using e), e2]
  exact key G fun _ h => h
theorem gdrop_set {G : List Gp} {g : Gp} {x : Nat} (hn : (G.map (·.num)).Nodup) (hg : g ∈ G) (ho : ∀ y ∈ G, y.num ≠ g.num → x ∉ y.mem) (hne : ∀ y ∈ G, y.mem ≠ []) (hd : g.mem.Nodup) (he : g.mem.erase x ≠ []) :
    setMem g.num (g.mem.erase x) G = takeG (fun y => decide (y ≠ x)) G := by
  have hf : g.mem.filter (fun y => decide (y ≠ x)) = g.mem.erase x := by rw [hd.erase_eq_filter]; exact List.filter_congr fun y _ => by simp [bne, BEq.beq]
  have key : ∀ (L : List Gp), (∀ y ∈ L, y ∈ G) → setMem g.num (g.mem.erase x) L = takeG (fun y => decide (y ≠ x)) L := fun L => by
    induction L with
    | nil => intro _; rfl
    | cons y L ih =>
      intro hL
      have hy := hL y List.mem_cons_self
      have ih := ih fun z hz => hL z (List.mem_cons_of_mem _ hz)
      rw [takeG_cons, ← ih]
      by_cases e : y.num = g.num
      · obtain rfl := inj_of hn hy hg e
        rw [hf, if_neg (by rw [List.isEmpty_iff]; exact he)]
        unfold setMem keepM
        rw [List.map_cons, if_pos rfl, hf]
      · have e2 : y.mem.filter (fun z => decide (z ≠ x)) = y.mem := List.filter_eq_self.2 fun z hz => by
          have := ho y hy e
          simp
          exact fun e3 => this (e3 ▸ hz)
        rw [if_neg (by rw [e2, List.isEmpty_iff]; exact hne y hy)]
        unfold setMem keepM
        rw [List.map_cons, if_neg e, e2]
  exact key G fun _ h => h
theorem takeE_takeE (P Q : Nat → Bool) (G : List Gp) (E : List En) : takeE (takeG Q (takeG P G)) (takeE (takeG P G) E) = takeE (takeG Q (takeG P G)) E := by
  unfold takeE
  rw [List.filter_filter]
  refine List.filter_congr fun e _ => ?_
  by_cases h : e.1 ∈ (takeG Q (takeG P G)).map (·.num)
  · have h2 := (takeG_nums_sub Q (takeG P G)).subset h
    rw [decide_eq_true h, decide_eq_true h2]; rfl
  · rw [decide_eq_false h]; rfl
theorem takeE_all {G : List Gp} {E : List En} (h : ∀ q ∈ ids E, q ∈ G.map (·.num)) : takeE G E = E :=
  List.filter_eq_self.2 fun e he => by simpa using h e.1 (List.mem_map.2 ⟨e, he, rfl⟩)
theorem drop_E {G : List Gp} {g : Gp} {E : List En} (hi : ∀ q ∈ ids E, q ∈ G.map (·.num)) : without g.num E = takeE (delG g.num (setMem g.num [] G)) E := by
  refine List.filter_congr fun e he => ?_
  have h1 := hi e.1 (List.mem_map.2 ⟨e, he, rfl⟩)
  have hs : ∀ q, q ∈ (delG g.num (setMem g.num [] G)).map (·.num) ↔ q ∈ G.map (·.num) ∧ q ≠ g.num := fun q => by
    unfold delG setMem
    simp only [List.mem_map, List.mem_filter]
    constructor
    · rintro ⟨y, ⟨⟨z, hz, rfl⟩, h2⟩, rfl⟩
      refine ⟨⟨z, hz, by split <;> rfl⟩, by simpa using h2⟩
    · rintro ⟨⟨z, hz, rfl⟩, h2⟩
      exact ⟨z, ⟨⟨z, hz, by rw [if_neg h2]⟩, by simpa using h2⟩, rfl⟩
  rw [Bool.eq_iff_iff, decide_eq_true_iff, decide_eq_true_iff, hs]
  exact ⟨fun h => ⟨h1, h⟩, fun h => h.2⟩

theorem filter_sub {α : Type} [DecidableEq α] : ∀ {L' L : List α}, L'.Sublist L → L.Nodup → L.filter (fun x => decide (x ∈ L')) = L' := by
  intro L' L hs
  induction hs with
  | slnil => intro _; rfl
  | cons a h ih =>
    intro hn
    rw [List.nodup_cons] at hn
    rw [List.filter_cons_of_neg (by simpa using fun e => hn.1 (h.subset e))]
    exact ih hn.2
  | cons_cons a h ih =>
    intro hn
    rw [List.nodup_cons] at hn
    rw [List.filter_cons_of_pos (by simp)]
    congr 1
    conv => rhs; rw [← ih hn.2]
    refine List.filter_congr fun x hx => ?_
    have : x ≠ a := fun e => hn.1 (e ▸ hx)
    simp [this]
/-- What holds of a board's parts, apart from memory: D are on their way. -/
structure BW (last : Nat) (G : List Gp) (gN hN : Nat) (gF hF : Nat → Option Value) (E : List En) (D : List Nat) : Prop where
  gi : (G.map (·.gb)).Nodup
  nd : (G.map (·.num)).Nodup
  nl : ∀ x ∈ G, 1 ≤ x.num ∧ x.num ≤ last
  gf : ∀ x ∈ G, gF x.num = some (gv x)
  gn : ∀ q, q ∉ G.map (·.num) → gF q = none
  hf : ∀ x ∈ G, ∀ k ∈ x.mem, hF k = some (gv x)
  hd : ∀ k, k ∈ D ↔ ∃ x ∈ G, k ∈ x.mem
  hn : ∀ k, k ∉ D → hF k = none
  md : ∀ x ∈ G, x.mem.Nodup
  me : ∀ x ∈ G, x.mem ≠ []
  dn : D.Nodup
  dl : ∀ k ∈ D, k < two64
  ie : (ids E).Perm (G.map (·.num))
  ord : Ord E
  gl : G.length ≤ last
  gb : gN ≤ last
  hb : hN ≤ D.length
section
variable {last : Nat} {G : List Gp} {gN hN : Nat} {gF hF : Nat → Option Value} {E : List En} {D : List Nat} {g : Gp} {x : Nat}
theorem BW.one (h : BW last G gN hN gF hF E D) {a b : Gp} (ha : a ∈ G) (hb : b ∈ G) {k : Nat} (h1 : k ∈ a.mem) (h2 : k ∈ b.mem) : a = b := by
  have e1 := h.hf a ha k h1
  have e2 := h.hf b hb k h2
  rw [e1] at e2
  injection e2 with e2
  exact inj_of h.gi ha hb (gv_inj e2)
theorem BW.some_iff (h : BW last G gN hN gF hF E D) (k : Nat) : (hF k).isSome = true ↔ k ∈ D := by
  constructor
  · intro h1
    rcases Decidable.em (k ∈ D) with e | e
    · exact e
    · rw [h.hn k e] at h1; cases h1
  · intro h1
    obtain ⟨a, ha, hk⟩ := (h.hd k).1 h1
    rw [h.hf a ha k hk]; rfl
theorem BW.elen (h : BW last G gN hN gF hF E D) : E.length ≤ last := by
  have h1 := h.ie.length_eq
  unfold ids at h1
  rw [List.length_map, List.length_map] at h1
  have := h.gl
  omega
/-- Whatever goes: what holds of those that are left. -/
theorem BW.take (h : BW last G gN hN gF hF E D) (P : Nat → Bool) {gN' hN' : Nat} {gF' hF' : Nat → Option Value}
    (hg1 : ∀ q, q ∈ (takeG P G).map (·.num) → gF' q = gF q) (hg2 : ∀ q, q ∉ (takeG P G).map (·.num) → gF' q = none) (hh1 : ∀ k, P k = true → hF' k = hF k) (hh2 : ∀ k ∈ D, P k = false → hF' k = none) (hh3 : ∀ k, hF k = none → hF' k = none) (hgN : gN' ≤ last) (hhN : hN' ≤ (D.filter P).length) :
    BW last (takeG P G) gN' hN' gF' hF' (takeE (takeG P G) E) (D.filter P) := by
  have hmem : ∀ y ∈ takeG P G, ∃ z ∈ G, y.num = z.num ∧ gv y = gv z ∧ y.mem = z.mem.filter P ∧ y.mem ≠ [] := fun y hy => by
    obtain ⟨z, hz, rfl, hne⟩ := takeG_mem.1 hy
    exact ⟨z, hz, rfl, rfl, rfl, hne⟩
  have hsub := takeG_nums_sub P G
  refine ⟨(takeG_gbs_sub P G).nodup h.gi, hsub.nodup h.nd, fun y hy => ?_, fun y hy => ?_, hg2, fun y hy k hk => ?_, fun k => ?_, fun k hk => ?_, fun y hy => ?_, fun y hy => ?_, h.dn.sublist List.filter_sublist, fun k hk => h.dl k (List.mem_filter.1 hk).1, ?_, ?_, ?_, hgN, hhN⟩
  · obtain ⟨z, hz, e1, e2, e3, e4⟩ := hmem y hy
    rw [e1]; exact h.nl z hz
  · obtain ⟨z, hz, e1, e2, e3, e4⟩ := hmem y hy
    rw [hg1 y.num (List.mem_map.2 ⟨y, hy, rfl⟩), e1, e2]
    exact h.gf z hz
  · obtain ⟨z, hz, e1, e2, e3, e4⟩ := hmem y hy
    rw [e3, List.mem_filter] at hk
    rw [hh1 k hk.2, e2]
    exact h.hf z hz k hk.1
  · rw [List.mem_filter, h.hd]
    constructor
    · rintro ⟨⟨z, hz, hk⟩, hP⟩
      have hk2 : k ∈ z.mem.filter P := List.mem_filter.2 ⟨hk, hP⟩
      exact ⟨keepM P z, takeG_mem.2 ⟨z, hz, rfl, fun e => by rw [e] at hk2; cases hk2⟩, hk2⟩
    · rintro ⟨y, hy, hk⟩
      obtain ⟨z, hz, e1, e2, e3, e4⟩ := hmem y hy
      rw [e3, List.mem_filter] at hk
      exact ⟨⟨z, hz, hk.1⟩, hk.2⟩
  · rcases Decidable.em (k ∈ D) with e | e
    · cases hP : P k with
      | true => exact absurd (List.mem_filter.2 ⟨e, hP⟩) hk
      | false => exact hh2 k e hP
    · exact hh3 k (h.hn k e)
  · obtain ⟨z, hz, e1, e2, e3, e4⟩ := hmem y hy
    rw [e3]
    exact (h.md z hz).sublist List.filter_sublist
  · obtain ⟨z, hz, e1, e2, e3, e4⟩ := hmem y hy
    exact e4
  · have e1 : ids (takeE (takeG P G) E) = (ids E).filter (fun q => decide (q ∈ (takeG P G).map (·.num))) := by
      unfold ids takeE
      rw [List.filter_map]
      rfl
    rw [e1]
    refine (h.ie.filter _).trans ?_
    rw [filter_sub hsub h.nd]
  · exact ⟨h.ord.sort.sublist List.filter_sublist, h.ord.nd.sublist (List.filter_sublist.map _)⟩
  · have h1 := hsub.length_le
    rw [List.length_map, List.length_map] at h1
    have := h.gl
    omega
theorem BW.others (h : BW last G gN hN gF hF E D) (hg : g ∈ G) (hx : x ∈ g.mem) : ∀ y ∈ G, y.num ≠ g.num → x ∉ y.mem := fun y hy hne hxy => hne (by rw [h.one hy hg hxy hx])
theorem BW.idsG (h : BW last G gN hN gF hF E D) : ∀ q ∈ ids E, q ∈ G.map (·.num) := fun _ hq => h.ie.subset hq
theorem BW.len1 (h : BW last G gN hN gF hF E D) (hx : x ∈ D) : hN - 1 ≤ (D.filter (fun y => decide (y ≠ x))).length := by
  have e : D.filter (fun y => decide (y ≠ x)) = D.erase x := by rw [h.dn.erase_eq_filter]; exact List.filter_congr fun y _ => by simp [bne, BEq.beq]
  rw [e, List.length_erase_of_mem hx]
  have := h.hb
  omega
theorem BW.drop_del (h : BW last G gN hN gF hF E D) (hg : g ∈ G) (hx : x ∈ g.mem) (he : g.mem.erase x = []) :
    BW last (takeG (fun y => decide (y ≠ x)) G) (gN - 1) (hN - 1) (delF gF g.num) (delF hF x) (takeE (takeG (fun y => decide (y ≠ x)) G) E) (D.filter (fun y => decide (y ≠ x))) := by
  have hxD : x ∈ D := (h.hd x).2 ⟨g, hg, hx⟩
  have e := gdrop_del h.nd hg (h.others hg hx) h.me (h.md g hg) he
  have hs : ∀ q, q ∈ (takeG (fun y => decide (y ≠ x)) G).map (·.num) ↔ q ∈ G.map (·.num) ∧ q ≠ g.num := fun q => by
    rw [← e]
    unfold delG setMem
    simp only [List.mem_map, List.mem_filter]
    constructor
    · rintro ⟨y, ⟨⟨z, hz, rfl⟩, h2⟩, rfl⟩
      refine ⟨⟨z, hz, by split <;> rfl⟩, by simpa using h2⟩
    · rintro ⟨⟨z, hz, rfl⟩, h2⟩
      exact ⟨z, ⟨⟨z, hz, by rw [if_neg h2]⟩, by simpa using h2⟩, rfl⟩
  refine h.take _ (fun q hq => ?_) (fun q hq => ?_) (fun k hk => ?_) (fun k hk hP => ?_) (fun k hk => ?_) (by have := h.gb; omega) (h.len1 hxD)
  · unfold delF
    rw [if_neg ((hs q).1 hq).2]
  · unfold delF
    by_cases e2 : q = g.num
    · rw [if_pos e2]
    · rw [if_neg e2]
      exact h.gn q fun h3 => hq ((hs q).2 ⟨h3, e2⟩)
  · unfold delF
    rw [if_neg (by simpa using hk)]
  · unfold delF
    rw [if_pos (by simpa using hP)]
  · unfold delF
    split
    · rfl
    · exact hk
theorem BW.drop_set (h : BW last G gN hN gF hF E D) (hg : g ∈ G) (hx : x ∈ g.mem) (he : g.mem.erase x ≠ []) :
    BW last (takeG (fun y => decide (y ≠ x)) G) gN (hN - 1) gF (delF hF x) (takeE (takeG (fun y => decide (y ≠ x)) G) E) (D.filter (fun y => decide (y ≠ x))) := by
  have hxD : x ∈ D := (h.hd x).2 ⟨g, hg, hx⟩
  have e := gdrop_set h.nd hg (h.others hg hx) h.me (h.md g hg) he
  have hs : (takeG (fun y => decide (y ≠ x)) G).map (·.num) = G.map (·.num) := by rw [← e, setMem_num]
  refine h.take _ (fun _ _ => rfl) (fun q hq => h.gn q (by rw [← hs]; exact hq)) (fun k hk => ?_) (fun k hk hP => ?_) (fun k hk => ?_) h.gb (h.len1 hxD)
  · unfold delF
    rw [if_neg (by simpa using hk)]
  · unfold delF
    rw [if_pos (by simpa using hP)]
  · unfold delF
    split
    · rfl
    · exact hk
end
end Go.Proofs.Ytbnhemmklbbnmaa

/-! ## BoardCut -/
namespace Go.Proofs.Ytbnhemmklbbnmaa
open Go Go.RowKit Go.Sort

/-- The block's cells behind an append in place. -/
theorem place_cells {cur : List Value} {l rs : List Nat} {off c fr : Nat} (hc : cur.length = c) (h3 : cur.take l.length = nvs l) (h4 : (cur.drop off).take rs.length = nvs rs) (hm : l.length ≤ off) (ho : off + rs.length ≤ c) (hf : fr ≤ rs.length) :
    (cur.take l.length ++ nvs (rs.take fr) ++ cur.drop (l.length + fr)).length = c ∧ (cur.take l.length ++ nvs (rs.take fr) ++ cur.drop (l.length + fr)).take (l.length + fr) = nvs (l ++ rs.take fr) ∧
      ∀ u, fr ≤ u → u ≤ rs.length → ((cur.take l.length ++ nvs (rs.take fr) ++ cur.drop (l.length + fr)).drop (off + u)).take (rs.length - u) = nvs (rs.drop u) := by
  have hl1 : (cur.take l.length ++ nvs (rs.take fr)).length = l.length + fr := by rw [List.length_append, List.length_take, nvs_len, List.length_take]; omega
  refine ⟨?_, ?_, fun u h1 h2 => ?_⟩
  · rw [List.length_append, hl1, List.length_drop]; omega
  · rw [← hl1, List.take_left, h3]
    unfold nvs
    rw [List.map_append]
  · rw [List.drop_append, hl1, List.drop_eq_nil_of_le (by rw [hl1]; omega), List.nil_append, List.drop_drop, show l.length + fr + (off + u - (l.length + fr)) = off + u from by omega]
    have h5 : ((cur.drop off).take rs.length).drop u = (nvs rs).drop u := by rw [h4]
    rw [List.drop_take, List.drop_drop] at h5
    rw [h5]
    unfold nvs
    rw [List.map_drop]
def CutRel (w : World) (_base g n c : Nat) (fl : List Nat) (R : List Rn) (rv_ : Value) (rn X : Nat) (gk : Nat) (v4 v5 vi : Value) (wr : World) : Prop :=
  ∃ (k : Nat) (s : List Nat × List Nat × List Nat) (La gA : Option Addr) (gn gc off : Nat), gk + k = rn ∧ vi = .int .i64 (k : Int) ∧ s = (R.take k).foldl cutStep ([], [], fl) ∧ v4 = .slice (some ⟨g, 0, none⟩) s.1.length c ∧ v5 = .slice gA gn gc ∧
    (∃ cur : List Value, wr.heap[g]? = some (.cells cur.toArray 34 (0, 0)) ∧ cur.length = c ∧ cur.take s.1.length = nvs s.1 ∧ (cur.drop off).take s.2.2.length = nvs s.2.2) ∧ s.1.length ≤ off ∧ off + s.2.2.length = n ∧
    wr.cell? ⟨X, 0, none⟩ = some (.slice La s.2.2.length (c - off)) ∧ wr.frozen? ⟨X, 0, none⟩ = false ∧ (0 < s.2.2.length → La = some ⟨g, off, none⟩) ∧ OwnN wr w.heap.size gA gn gc s.2.1 ∧ wr.ownsRow w.heap.size 47 2 rv_ rn (rvs R) ∧
    (∀ b, (Value.slice gA gn gc).ownBlock = some b → b ≠ X ∧ rv_.ownBlock ≠ some b) ∧ Only (fun k => k = g) w wr ∧ Inc s.2.2 ∧ s.1.length + s.2.1.length + s.2.2.length ≤ n
def BCut (w : World) (g _n c : Nat) (fl : List Nat) (R : List Rn) (e : Ending) (w' : World) : Prop :=
  ∃ (gA : Option Addr) (gn gc : Nat), e = .returned (.tuple #[.slice (some ⟨g, 0, none⟩) ((R.foldl cutStep ([], [], fl)).1 ++ (R.foldl cutStep ([], [], fl)).2.2).length c, .slice gA gn gc]) ∧
    OwnN w' w.heap.size gA gn gc (R.foldl cutStep ([], [], fl)).2.1 ∧ (∃ cur : List Value, w'.heap[g]? = some (.cells cur.toArray 34 (0, 0)) ∧ cur.length = c ∧ cur.take ((R.foldl cutStep ([], [], fl)).1 ++ (R.foldl cutStep ([], [], fl)).2.2).length = nvs ((R.foldl cutStep ([], [], fl)).1 ++ (R.foldl cutStep ([], [], fl)).2.2)) ∧ Only (fun k => k = g) w w'
set_option maxRecDepth 100000 in
set_option maxHeartbeats 4000000 in
theorem bcut_any (w : World) (g n c : Nat) (fl : List Nat) (cur0 : List Value) (hcur : w.heap[g]? = some (.cells cur0.toArray 34 (0, 0))) (hlen : cur0.length = c) (htake : cur0.take n = nvs fl) (hnc : n ≤ c) (hc : c ≤ maxLen) (hfl : fl.length = n) (hinc : Inc fl) (hn : n ≤ 1000) (Ar : Option Addr) (rn rc : Nat) (R : List Rn) (hR : St w w.heap.size Ar rn rc R) (hrn : rn ≤ 1000) (hok : ∀ r ∈ R, r.1 ≤ r.2) :
    Calls Try.prog 42 #[.slice (some ⟨g, 0, none⟩) n c, .agg #[.slice Ar rn rc]] w (BCut w g n c fl R) := by
  obtain ⟨i0, hi0, hz0, hz1, hz2⟩ := info_parts u64_info
  have hgz := lt_at hcur
  have HR := Lib.hid hR
  have h1c : (0 : Int) ≤ (c : Int) := by omega
  have hnc0 : n ≤ 9223372036854775807 := by omega
  go_enter Try.func42, Try.ntmps42
  go_wp2_with fail
  have hb1 : RowKit.Below w.heap.size w ((w.alloc (Obj.cells #[.slice (some ⟨g, 0, none⟩) n c] 37)).alloc (Obj.cells #[.slice Ar rn rc] 44)) := (below_box w _).trans ((below_box (w.alloc (Obj.cells #[.slice (some ⟨g, 0, none⟩) n c] 37)) _).mono (by simp))
  have hXb : ((w.alloc (Obj.cells #[.slice (some ⟨g, 0, none⟩) n c] 37)).alloc (Obj.cells #[.slice Ar rn rc] 44)).heap[w.heap.size]? = some (.cells #[.slice (some ⟨g, 0, none⟩) n c] 37 (0, 0)) := (RowKit.Below.heap_alloc _ _ _ (by simp)).trans (heap_alloc_new w _)
  generalize (w.alloc (Obj.cells #[.slice (some ⟨g, 0, none⟩) n c] 37)).alloc (Obj.cells #[.slice Ar rn rc] 44) = W1 at *
  have hXl := lt_at hXb
  refine (runs_any W1 Ar rn rc R (HR.out.on hb1 (Nat.le_refl _)).rs (by omega)).mono ?_
  rintro e w2 ⟨Aq, nq, cq, rfl, hown2, hb2⟩
  have hnq : nq = rn := by
    have h1 := hown2.1
    have h2 := HR.out.rs.len
    rw [rvs_len] at h1
    omega
  subst hnq
  have HLT : Hid (∀ q ∈ R, q.1 < two64 ∧ q.2 < two64) := HR.out.rs.lt
  have HB2 : Hid (RowKit.Below w.heap.size w w2) := hb1.trans (hb2.mono hb1.size)
  have HOW2 : Hid (w2.ownsRow w.heap.size 47 2 (.slice Aq nq cq) nq (rvs R)) := World.ownsRow.mono hown2 hb1.size
  have HX2 := Lib.hid ((hb2.block _ hXl).trans hXb)
  have HRL : Hid (R.length = nq) := HR.out.rs.len
  have HRX0 : Hid (∀ z, (Value.slice Aq nq cq).ownBlock = some z → z ≠ w.heap.size) := fun z hz e => by have := (hown2.lt z hz).1; omega
  obtain ⟨X, HX⟩ : ∃ z, Hid (z = w.heap.size) := ⟨_, rfl⟩
  have HRX : Hid (∀ z, (Value.slice Aq nq cq).ownBlock = some z → z ≠ X) := fun z hz => by rw [HX.out]; exact HRX0.out z hz
  rw [← HX.out] at HX2 ⊢
  clear HRX0
  clear hb1 hXb hXl hb2 hown2 HR
  go_wp2_with fail
  go_loopg [4, 5, 16] nq (fun gk v4 v5 vi wr => CutRel w 0 g n c fl R (.slice Aq nq cq) nq X gk v4 v5 vi wr)
  case atStart =>
    refine ⟨0, ([], [], fl), some ⟨g, 0, none⟩, none, 0, 0, 0, by omega, rfl, rfl, rfl, rfl, ⟨cur0, (HB2.out.block g hgz).trans hcur, hlen, rfl, ?_⟩, Nat.le_refl _, ?_, ?_, frz_blk HX2.out, fun _ => rfl, World.ownsRow_nil _ _ _ _, HOW2.out, ?_, Only.of_below HB2.out, hinc, by show 0 + 0 + fl.length ≤ n; omega⟩
    · show (cur0.drop 0).take fl.length = nvs fl
      rw [List.drop_zero, hfl]
      exact htake
    · show 0 + fl.length = n
      omega
    · show w2.cell? ⟨X, 0, none⟩ = some (.slice (some ⟨g, 0, none⟩) fl.length (c - 0))
      rw [hfl, Nat.sub_zero]
      exact cell_at HX2.out 0 rfl
    · intro b hb
      simp [Value.ownBlock] at hb
  case round =>
    obtain ⟨k, ⟨l, go, rs⟩, La, gA, gn, gc, off, hg, rfl, hst, rfl, rfl, ⟨cur, hc1, hc2, hc3, hc4⟩, hm, hoff, hX, hXf, hLa, hgo, hrr, hsep, hon, hincr, hsum⟩ := hrel
    simp only at hc3 hc4 hm hoff hX hLa hgo hincr hsum
    have HSUM := Lib.hid hsum
    have HG := Lib.hid hg
    have HST := Lib.hid hst
    have HC1 := Lib.hid hc1
    have HC2 := Lib.hid hc2
    have HC3 := Lib.hid hc3
    have HC4 := Lib.hid hc4
    have HM := Lib.hid hm
    have HOFF := Lib.hid hoff
    have HXF := Lib.hid hXf
    have HLA := Lib.hid hLa
    have HGO := Lib.hid hgo
    have HRR := Lib.hid hrr
    have HSEP := Lib.hid hsep
    have HON := Lib.hid hon
    have HINC := Lib.hid hincr
    have HSN : Hid (Sn wr (g + 1) La rs.length (c - off) 1 (nvs rs)) := (Lies.mk (w := wr) (g := g) (off := off) (len := rs.length) (c := c) (L := rs) (A := La) ⟨cur, hc1, hc2, hc4⟩ ⟨by omega, hc⟩ hLa rfl).sn
    clear hg hst hc1 hc2 hc3 hc4 hm hoff hXf hLa hgo hrr hsep hon hincr hsum
    obtain ⟨cc, HCC⟩ : ∃ z, Hid (z = c - off) := ⟨_, rfl⟩
    rw [← HCC.out] at hX HSN
    have HCO : Hid (off + rs.length ≤ c ∧ cc = c - off) := ⟨by have := HOFF.out; omega, HCC.out⟩
    by_cases hk : k < nq
    · have hkI : (k : Int) < (nq : Int) := by omega
      have hk0 : (0 : Int) ≤ (k : Int) := by omega
      obtain ⟨b, o, r, he, hbB, hrk, hr0, hr1, hl0, hl1⟩ := (Rs.of_own HRR.out HLT.out).at_ hk
      subst he
      obtain ⟨r0, r1⟩ := r
      simp only at hr0 hr1 hl0 hl1
      have HRK := Lib.hid hrk
      obtain ⟨rl, HRS⟩ : ∃ z, Hid (z = rs.length) := ⟨_, rfl⟩
      rw [← HRS.out] at hX HSN
      have hrl : rl ≤ 1000 := by have := HOFF.out; have := HRS.out; omega
      have hXz := World.block_lt_of_cell? wr _ hX
      clear hrk
      go_wp2_with fail
      have hbx := below_box wr (.cells #[.int .u64 (r0 : Int), .int .u64 (r1 : Int)] 47)
      have hRb := heap_alloc_new wr (.cells #[.int .u64 (r0 : Int), .int .u64 (r1 : Int)] 47)
      have hz3 : (wr.alloc (.cells #[.int .u64 (r0 : Int), .int .u64 (r1 : Int)] 47)).heap.size = wr.heap.size + 1 := by simp
      have hX3 := (hbx.cell (p := ⟨X, 0, none⟩) hXz).trans hX
      have hgzr : g + 1 ≤ wr.heap.size := lt_at HC1.out
      have HSN3 := Lib.hid (HSN.out.below hbx hgzr)
      have HBX := Lib.hid hbx
      generalize wr.alloc (.cells #[.int .u64 (r0 : Int), .int .u64 (r1 : Int)] 47) = W3 at *
      obtain ⟨fr, HFR⟩ : ∃ z, Hid (z = lowN rs r0) := ⟨_, rfl⟩
      obtain ⟨up, HUP⟩ : ∃ z, Hid (z = upN rs r1) := ⟨_, rfl⟩
      have hord : fr ≤ up ∧ up ≤ rl := by
        have h1 := hok (r0, r1) (List.mem_of_getElem? HRK.out)
        simp only at h1
        have h2 := upN_le rs r1
        rw [HFR.out, HUP.out, HRS.out]
        refine ⟨?_, h2⟩
        rcases Nat.lt_or_ge (upN rs r1) (lowN rs r0) with h3 | h3
        · exfalso
          have h4 := lowN_le rs r0
          have h5 : upN rs r1 < rs.length := by omega
          have h6 := List.getElem?_eq_getElem h5
          have h7 := (lowN_iff HINC.out h6 (v := r0)).1 h3
          have h8 := mt (upN_iff HINC.out h6 (v := r1)).2 (by omega)
          omega
        · exact h3
      have hbn := binary_any W3 (g + 1) La rl cc r0 rs HSN3.out HINC.out hrl
      rw [← HFR.out] at hbn
      have HBN := Lib.hid hbn
      obtain ⟨Rb, HRB⟩ : ∃ z, Hid (z = wr.heap.size) := ⟨_, rfl⟩
      rw [← HRB.out] at hRb hz3 hXz hgzr ⊢
      clear hbn hbx hX hr0 hr1
      refine HBN.out.mono ?_
      rintro e w4 ⟨⟨fd, rfl⟩, rfl⟩
      go_wp2_with fail
      have hby := below_box W3 (.cells #[.int .i64 (fr : Int)] 3)
      have hF4 : (W3.alloc (.cells #[.int .i64 (fr : Int)] 3)).cell? ⟨Rb + 1, 0, none⟩ = some (.int .i64 (fr : Int)) := cell_last W3 _ _ _ 0 hz3
      have hX4 := (hby.cell (p := ⟨X, 0, none⟩) (show X < W3.heap.size by omega)).trans hX3
      have hR4 : (W3.alloc (.cells #[.int .i64 (fr : Int)] 3)).cell? ⟨Rb, 1, none⟩ = some (.int .u64 (r1 : Int)) := (hby.cell (p := ⟨Rb, 1, none⟩) (show Rb < W3.heap.size by omega)).trans (cell_at hRb 1 rfl)
      have HSN4 := Lib.hid (HSN3.out.below hby (by omega))
      have HBY := Lib.hid hby
      generalize W3.alloc (.cells #[.int .i64 (fr : Int)] 3) = W4 at *
      obtain ⟨nn, HNN⟩ : ∃ z, Hid (z = rl - fr) := ⟨_, rfl⟩
      obtain ⟨d, HD⟩ : ∃ z, Hid (z = up - fr) := ⟨_, rfl⟩
      have hnnI : (rl : Int) - (fr : Int) = (nn : Int) := by have := HNN.out; omega
      have hdI : (fr : Int) + (d : Int) = (up : Int) := by have := HD.out; omega
      have hnnw : IntKind.i64.wrap (nn : Int) = (nn : Int) := by simp [IntKind.wrap, IntKind.bits, IntKind.signed]; omega
      have hdw : IntKind.i64.wrap (up : Int) = (up : Int) := by simp [IntKind.wrap, IntKind.bits, IntKind.signed]; omega
      have hcs := csearch_any W4.drew X (Rb + 1) Rb (g + 1) La rl cc fr r1 rs hX4 hF4 hR4 (HSN4.out.drewN 1) HINC.out (by rw [← HUP.out]; exact hord.1) hrl
      rw [← HNN.out, ← HUP.out, ← HD.out] at hcs
      have HCS := Lib.hid hcs
      have hck : ∀ q, (W4.drew.drewN q).cell? ⟨X, 0, none⟩ = some (.slice La rl cc) ∧ (W4.drew.drewN q).cell? ⟨Rb + 1, 0, none⟩ = some (.int .i64 (fr : Int)) := fun q => ⟨hX4, hF4⟩
      clear hby hX3 hRb hcs
      go_region_held3 (fun w' => w'.cell? ⟨X, 0, none⟩ = some (.slice La rl cc) ∧ w'.cell? ⟨Rb + 1, 0, none⟩ = some (.int .i64 (fr : Int))) (first | exact ⟨hX4, hF4⟩ | exact hck _) (first
        | (go_at_call 63; refine HCS.out.mono ?_; rintro e w5 ⟨rfl, q, rfl⟩))
      have HBZ : Hid (RowKit.Below wr.heap.size wr (W4.drewN (1 + q))) := below_drewN (HBX.out.trans (HBY.out.mono (by have := HBX.out.size; omega))) (1 + q)
      have hX5 : (W4.drewN (1 + q)).cell? ⟨X, 0, none⟩ = some (.slice La rl cc) := hX4
      have hF5 : (W4.drewN (1 + q)).cell? ⟨Rb + 1, 0, none⟩ = some (.int .i64 (fr : Int)) := hF4
      have HSN5 : Hid (Sn (W4.drewN (1 + q)) (g + 1) La rl cc 1 (nvs rs)) := HSN4.out.drewN _
      clear hX4 hF4 hR4 hck HCS HSN4 HSN3
      generalize W4.drewN (1 + q) = W5 at *
      have HG5 := Lib.hid ((HBZ.out.block g (lt_at HC1.out)).trans HC1.out)
      have hco : off + rl = n := by have := HOFF.out; have := HRS.out; omega
      have hrlc : rl ≤ cc := by have := HCO.out; have := HRS.out; omega
      have hfr0 : (0 : Int) ≤ (fr : Int) := by omega
      have hfrc : (fr : Int) ≤ (cc : Int) := by omega
      have hfu : (fr : Int) ≤ (up : Int) := by omega
      have hupc : (up : Int) ≤ (cc : Int) := by omega
      have hup0 : (0 : Int) ≤ (up : Int) := by omega
      have HNT : Hid (∀ m, (nvs rs).take (m * 1) = nvs (rs.take m)) := fun m => by rw [Nat.mul_one]; unfold nvs; rw [List.map_take]
      have HS1 : Hid (Sn W5 (g + 1) La fr cc 1 (nvs (rs.take fr))) := by
        have h1 := HSN5.out.take (m := fr) (d := cc) (by omega) (by omega) (Nat.le_refl _)
        rw [HNT.out] at h1
        exact h1
      have hlfr : l.length + fr ≤ c := by have := HM.out; omega
      obtain ⟨ll, HLL⟩ : ∃ z, Hid (z = l.length) := ⟨_, rfl⟩
      rw [← HLL.out] at hlfr ⊢
      by_cases h1c : cc = fr
      · have h2c : cc = up := by omega
        have HD1 : Hid (fr = up) := by show _ = _; omega
        obtain rfl : fr = up := HD1.out
        subst h1c
        clear h2c
        have hX0 : X ≠ g := by have := HX.out; omega
        have hF0 : Rb + 1 ≠ g := by omega
        have hpc := place_cells (fr := cc) HC2.out HC3.out HC4.out HM.out (by have := HOFF.out; omega) (by rw [← HRS.out]; omega)
        rw [← HLL.out, ← HRS.out] at hpc
        have HPC := Lib.hid hpc
        have HPC6 : ∀ w6 : World, w6.heap[g]? = some (.cells (cur.take ll ++ nvs (rs.take cc) ++ cur.drop (ll + cc)).toArray 34 (0, 0)) → Sn w6 (g + 1) La 0 0 1 (nvs []) := fun w6 _ => Sn.nil_ w6 (g + 1) La 0 1 (by unfold maxLen; omega)
        have HGO5 : OwnN W5 w.heap.size gA gn gc go := own_same HGO.out (fun z hz => HBZ.out.block z (HGO.out.lt z hz).2)
        have HGO56 : ∀ w6 : World, Only (fun k => k = g) W5 w6 → OwnN w6 w.heap.size gA gn gc go := fun w6 h6 => own_same HGO5 (fun z hz => h6.block z (HGO5.lt z hz).2 (fun e => by have := (HGO5.lt z hz).1; omega))
        have hgn : gn ≤ 1000 := by
          have h1 := HGO.out.len
          have h2 := HSUM.out
          omega
        have HH := Lib.hid HPC6
        clear hpc
        go_wp2_with (first
          | (at_builtin; refine wpList_append_place _ rfl (.tmp 35) (.tmp 38) 37 37 rfl 34 i0 Try.underlying37 hi0 hz1 g ll c rfl cur HG5.out HC2.out _ cc (nvs (rs.take cc)) rfl (HS1.out.src Try.underlying37 (nvs_one _)) hlfr ?_; intro w6 hg6 ho6; have HG6 := Lib.hid hg6; have HO6 := Lib.hid ho6; have hX6 : w6.cell? ⟨X, 0, none⟩ = some (.slice La rl cc) := (World.cell?_of_block (a := ⟨X, 0, none⟩) (ho6.block X (World.block_lt_of_cell? W5 _ hX5) hX0)).trans hX5; have hF6 : w6.cell? ⟨Rb + 1, 0, none⟩ = some (.int .i64 (cc : Int)) := (World.cell?_of_block (a := ⟨Rb + 1, 0, none⟩) (ho6.block (Rb + 1) (World.block_lt_of_cell? W5 _ hF5) hF0)).trans hF5; clear hg6 ho6; have HSN44 := Lib.hid (HPC6 w6 HG6.out); have HGO6 := Lib.hid (HGO56 w6 HO6.out))
          | (at_builtin; go_loud (refine wpList_append_dstN _ rfl (.tmp 40) (.tmp 44) 37 37 rfl w.heap.size 34 i0 _ 1 8 Try.underlying37 hi0 hz0 hz1 hz2 rfl gA gn gc (nvs go) rfl (.inr HGO6.out) _ 0 (nvs []) rfl (HSN44.out.src Try.underlying37 (nvs_one _)) (by omega) (by omega) (by have h1 := HO6.out.size; have h2 := HBZ.out.size; have h3 := HON.out.size; omega) ?_; intro A7 c7 w7 g1 g2 g3 g4 g5 g6; have HR7 := Lib.hid (g3 HGO6.out); have HG7 := Lib.hid (grown_any g5); have HN7 := Lib.hid g6; have hX7 : w7.cell? ⟨X, 0, none⟩ = some (.slice La rl cc) := (World.cell?_of_block (a := ⟨X, 0, none⟩) (HG7.out.block X (World.block_lt_of_cell? w6 _ hX6) (fun e => (HSEP.out X e.symm).1 rfl))).trans hX6; have hXf7 : w7.frozen? ⟨X, 0, none⟩ = false := (World.frozen?_of_block (a := ⟨X, 0, none⟩) (HG7.out.block X (World.block_lt_of_cell? w6 _ hX6) (fun e => (HSEP.out X e.symm).1 rfl))).trans ((World.frozen?_of_block (a := ⟨X, 0, none⟩) (HO6.out.block X (World.block_lt_of_cell? W5 _ hX5) hX0)).trans ((HBZ.out.frozen (p := ⟨X, 0, none⟩) (show X < wr.heap.size by rw [← HRB.out]; exact hXz)).trans HXF.out)); clear g1 g2 g3 g4 g5 g6)))
        go_roundg (gk - 1)
        case measure => have := HG.out; omega
        case rel =>
          have z1 := HON.out.size
          have z2 := HBZ.out.size
          have z3 := HO6.out.size
          have z4 := HG7.out.size
          have hX7' := World.block_lt_of_cell? w7 _ hX7
          have hgo7 : ∀ z, (Value.slice A7 (gn + 0) c7).ownBlock = some z → (Value.slice gA gn gc).ownBlock = some z ∨ w6.heap.size ≤ z := fun z hz => by
            rcases HN7.out with e | ⟨y, e, hy⟩
            · rw [e] at hz; exact .inl (by rw [own_block gA gn gc (gn + 0) c7]; exact hz)
            · rw [e] at hz; simp [Value.ownBlock] at hz; exact .inr (by omega)
          have o8 := Only.setCell w7 X 0 (.slice (La) 0 0)
          have hg7 : w7.heap[g]? = w6.heap[g]? := HG7.out.block g (lt_at HG6.out) (fun e => by have := (HGO.out.lt g e.symm).1; omega)
          have hrvl := fun z hz => (HRR.out.lt z hz).2
          have HR7' : OwnN w7 w.heap.size A7 (gn + 0) c7 (go ++ []) := by
            unfold OwnN nvs
            rw [List.map_append]
            exact HR7.out
          refine ⟨k + 1, (l ++ rs.take cc, go ++ [], rs.drop cc), La, A7, gn + 0, c7, off + cc, by have := HG.out; omega, by go_num, ?_, ?_, rfl, ⟨_, ((o8.block g (by have := lt_at HG6.out; omega) (fun e => hX0 e.symm)).trans hg7).trans HG6.out, HPC.out.1, ?_, ?_⟩, ?_, ?_, ?_, ?_, ?_, ?_, ?_, ?_, ?_, ?_, ?_⟩
          · rw [List.take_add_one, HRK.out, List.foldl_append, ← HST.out]
            simp only [Option.toList_some, List.foldl_cons, List.foldl_nil]
            unfold cutStep
            rw [← HFR.out, ← HUP.out, Nat.sub_self, List.take_zero]
          · simp only [List.length_append, List.length_take]
            rw [Nat.min_eq_left (by rw [← HRS.out]; omega), ← HLL.out]
          · simp only [List.length_append, List.length_take]
            rw [Nat.min_eq_left (by rw [← HRS.out]; omega), ← HLL.out]
            exact HPC.out.2.1
          · simp only [List.length_drop]
            rw [← HRS.out]
            exact HPC.out.2.2 cc hord.1 hord.2
          · simp only [List.length_append, List.length_take]
            have := HM.out
            omega
          · simp only [List.length_drop]
            rw [← HRS.out]
            omega
          · simp only [List.length_drop]
            rw [← HRS.out, ← Nat.sub_sub, ← HCC.out, Nat.sub_self, show rl - cc = 0 from by omega]
            exact World.cell?_setCell_same _ _ _ hX7
          · rw [World.frozen?_setCell]
            exact hXf7
          · simp only [List.length_drop]
            intro h0
            exfalso
            have := HCO.out
            have := HRS.out
            omega
          · exact own_same HR7' (fun z hz => o8.block z (HR7'.lt z hz).2 (fun e => by
              rcases hgo7 z hz with e2 | e2
              · exact (HSEP.out z e2).1 e
              · have : X < W5.heap.size := World.block_lt_of_cell? W5 _ hX5
                omega))
          · refine own_same HRR.out (fun z hz => ?_)
            have hzl := HRR.out.lt z hz
            have k1 := HBZ.out.block z hzl.2
            have k2 := HO6.out.block z (by omega) (by omega)
            have k3 := HG7.out.block z (by omega) (fun e => (HSEP.out z e.symm).2 hz)
            have k4 := o8.block z (by omega) (HRX.out z hz)
            exact k4.trans (k3.trans (k2.trans k1))
          · intro z hz
            rcases hgo7 z hz with e2 | e2
            · exact HSEP.out z e2
            · have : X < W5.heap.size := World.block_lt_of_cell? W5 _ hX5
              exact ⟨by omega, fun e => by have := hrvl z e; omega⟩
          · have o1 : Only (fun k => k = g) w W5 := HON.out.andBelow HBZ.out
            have o2 := o1.trans HO6.out (fun _ _ e => e)
            refine (o2.trans (Only.of_grown HG7.out (S := fun z => some z = (Value.slice gA gn gc).ownBlock) (fun z e => e)) (fun z hz e => ?_)).trans o8 (fun z hz e => ?_)
            · have := (HGO.out.lt z e.symm).1; omega
            · have := HX.out; omega
          · exact HINC.out.sublist (List.drop_sublist _ _)
          · have h1 := HSUM.out
            simp only [List.length_append, List.length_take, List.length_drop, List.length_nil]
            omega
      · by_cases h2c : cc = up
        · subst h2c
          have hX0 : X ≠ g := by have := HX.out; omega
          have hF0 : Rb + 1 ≠ g := by omega
          have hpc := place_cells (fr := fr) HC2.out HC3.out HC4.out HM.out (by have := HOFF.out; omega) (by rw [← HRS.out]; omega)
          rw [← HLL.out, ← HRS.out] at hpc
          have HPC := Lib.hid hpc
          have HPC6 : ∀ w6 : World, w6.heap[g]? = some (.cells (cur.take ll ++ nvs (rs.take fr) ++ cur.drop (ll + fr)).toArray 34 (0, 0)) → Sn w6 (g + 1) (Option.map (fun x => x.add fr) La) (cc - fr) (cc - fr) 1 (nvs ((rs.drop fr).take (cc - fr))) := fun w6 h6 => by
            have hL : Lies w6 g (off + fr) (cc - fr) c ((rs.drop fr).take (cc - fr)) (Option.map (fun x => x.add fr) La) := ⟨⟨_, h6, HPC.out.1, by
              have h7 := HPC.out.2.2 fr (Nat.le_refl _) (by omega)
              have h8 := congrArg (List.take (cc - fr)) h7
              rw [List.take_take, Nat.min_eq_left (by omega)] at h8
              rw [h8]
              unfold nvs
              rw [List.map_take]⟩, ⟨by omega, hc⟩, (fun h0 => by rw [HLA.out (by rw [← HRS.out]; omega)]; simp [Addr.add]), by rw [List.length_take, List.length_drop, ← HRS.out]; omega⟩
            have h9 := hL.sn
            rwa [← Nat.sub_sub, ← HCC.out] at h9
          have HGO5 : OwnN W5 w.heap.size gA gn gc go := own_same HGO.out (fun z hz => HBZ.out.block z (HGO.out.lt z hz).2)
          have HGO56 : ∀ w6 : World, Only (fun k => k = g) W5 w6 → OwnN w6 w.heap.size gA gn gc go := fun w6 h6 => own_same HGO5 (fun z hz => h6.block z (HGO5.lt z hz).2 (fun e => by have := (HGO5.lt z hz).1; omega))
          have hgn : gn ≤ 1000 := by
            have h1 := HGO.out.len
            have h2 := HSUM.out
            omega
          have HH := Lib.hid HPC6
          clear hpc
          go_wp2_with (first
            | (at_builtin; refine wpList_append_place _ rfl (.tmp 35) (.tmp 38) 37 37 rfl 34 i0 Try.underlying37 hi0 hz1 g ll c rfl cur HG5.out HC2.out _ fr (nvs (rs.take fr)) rfl (HS1.out.src Try.underlying37 (nvs_one _)) hlfr ?_; intro w6 hg6 ho6; have HG6 := Lib.hid hg6; have HO6 := Lib.hid ho6; have hX6 : w6.cell? ⟨X, 0, none⟩ = some (.slice La rl cc) := (World.cell?_of_block (a := ⟨X, 0, none⟩) (ho6.block X (World.block_lt_of_cell? W5 _ hX5) hX0)).trans hX5; have hF6 : w6.cell? ⟨Rb + 1, 0, none⟩ = some (.int .i64 (fr : Int)) := (World.cell?_of_block (a := ⟨Rb + 1, 0, none⟩) (ho6.block (Rb + 1) (World.block_lt_of_cell? W5 _ hF5) hF0)).trans hF5; clear hg6 ho6; have HSN44 := Lib.hid (HPC6 w6 HG6.out); have HGO6 := Lib.hid (HGO56 w6 HO6.out))
            | (at_builtin; go_loud (refine wpList_append_dstN _ rfl (.tmp 40) (.tmp 44) 37 37 rfl w.heap.size 34 i0 _ 1 8 Try.underlying37 hi0 hz0 hz1 hz2 rfl gA gn gc (nvs go) rfl (.inr HGO6.out) _ (cc - fr) (nvs ((rs.drop fr).take (cc - fr))) rfl (HSN44.out.src Try.underlying37 (nvs_one _)) (by omega) (by omega) (by have h1 := HO6.out.size; have h2 := HBZ.out.size; have h3 := HON.out.size; omega) ?_; intro A7 c7 w7 g1 g2 g3 g4 g5 g6; have HR7 := Lib.hid (g3 HGO6.out); have HG7 := Lib.hid (grown_any g5); have HN7 := Lib.hid g6; have hX7 : w7.cell? ⟨X, 0, none⟩ = some (.slice La rl cc) := (World.cell?_of_block (a := ⟨X, 0, none⟩) (HG7.out.block X (World.block_lt_of_cell? w6 _ hX6) (fun e => (HSEP.out X e.symm).1 rfl))).trans hX6; have hXf7 : w7.frozen? ⟨X, 0, none⟩ = false := (World.frozen?_of_block (a := ⟨X, 0, none⟩) (HG7.out.block X (World.block_lt_of_cell? w6 _ hX6) (fun e => (HSEP.out X e.symm).1 rfl))).trans ((World.frozen?_of_block (a := ⟨X, 0, none⟩) (HO6.out.block X (World.block_lt_of_cell? W5 _ hX5) hX0)).trans ((HBZ.out.frozen (p := ⟨X, 0, none⟩) (show X < wr.heap.size by rw [← HRB.out]; exact hXz)).trans HXF.out)); clear g1 g2 g3 g4 g5 g6)))
          go_roundg (gk - 1)
          case measure => have := HG.out; omega
          case rel =>
            have z1 := HON.out.size
            have z2 := HBZ.out.size
            have z3 := HO6.out.size
            have z4 := HG7.out.size
            have hX7' := World.block_lt_of_cell? w7 _ hX7
            have hgo7 : ∀ z, (Value.slice A7 (gn + (cc - fr)) c7).ownBlock = some z → (Value.slice gA gn gc).ownBlock = some z ∨ w6.heap.size ≤ z := fun z hz => by
              rcases HN7.out with e | ⟨y, e, hy⟩
              · rw [e] at hz; exact .inl (by rw [own_block gA gn gc (gn + (cc - fr)) c7]; exact hz)
              · rw [e] at hz; simp [Value.ownBlock] at hz; exact .inr (by omega)
            have o8 := Only.setCell w7 X 0 (.slice (La) 0 0)
            have hg7 : w7.heap[g]? = w6.heap[g]? := HG7.out.block g (lt_at HG6.out) (fun e => by have := (HGO.out.lt g e.symm).1; omega)
            have hrvl := fun z hz => (HRR.out.lt z hz).2
            have HR7' : OwnN w7 w.heap.size A7 (gn + (cc - fr)) c7 (go ++ (rs.drop fr).take (cc - fr)) := by
              unfold OwnN nvs
              rw [List.map_append]
              exact HR7.out
            refine ⟨k + 1, (l ++ rs.take fr, go ++ (rs.drop fr).take (cc - fr), rs.drop cc), La, A7, gn + (cc - fr), c7, off + cc, by have := HG.out; omega, by go_num, ?_, ?_, rfl, ⟨_, ((o8.block g (by have := lt_at HG6.out; omega) (fun e => hX0 e.symm)).trans hg7).trans HG6.out, HPC.out.1, ?_, ?_⟩, ?_, ?_, ?_, ?_, ?_, ?_, ?_, ?_, ?_, ?_, ?_⟩
            · rw [List.take_add_one, HRK.out, List.foldl_append, ← HST.out]
              simp only [Option.toList_some, List.foldl_cons, List.foldl_nil]
              unfold cutStep
              rw [← HFR.out, ← HUP.out]
            · simp only [List.length_append, List.length_take]
              rw [Nat.min_eq_left (by rw [← HRS.out]; omega), ← HLL.out]
            · simp only [List.length_append, List.length_take]
              rw [Nat.min_eq_left (by rw [← HRS.out]; omega), ← HLL.out]
              exact HPC.out.2.1
            · simp only [List.length_drop]
              rw [← HRS.out]
              exact HPC.out.2.2 cc hord.1 hord.2
            · simp only [List.length_append, List.length_take]
              have := HM.out
              omega
            · simp only [List.length_drop]
              rw [← HRS.out]
              omega
            · simp only [List.length_drop]
              rw [← HRS.out, ← Nat.sub_sub, ← HCC.out, Nat.sub_self, show rl - cc = 0 from by omega]
              exact World.cell?_setCell_same _ _ _ hX7
            · rw [World.frozen?_setCell]
              exact hXf7
            · simp only [List.length_drop]
              intro h0
              exfalso
              have := HCO.out
              have := HRS.out
              omega
            · exact own_same HR7' (fun z hz => o8.block z (HR7'.lt z hz).2 (fun e => by
                rcases hgo7 z hz with e2 | e2
                · exact (HSEP.out z e2).1 e
                · have : X < W5.heap.size := World.block_lt_of_cell? W5 _ hX5
                  omega))
            · refine own_same HRR.out (fun z hz => ?_)
              have hzl := HRR.out.lt z hz
              have k1 := HBZ.out.block z hzl.2
              have k2 := HO6.out.block z (by omega) (by omega)
              have k3 := HG7.out.block z (by omega) (fun e => (HSEP.out z e.symm).2 hz)
              have k4 := o8.block z (by omega) (HRX.out z hz)
              exact k4.trans (k3.trans (k2.trans k1))
            · intro z hz
              rcases hgo7 z hz with e2 | e2
              · exact HSEP.out z e2
              · have : X < W5.heap.size := World.block_lt_of_cell? W5 _ hX5
                exact ⟨by omega, fun e => by have := hrvl z e; omega⟩
            · have o1 : Only (fun k => k = g) w W5 := HON.out.andBelow HBZ.out
              have o2 := o1.trans HO6.out (fun _ _ e => e)
              refine (o2.trans (Only.of_grown HG7.out (S := fun z => some z = (Value.slice gA gn gc).ownBlock) (fun z e => e)) (fun z hz e => ?_)).trans o8 (fun z hz e => ?_)
              · have := (HGO.out.lt z e.symm).1; omega
              · have := HX.out; omega
            · exact HINC.out.sublist (List.drop_sublist _ _)
            · have h1 := HSUM.out
              simp only [List.length_append, List.length_take, List.length_drop]
              omega
        · have hX0 : X ≠ g := by have := HX.out; omega
          have hF0 : Rb + 1 ≠ g := by omega
          have hpc := place_cells (fr := fr) HC2.out HC3.out HC4.out HM.out (by have := HOFF.out; omega) (by rw [← HRS.out]; omega)
          rw [← HLL.out, ← HRS.out] at hpc
          have HPC := Lib.hid hpc
          have HPC6 : ∀ w6 : World, w6.heap[g]? = some (.cells (cur.take ll ++ nvs (rs.take fr) ++ cur.drop (ll + fr)).toArray 34 (0, 0)) → Sn w6 (g + 1) (Option.map (fun x => x.add fr) La) (up - fr) (cc - fr) 1 (nvs ((rs.drop fr).take (up - fr))) := fun w6 h6 => by
            have hL : Lies w6 g (off + fr) (up - fr) c ((rs.drop fr).take (up - fr)) (Option.map (fun x => x.add fr) La) := ⟨⟨_, h6, HPC.out.1, by
              have h7 := HPC.out.2.2 fr (Nat.le_refl _) (by omega)
              have h8 := congrArg (List.take (up - fr)) h7
              rw [List.take_take, Nat.min_eq_left (by omega)] at h8
              rw [h8]
              unfold nvs
              rw [List.map_take]⟩, ⟨by omega, hc⟩, (fun h0 => by rw [HLA.out (by rw [← HRS.out]; omega)]; simp [Addr.add]), by rw [List.length_take, List.length_drop, ← HRS.out]; omega⟩
            have h9 := hL.sn
            rwa [← Nat.sub_sub, ← HCC.out] at h9
          have HGO5 : OwnN W5 w.heap.size gA gn gc go := own_same HGO.out (fun z hz => HBZ.out.block z (HGO.out.lt z hz).2)
          have HGO56 : ∀ w6 : World, Only (fun k => k = g) W5 w6 → OwnN w6 w.heap.size gA gn gc go := fun w6 h6 => own_same HGO5 (fun z hz => h6.block z (HGO5.lt z hz).2 (fun e => by have := (HGO5.lt z hz).1; omega))
          have hgn : gn ≤ 1000 := by
            have h1 := HGO.out.len
            have h2 := HSUM.out
            omega
          have HH := Lib.hid HPC6
          clear hpc
          go_wp2_with (first
            | (at_builtin; refine wpList_append_place _ rfl (.tmp 35) (.tmp 38) 37 37 rfl 34 i0 Try.underlying37 hi0 hz1 g ll c rfl cur HG5.out HC2.out _ fr (nvs (rs.take fr)) rfl (HS1.out.src Try.underlying37 (nvs_one _)) hlfr ?_; intro w6 hg6 ho6; have HG6 := Lib.hid hg6; have HO6 := Lib.hid ho6; have hX6 : w6.cell? ⟨X, 0, none⟩ = some (.slice La rl cc) := (World.cell?_of_block (a := ⟨X, 0, none⟩) (ho6.block X (World.block_lt_of_cell? W5 _ hX5) hX0)).trans hX5; have hF6 : w6.cell? ⟨Rb + 1, 0, none⟩ = some (.int .i64 (fr : Int)) := (World.cell?_of_block (a := ⟨Rb + 1, 0, none⟩) (ho6.block (Rb + 1) (World.block_lt_of_cell? W5 _ hF5) hF0)).trans hF5; clear hg6 ho6; have HSN44 := Lib.hid (HPC6 w6 HG6.out); have HGO6 := Lib.hid (HGO56 w6 HO6.out))
            | (at_builtin; go_loud (refine wpList_append_dstN _ rfl (.tmp 40) (.tmp 44) 37 37 rfl w.heap.size 34 i0 _ 1 8 Try.underlying37 hi0 hz0 hz1 hz2 rfl gA gn gc (nvs go) rfl (.inr HGO6.out) _ (up - fr) (nvs ((rs.drop fr).take (up - fr))) rfl (HSN44.out.src Try.underlying37 (nvs_one _)) (by omega) (by omega) (by have h1 := HO6.out.size; have h2 := HBZ.out.size; have h3 := HON.out.size; omega) ?_; intro A7 c7 w7 g1 g2 g3 g4 g5 g6; have HR7 := Lib.hid (g3 HGO6.out); have HG7 := Lib.hid (grown_any g5); have HN7 := Lib.hid g6; have hX7 : w7.cell? ⟨X, 0, none⟩ = some (.slice La rl cc) := (World.cell?_of_block (a := ⟨X, 0, none⟩) (HG7.out.block X (World.block_lt_of_cell? w6 _ hX6) (fun e => (HSEP.out X e.symm).1 rfl))).trans hX6; have hXf7 : w7.frozen? ⟨X, 0, none⟩ = false := (World.frozen?_of_block (a := ⟨X, 0, none⟩) (HG7.out.block X (World.block_lt_of_cell? w6 _ hX6) (fun e => (HSEP.out X e.symm).1 rfl))).trans ((World.frozen?_of_block (a := ⟨X, 0, none⟩) (HO6.out.block X (World.block_lt_of_cell? W5 _ hX5) hX0)).trans ((HBZ.out.frozen (p := ⟨X, 0, none⟩) (show X < wr.heap.size by rw [← HRB.out]; exact hXz)).trans HXF.out)); clear g1 g2 g3 g4 g5 g6)))
          go_roundg (gk - 1)
          case measure => have := HG.out; omega
          case rel =>
            have z1 := HON.out.size
            have z2 := HBZ.out.size
            have z3 := HO6.out.size
            have z4 := HG7.out.size
            have hX7' := World.block_lt_of_cell? w7 _ hX7
            have hgo7 : ∀ z, (Value.slice A7 (gn + (up - fr)) c7).ownBlock = some z → (Value.slice gA gn gc).ownBlock = some z ∨ w6.heap.size ≤ z := fun z hz => by
              rcases HN7.out with e | ⟨y, e, hy⟩
              · rw [e] at hz; exact .inl (by rw [own_block gA gn gc (gn + (up - fr)) c7]; exact hz)
              · rw [e] at hz; simp [Value.ownBlock] at hz; exact .inr (by omega)
            have o8 := Only.setCell w7 X 0 (.slice (Option.map (fun x => x.add up) La) (rl - up) (cc - up))
            have hg7 : w7.heap[g]? = w6.heap[g]? := HG7.out.block g (lt_at HG6.out) (fun e => by have := (HGO.out.lt g e.symm).1; omega)
            have hrvl := fun z hz => (HRR.out.lt z hz).2
            have HR7' : OwnN w7 w.heap.size A7 (gn + (up - fr)) c7 (go ++ (rs.drop fr).take (up - fr)) := by
              unfold OwnN nvs
              rw [List.map_append]
              exact HR7.out
            refine ⟨k + 1, (l ++ rs.take fr, go ++ (rs.drop fr).take (up - fr), rs.drop up), Option.map (fun x => x.add up) La, A7, gn + (up - fr), c7, off + up, by have := HG.out; omega, by go_num, ?_, ?_, rfl, ⟨_, ((o8.block g (by have := lt_at HG6.out; omega) (fun e => hX0 e.symm)).trans hg7).trans HG6.out, HPC.out.1, ?_, ?_⟩, ?_, ?_, ?_, ?_, ?_, ?_, ?_, ?_, ?_, ?_, ?_⟩
            · rw [List.take_add_one, HRK.out, List.foldl_append, ← HST.out]
              simp only [Option.toList_some, List.foldl_cons, List.foldl_nil]
              unfold cutStep
              rw [← HFR.out, ← HUP.out]
            · simp only [List.length_append, List.length_take]
              rw [Nat.min_eq_left (by rw [← HRS.out]; omega), ← HLL.out]
            · simp only [List.length_append, List.length_take]
              rw [Nat.min_eq_left (by rw [← HRS.out]; omega), ← HLL.out]
              exact HPC.out.2.1
            · simp only [List.length_drop]
              rw [← HRS.out]
              exact HPC.out.2.2 up hord.1 hord.2
            · simp only [List.length_append, List.length_take]
              have := HM.out
              omega
            · simp only [List.length_drop]
              rw [← HRS.out]
              omega
            · simp only [List.length_drop]
              rw [← HRS.out, ← Nat.sub_sub, ← HCC.out]
              exact World.cell?_setCell_same _ _ _ hX7
            · rw [World.frozen?_setCell]
              exact hXf7
            · simp only [List.length_drop]
              intro h0
              rw [HLA.out (by omega)]
              simp [Addr.add]
            · exact own_same HR7' (fun z hz => o8.block z (HR7'.lt z hz).2 (fun e => by
                rcases hgo7 z hz with e2 | e2
                · exact (HSEP.out z e2).1 e
                · have : X < W5.heap.size := World.block_lt_of_cell? W5 _ hX5
                  omega))
            · refine own_same HRR.out (fun z hz => ?_)
              have hzl := HRR.out.lt z hz
              have k1 := HBZ.out.block z hzl.2
              have k2 := HO6.out.block z (by omega) (by omega)
              have k3 := HG7.out.block z (by omega) (fun e => (HSEP.out z e.symm).2 hz)
              have k4 := o8.block z (by omega) (HRX.out z hz)
              exact k4.trans (k3.trans (k2.trans k1))
            · intro z hz
              rcases hgo7 z hz with e2 | e2
              · exact HSEP.out z e2
              · have : X < W5.heap.size := World.block_lt_of_cell? W5 _ hX5
                exact ⟨by omega, fun e => by have := hrvl z e; omega⟩
            · have o1 : Only (fun k => k = g) w W5 := HON.out.andBelow HBZ.out
              have o2 := o1.trans HO6.out (fun _ _ e => e)
              refine (o2.trans (Only.of_grown HG7.out (S := fun z => some z = (Value.slice gA gn gc).ownBlock) (fun z e => e)) (fun z hz e => ?_)).trans o8 (fun z hz e => ?_)
              · have := (HGO.out.lt z e.symm).1; omega
              · have := HX.out; omega
            · exact HINC.out.sublist (List.drop_sublist _ _)
            · have h1 := HSUM.out
              simp only [List.length_append, List.length_take, List.length_drop]
              omega
    · have hkI : ¬ (k : Int) < (nq : Int) := by omega
      have HE : Hid (R.take k = R) := List.take_of_length_le (by have := HRL.out; have := HG.out; omega)
      obtain ⟨rl, HRS⟩ : ∃ z, Hid (z = rs.length) := ⟨_, rfl⟩
      obtain ⟨ll, HLL⟩ : ∃ z, Hid (z = l.length) := ⟨_, rfl⟩
      rw [← HRS.out] at hX HSN
      have hroom : ll + rl ≤ c := by have := HM.out; have := HOFF.out; have := HRS.out; have := HLL.out; omega
      rw [← HLL.out]
      go_wp2_with (at_builtin; refine wpList_append_place _ rfl (.tmp 50) (.tmp 51) 37 37 rfl 34 i0 Try.underlying37 hi0 hz1 g ll c rfl cur HC1.out HC2.out _ rl (nvs rs) rfl (HSN.out.src Try.underlying37 (nvs_one _)) hroom ?_; intro w6 hg6 ho6; have HG6 := Lib.hid hg6; have HO6 := Lib.hid ho6; clear hg6 ho6)
      go_ret2
      have hs := HST.out
      rw [HE.out] at hs
      unfold BCut
      rw [← hs]
      have hpc := place_cells (fr := rs.length) HC2.out HC3.out HC4.out HM.out (by have := HOFF.out; omega) (Nat.le_refl _)
      rw [List.take_length, ← HLL.out, ← HRS.out] at hpc
      refine ⟨gA, gn, gc, ?_, own_same HGO.out (fun z hz => HO6.out.block z (HGO.out.lt z hz).2 (fun e => by have := (HGO.out.lt z hz).1; omega)), ⟨_, HG6.out, hpc.1, ?_⟩, HON.out.trans HO6.out (fun _ _ e => e)⟩
      · simp only [List.length_append]
        rw [← HLL.out, ← HRS.out]
        rfl
      · simp only [List.length_append]
        rw [← HLL.out, ← HRS.out]
        exact hpc.2.1
end Go.Proofs.Ytbnhemmklbbnmaa

/-! ## BoardDue -/
namespace Go.Proofs.Ytbnhemmklbbnmaa
open Go.RowKit Go.Sort Go.Maps

structure Rw where
  A : Option Addr
  n : Nat
  c : Nat
  l : List Nat
def Rw.v (r : Rw) : Value := .slice r.A r.n r.c
def triesOf (q : Nat) (G : List Gp) : Nat := ((G.find? (fun g => g.num == q)).map (·.tries)).getD 0
def memOf (q : Nat) (G : List Gp) : List Nat := ((G.find? (fun g => g.num == q)).map (·.mem)).getD []
/-- One group's turn: its next time, its next try. -/
def dueStep (f m : Nat) (now : Int) (s : List Gp × List En) (q : Nat) : List Gp × List En := (bump q s.1, setE q (now + (wt f m (triesOf q s.1) : Nat)) s.2)
theorem find_num {G : List Gp} {g : Gp} (h : (G.map (·.num)).Nodup) (hg : g ∈ G) : G.find? (fun x => x.num == g.num) = some g := by
  induction G with
  | nil => cases hg
  | cons z G ih =>
    rw [List.map_cons, List.nodup_cons] at h
    rcases List.mem_cons.1 hg with rfl | hg'
    · rw [List.find?_cons_of_pos (by simp)]
    · rw [List.find?_cons_of_neg]
      · exact ih h.2 hg'
      · simp
        exact fun e => h.1 (List.mem_map.2 ⟨g, hg', e.symm⟩)
/-- Rows that are handed back, and the row of the due groups' numbers: nobody writes to them. -/
structure PR (w : World) (B : Nat) (Sa : Nat → Prop) (iv : Value) (ni : Nat) (is : List Nat) (D : Option Addr) (dn dc : Nat) (rows : List Rw) : Prop where
  idr : w.ownsRow B 34 1 iv ni (unvs is)
  dr : w.ownsRow B 37 1 (.slice D dn dc) dn (rows.map Rw.v)
  rr : ∀ r ∈ rows, OwnN w B r.A r.n r.c r.l
  na : ∀ b, iv.ownBlock = some b → ¬ Sa b
  nb : ∀ b, (Value.slice D dn dc).ownBlock = some b → ¬ Sa b
  nc : ∀ r ∈ rows, ∀ b, r.v.ownBlock = some b → ¬ Sa b
  di : ∀ b, (Value.slice D dn dc).ownBlock = some b → iv.ownBlock ≠ some b
  dr' : ∀ b, (Value.slice D dn dc).ownBlock = some b → ∀ r ∈ rows, r.v.ownBlock ≠ some b
section
variable {w w' : World} {B : Nat} {Sa Sa' Q : Nat → Prop} {iv : Value} {ni : Nat} {is : List Nat} {D : Option Addr} {dn dc : Nat} {rows : List Rw}
theorem PR.only (h : PR w B Sa iv ni is D dn dc rows) (ho : Only Q w w') (hq : ∀ k, k < w.heap.size → Q k → B ≤ k → Sa k) (hs : ∀ k, Sa' k → Sa k ∨ w.heap.size ≤ k) : PR w' B Sa' iv ni is D dn dc rows := by
  have k1 : ∀ b, iv.ownBlock = some b → w'.heap[b]? = w.heap[b]? := fun b hb => by
    have hl := h.idr.lt b hb
    exact ho.block b hl.2 (fun e => h.na b hb (hq b hl.2 e hl.1))
  have k2 : ∀ b, (Value.slice D dn dc).ownBlock = some b → w'.heap[b]? = w.heap[b]? := fun b hb => by
    have hl := h.dr.lt b hb
    exact ho.block b hl.2 (fun e => h.nb b hb (hq b hl.2 e hl.1))
  have k3 : ∀ r ∈ rows, ∀ b, r.v.ownBlock = some b → w'.heap[b]? = w.heap[b]? := fun r hr b hb => by
    have hl := (h.rr r hr).lt b hb
    exact ho.block b hl.2 (fun e => h.nc r hr b hb (hq b hl.2 e hl.1))
  refine ⟨own_same h.idr k1, own_same h.dr k2, fun r hr => own_same (h.rr r hr) (k3 r hr), fun b hb e => ?_, fun b hb e => ?_, fun r hr b hb e => ?_, h.di, h.dr'⟩
  · rcases hs b e with e | e
    · exact h.na b hb e
    · have := (h.idr.lt b hb).2; omega
  · rcases hs b e with e | e
    · exact h.nb b hb e
    · have := (h.dr.lt b hb).2; omega
  · rcases hs b e with e | e
    · exact h.nc r hr b hb e
    · have := ((h.rr r hr).lt b hb).2; omega
theorem PR.below (h : PR w B Sa iv ni is D dn dc rows) (hb : RowKit.Below w.heap.size w w') : PR w' B Sa iv ni is D dn dc rows := h.only (Only.of_below (S := fun _ => False) hb) (fun _ _ k => k.elim) (fun _ k => .inl k)
/-- One more row, made behind w. -/
theorem PR.push (h : PR w B Sa iv ni is D dn dc rows) (hsz : ∀ k, Sa k → k < w.heap.size) {w1 w2 : World} (hb1 : RowKit.Below w.heap.size w w1) {r : Rw} (hr : OwnN w1 w.heap.size r.A r.n r.c r.l) (hB : B ≤ w.heap.size) {D' : Option Addr} {dc' : Nat}
    (hd : w2.ownsRow B 37 1 (.slice D' (dn + 1) dc') (dn + 1) (rows.map Rw.v ++ [r.v])) (hg : w1.grownBy w2 (Value.slice D dn dc).ownBlock) (hn : D' = D ∨ ∃ b, D' = some ⟨b, 0, none⟩ ∧ w1.heap.size ≤ b) :
    PR w2 B Sa iv ni is D' (dn + 1) dc' (rows ++ [r]) := by
  have h1 := h.below hb1
  have hz := hb1.size
  have hnew : ∀ b, (Value.slice D' (dn + 1) dc').ownBlock = some b → (Value.slice D dn dc).ownBlock = some b ∨ w1.heap.size ≤ b := fun b hb => by
    rcases hn with rfl | ⟨x, rfl, hx⟩
    · exact .inl (by rw [own_block _ dn dc (dn + 1) dc']; exact hb)
    · exact .inr (by simp [Value.ownBlock] at hb; omega)
  have hrb : ∀ b, r.v.ownBlock = some b → w.heap.size ≤ b ∧ b < w1.heap.size := fun b hb => hr.lt b hb
  have hdb : ∀ b, (Value.slice D dn dc).ownBlock = some b → b < w.heap.size := fun b hb => (h.dr.lt b hb).2
  have kp : ∀ b, b < w1.heap.size → (Value.slice D dn dc).ownBlock ≠ some b → w2.heap[b]? = w1.heap[b]? := fun b hb hne => hg.block b hb (fun e => hne e.symm)
  refine ⟨own_same h1.idr (fun b hb => kp b (h1.idr.lt b hb).2 (fun e => h1.di b e hb)), by rw [List.map_append]; exact hd, fun x hx => ?_, h.na, fun b hb e => ?_, fun x hx b hb e => ?_, fun b hb e => ?_, fun b hb x hx e => ?_⟩
  · rcases List.mem_append.1 hx with hx | hx
    · exact own_same (h1.rr x hx) (fun b hb => kp b ((h1.rr x hx).lt b hb).2 (fun e => h1.dr' b e x hx hb))
    · rw [List.mem_singleton] at hx
      subst hx
      have h2 : OwnN w2 w.heap.size x.A x.n x.c x.l := own_same hr (fun b hb => kp b (hrb b hb).2 (fun e => by have := hdb b e; have := (hrb b hb).1; omega))
      exact World.ownsRow.mono h2 hB
  · rcases hnew b hb with e2 | e2
    · exact h.nb b e2 e
    · have := hsz b e; omega
  · rcases List.mem_append.1 hx with hx | hx
    · exact h.nc x hx b hb e
    · rw [List.mem_singleton] at hx
      subst hx
      have := hsz b e; have := (hrb b hb).1; omega
  · rcases hnew b hb with e2 | e2
    · exact h.di b e2 e
    · have := (h1.idr.lt b e).2; omega
  · rcases List.mem_append.1 hx with hx | hx
    · rcases hnew b hb with e2 | e2
      · exact h.dr' b e2 x hx e
      · have := ((h1.rr x hx).lt b e).2; omega
    · rw [List.mem_singleton] at hx
      subst hx
      rcases hnew b hb with e2 | e2
      · have := hdb b e2; have := (hrb b e).1; omega
      · have := (hrb b e).2; omega
theorem PR.start (hi : w.ownsRow B 34 1 iv ni (unvs is)) (hs : ∀ k, Sa k → k < B) : PR w B Sa iv ni is none 0 0 [] :=
  ⟨hi, World.ownsRow_nil _ _ _ _, (fun r hr => by cases hr), (fun b hb e => by have := (hi.lt b hb).1; have := hs b e; omega), (fun b hb => by simp [Value.ownBlock] at hb), (fun r hr => by cases hr), (fun b hb => by simp [Value.ownBlock] at hb), (fun b hb => by simp [Value.ownBlock] at hb)⟩
end
theorem nums_info : (Try.prog.info? 37).map (fun i => (i.zero, i.size, i.bytes)) = some (some (.slice none 0 0), 1, 24) := by kernel_rfl
theorem rwv_one (rows : List Rw) : ∀ u ∈ rows.map Rw.v, u.oneCell' = true := by
  intro u hu
  obtain ⟨r, _, rfl⟩ := List.mem_map.1 hu
  rfl
theorem dueStep_bump (f m : Nat) (now : Int) : ∀ (qs : List Nat) (s : List Gp × List En), ((qs.foldl (dueStep f m now) s).1.map (·.num)) = s.1.map (·.num) ∧ ∀ x ∈ (qs.foldl (dueStep f m now) s).1, ∃ y ∈ s.1, x.num = y.num ∧ x.gb = y.gb ∧ x.mb = y.mb ∧ x.mem = y.mem ∧ x.tries ≤ y.tries + qs.length
  | [], s => ⟨rfl, fun x hx => ⟨x, hx, rfl, rfl, rfl, rfl, Nat.le_refl _⟩⟩
  | q :: qs, s => by
    have h := dueStep_bump f m now qs (dueStep f m now s q)
    rw [List.foldl_cons]
    refine ⟨h.1.trans (bump_num q s.1), fun x hx => ?_⟩
    obtain ⟨y, hy, h1, h2, h3, h4, h5⟩ := h.2 x hx
    obtain ⟨z, hz, rfl⟩ := List.mem_map.1 hy
    refine ⟨z, hz, ?_⟩
    rw [List.length_cons]
    by_cases e : z.num = q
    · rw [if_pos e] at h1 h2 h3 h4 h5
      exact ⟨h1, h2, h3, h4, by simp only at h5; omega⟩
    · rw [if_neg e] at h1 h2 h3 h4 h5
      exact ⟨h1, h2, h3, h4, by omega⟩
theorem dueStep_len (f m : Nat) (now : Int) : ∀ (qs : List Nat) (s : List Gp × List En), (qs.foldl (dueStep f m now) s).2.length ≤ s.2.length + qs.length
  | [], s => Nat.le_refl _
  | q :: qs, s => by
    have h := dueStep_len f m now qs (dueStep f m now s q)
    have h2 : (setE q (now + (wt f m (triesOf q s.1) : Nat)) s.2).length ≤ s.2.length + 1 := by
      unfold setE
      rw [(ins_perm _ _).length_eq]
      have := List.length_filter_le (fun e : En => decide (e.1 ≠ q)) s.2
      simp only [List.length_cons]
      unfold without
      omega
    rw [List.foldl_cons, List.length_cons]
    unfold dueStep at h ⊢
    simp only at h
    omega
section
variable {w w' : World} {base bd f m last gm hm : Nat} {A : Option Addr} {n c : Nat} {Sa Q : Nat → Prop} {a : Nat} {G : List Gp} {gN hN : Nat} {gF hF : Nat → Option Value} {E : List En} {fl : List Nat} {g : Gp}
def DueRelB (w : World) (base bd f m last gm hm : Nat) (A : Option Addr) (n c : Nat) (Sa : Nat → Prop) (a : Nat) (G : List Gp) (gN hN : Nat) (gF hF : Nat → Option Value) (E : List En) (fl : List Nat) (now : Int) (iv : Value) (ni : Nat) (is : List Nat) (gk : Nat) (vd vi : Value) (wr : World) : Prop :=
  ∃ (k : Nat) (D : Option Addr) (dn dc : Nat) (Sa' : Nat → Prop) (rows : List Rw), gk + k = ni ∧ vd = .slice D dn dc ∧ vi = .int .i64 (k : Int) ∧ BP wr base bd f m last gm hm A n c Sa' a ((is.take k).foldl (dueStep f m now) (G, restE now E)).1 gN hN gF hF ((is.take k).foldl (dueStep f m now) (G, restE now E)).2 fl ∧
    PR wr w.heap.size Sa' iv ni is D dn dc rows ∧ rows.map (·.l) = (is.take k).map (fun q => sortN (memOf q G)) ∧ Only (fun k => Sa k ∨ ∃ x ∈ G, k = x.gb) w wr ∧ ∀ k, Sa' k → Sa k ∨ w.heap.size ≤ k
def BDue (w : World) (base bd f m last gm hm : Nat) (A : Option Addr) (n c : Nat) (Sa : Nat → Prop) (a : Nat) (G : List Gp) (gN hN : Nat) (gF hF : Nat → Option Value) (E : List En) (fl : List Nat) (now : Int) (is : List Nat) (e : Ending) (w' : World) : Prop :=
  ∃ (D : Option Addr) (dn dc : Nat) (Sa' : Nat → Prop) (rows : List Rw), e = .returned (.slice D dn dc) ∧ BP w' base bd f m last gm hm A n c Sa' a (is.foldl (dueStep f m now) (G, restE now E)).1 gN hN gF hF (is.foldl (dueStep f m now) (G, restE now E)).2 fl ∧
    w'.ownsRow w.heap.size 37 1 (.slice D dn dc) dn (rows.map Rw.v) ∧ (∀ r ∈ rows, OwnN w' w.heap.size r.A r.n r.c r.l) ∧ rows.map (·.l) = is.map (fun q => sortN (memOf q G)) ∧ Only (fun k => Sa k ∨ ∃ x ∈ G, k = x.gb) w w' ∧ (∀ k, Sa' k → Sa k ∨ w.heap.size ≤ k)
set_option maxRecDepth 100000 in
set_option maxHeartbeats 4000000 in
theorem bdue_any (h : BP w base bd f m last gm hm A n c Sa a G gN hN gF hF E fl) (hord : Ord E) (hE : E.length ≤ 40000) (hnum : (G.map (·.num)).Nodup) (hids : ∀ q ∈ ids E, q ∈ G.map (·.num)) (hgF : ∀ x ∈ G, gF x.num = some (gv x)) (hq64 : ∀ x ∈ G, x.num < 18446744073709551616) (hmem : ∀ x ∈ G, x.mem.length < 50) (hnd : ∀ x ∈ G, x.mem.Nodup)
    (hp : Pr f m) (htr : ∀ x ∈ G, x.tries < 4611686018427387904) (now : Int) (hnow : -4611686018427387904 ≤ now ∧ now ≤ 4611686018427387904) :
    Calls Try.prog 18 #[.pointer (some ⟨bd, 0, none⟩), .int .i64 now] w (BDue w base bd f m last gm hm A n c Sa a G gN hN gF hF E fl now (ids (dueE now E))) := by
  obtain ⟨i0, hi0, hz0, hz1, hz2⟩ := info_parts nums_info
  have H := Lib.hid h
  have HAD := Lib.hid (adue_any w Sa base a now E h.al hord (by omega))
  have c6 := h.c6
  obtain ⟨is, HIS⟩ : ∃ x, Hid (x = ids (dueE now E)) := ⟨_, rfl⟩
  rw [← HIS.out]
  clear h
  go_enter Try.func18, Try.ntmps18
  go_wp2_with fail
  refine HAD.out.mono ?_
  rintro e w1 ⟨Ai, ni, ci, rfl, hidr, hal1, ho1⟩
  rw [← HIS.out] at hidr
  have HLT := Lib.hid H.out.ft_lt
  have HBP1 := Lib.hid (H.out.alarm hal1 ho1 (fun k e => .inl e))
  have HPR1 := Lib.hid (PR.start hidr (fun k hk => HLT.out k (.inr (.inr hk))))
  have HO1 := Lib.hid ho1
  have hni : ni = is.length := by have := hidr.1; rw [unvs_len] at this; omega
  have HNI := Lib.hid hni
  have hnb : ni ≤ 40000 := by
    have h1 : (ids (dueE now E)).length ≤ E.length := by
      unfold ids dueE
      rw [List.length_map]
      exact (List.takeWhile_sublist _).length_le
    rw [← HIS.out] at h1
    omega
  clear hidr hal1 ho1 hni c6 HAD
  go_wp2_with fail
  go_loopg [5, 18] ni (fun gk vd vi wr => DueRelB w base bd f m last gm hm A n c Sa a G gN hN gF hF E fl now (.slice Ai ni ci) ni is gk vd vi wr)
  case atStart =>
    exact ⟨0, none, 0, 0, Sa, [], by omega, rfl, rfl, HBP1.out, HPR1.out, rfl, HO1.out.mono (fun k _ e => .inl e), fun k e => .inl e⟩
  case round =>
    obtain ⟨k, D, dn, dc, Sa', rows, hg, rfl, rfl, hbp, hpr, hrw, hon, hsa⟩ := hrel
    have HG := Lib.hid hg
    have HBP := Lib.hid hbp
    have HPR := Lib.hid hpr
    have HRW := Lib.hid hrw
    have HON := Lib.hid hon
    have HSA := Lib.hid hsa
    clear hg hbp hpr hrw hon hsa
    by_cases hk : k < ni
    · have hkI : (k : Int) < (ni : Int) := by omega
      have hk0 : (0 : Int) ≤ (k : Int) := by omega
      obtain ⟨q, hq⟩ : ∃ q, is[k]? = some q := ⟨_, List.getElem?_eq_getElem (by have := HNI.out; omega)⟩
      obtain ⟨b, o, he, hgB, hcell⟩ := (Sn.of_own HPR.out.idr).cell (by omega)
      have hc : wr.cell? ⟨b, o + k, none⟩ = some (.int .u64 (q : Int)) := hcell k (unv q) (unvs_at hq)
      subst he
      have HTK : Hid (is.take (k + 1) = is.take k ++ [q]) := by show _ = _; rw [List.take_add_one, hq]; rfl
      obtain ⟨S, HS⟩ : ∃ x, Hid (x = (is.take k).foldl (dueStep f m now) (G, restE now E)) := ⟨_, rfl⟩
      rw [← HS.out] at HBP
      have HSB : Hid ((S.1.map (·.num)) = G.map (·.num) ∧ ∀ x ∈ S.1, ∃ y ∈ G, x.num = y.num ∧ x.gb = y.gb ∧ x.mb = y.mb ∧ x.mem = y.mem ∧ x.tries ≤ y.tries + 80000) := by
        have h1 := dueStep_bump f m now (is.take k) (G, restE now E)
        rw [← HS.out] at h1
        refine ⟨h1.1, fun x hx => ?_⟩
        obtain ⟨y, hy, h2, h3, h4, h5, h6⟩ := h1.2 x hx
        rw [List.length_take] at h6
        exact ⟨y, hy, h2, h3, h4, h5, by omega⟩
      have HSL : Hid (S.2.length ≤ 90000) := by
        have h1 := dueStep_len f m now (is.take k) (G, restE now E)
        rw [← HS.out, List.length_take] at h1
        have h2 : (restE now E).length ≤ E.length := (List.dropWhile_sublist _).length_le
        simp only at h1
        show _ ≤ _
        omega
      have HDN : Hid (dn = k) := by
        have h1 := HPR.out.dr.1
        have h2 := congrArg List.length HRW.out
        rw [List.length_map, List.length_map, List.length_take] at h2
        rw [List.length_map] at h1
        have := HNI.out
        show _ = _
        omega
      have hdn40 : dn ≤ 40000 := by have := HDN.out; omega
      have hqG : q ∈ G.map (·.num) := by
        have h1 : q ∈ ids (dueE now E) := by rw [← HIS.out]; exact List.mem_of_getElem? hq
        refine hids q ?_
        unfold ids dueE at h1
        obtain ⟨e, he, rfl⟩ := List.mem_map.1 h1
        exact List.mem_map.2 ⟨e, (List.takeWhile_sublist _).subset he, rfl⟩
      obtain ⟨g, hgG, hgq⟩ := List.mem_map.1 hqG
      obtain ⟨gs, hgs, hgsq⟩ : ∃ gs ∈ S.1, gs.num = q := by
        have h1 : q ∈ S.1.map (·.num) := by rw [HSB.out.1]; exact hqG
        obtain ⟨x, hx, e⟩ := List.mem_map.1 h1
        exact ⟨x, hx, e⟩
      obtain ⟨y, hy, e1, e2, e3, e4, e5⟩ := HSB.out.2 gs hgs
      obtain rfl : y = g := inj_of hnum hy hgG (by rw [← e1, hgsq, hgq])
      have hgf := hgF y hy
      rw [hgq] at hgf
      have HGF : Hid (gF q = some (.pointer (some ⟨gs.gb, 0, none⟩))) := by show _ = _; rw [hgf, e2]; rfl
      have hq64' := hq64 y hy
      rw [hgq] at hq64'
      have hkey := key64 Try.underlying34 hq64'
      have HGA := Lib.hid (HBP.out.gr gs hgs)
      have HY : Hid (y.num = q ∧ gs.mem = y.mem ∧ gs.tries ≤ y.tries + 80000 ∧ gs.num = q ∧ gs.gb = y.gb) := ⟨hgq, e4, e5, hgsq, e2⟩
      obtain ⟨gb, HGB⟩ : ∃ x, Hid (x = gs.gb) := ⟨_, rfl⟩
      obtain ⟨mb, HMB⟩ : ∃ x, Hid (x = gs.mb) := ⟨_, rfl⟩
      have g2 := HGA.out.c2
      rw [← HGB.out, ← HMB.out] at g2
      rw [← HGB.out] at HGF
      have c3 := HBP.out.c3
      clear hcell hqG hgq hgsq e1 e2 e3 e4 e5 hgf
      go_wp2_with (first | (at_lookup; refine wpList_mv1 _ rfl _ _ 75 rfl 34 81 u64_keyed Try.underlying75 (.pointer none) (zero_group _) gm gN gF rfl HBP.out.gmv q rfl hkey (.pointer (some ⟨gb, 0, none⟩)) (by rw [HGF.out]; rfl) ?_))
      refine (keys_any wr mb).mono ?_
      rintro e w3 ⟨rfl, rfl⟩
      go_wp2_with fail
      have hcm : (wr.alloc (.cells #[.map (some mb)] 79)).cell? ⟨wr.heap.size, 0, none⟩ = some (.map (some mb)) := cell_last wr _ _ _ 0 rfl
      have hbx := below_box wr (.cells #[.map (some mb)] 79)
      have hown : Mv Try.prog 34 (wr.alloc (.cells #[.map (some mb)] 79)) mb gs.mem.length (memF gs.mem) := by
        have hmv := HGA.out.mv
        rw [← HMB.out] at hmv
        exact hmv.kept (hbx.block _ hmv.lt)
      have h50 : gs.mem.length < 50 := by rw [HY.out.2.1]; exact hmem y hy
      have HSO := Lib.hid (sorted_any _ wr.heap.size mb gs.mem.length (memF gs.mem) hcm hown h50)
      have hz1 : (wr.alloc (.cells #[.map (some mb)] 79)).heap.size = wr.heap.size + 1 := by simp
      have HX := Lib.hid hbx
      have HZ1 := Lib.hid hz1
      clear hcm hbx hown h50 hz1 g2 hc c3
      refine HSO.out.mono ?_
      rintro e w4 ⟨Ad, nd, cd, ss, rfl, hall, hown4, hb4⟩
      have HB4 : Hid (RowKit.Below wr.heap.size wr w4) := HX.out.trans (hb4.mono (by have := HZ1.out; omega))
      have hsn : sortN ss = sortN y.mem := by
        refine sortN_perm ((List.perm_ext_iff_of_nodup hall.1 (hnd y hy)).2 fun z => ?_)
        rw [hall.2.1 z, memF_some, HY.out.2.1]
        simp
      rw [hsn] at hown4
      have HOW4 : Hid (OwnN w4 wr.heap.size Ad nd cd (sortN y.mem)) := World.ownsRow.mono hown4 (by have := HZ1.out; omega)
      have HPR4 := Lib.hid (HPR.out.below HB4.out)
      clear hall hown4 hb4 hsn HSO
      go_wp2_with (at_builtin; go_loud (refine wpList_append_dstN _ rfl (.tmp 28) (.tmp 35) 53 53 rfl w.heap.size 37 i0 _ 1 24 Try.underlying53 hi0 hz0 hz1 hz2 rfl D dn dc (rows.map Rw.v) rfl (.inr (HPR4.out.dr.alloc _)) _ 1 [Value.slice Ad nd cd] rfl ((lit_sn w4 37 [Value.slice Ad nd cd] 1 1 rfl (by unfold maxLen; omega)).src Try.underlying53 (by intro u hu; rw [List.mem_singleton] at hu; subst hu; rfl)) (by omega) (by omega) (by have h1 := HON.out.size; have h2 := HB4.out.size; simp; omega) ?_; intro D7 dc7 w7 g1 g2 g3 g4 g5 g6; have HD7 := Lib.hid (g2 (by omega)); have HG7 := Lib.hid (grown_any g5); have HN7 := Lib.hid g6; clear g1 g2 g3 g4 g5 g6))
      have hlb := below_box w4 (.cells [Value.slice Ad nd cd].toArray 37)
      have HB5 : Hid (RowKit.Below wr.heap.size wr (w4.alloc (.cells [Value.slice Ad nd cd].toArray 37))) := HB4.out.trans (hlb.mono HB4.out.size)
      have HPR7 := Lib.hid (HPR.out.push (r := ⟨Ad, nd, cd, sortN y.mem⟩) (fun z hz => (HBP.out.al.sl z hz).2) HB5.out (HOW4.out.alloc _) HON.out.size HD7.out HG7.out HN7.out)
      have HO7 : Hid (Only (fun z => some z = (Value.slice D dn dc).ownBlock) wr w7) := (Only.of_below (S := fun z => some z = (Value.slice D dn dc).ownBlock) HB5.out).trans (Only.of_grown HG7.out (S := fun z => some z = (Value.slice D dn dc).ownBlock) (fun z e => e)) (fun _ _ e => e)
      have hBF : ∀ z ∈ ownB bd gm hm S.1, z < w.heap.size := by
        intro z hz
        unfold ownB at hz
        rw [List.mem_cons, List.mem_cons, List.mem_cons, List.mem_append] at hz
        have hl := HLT.out
        rcases hz with rfl | rfl | rfl | hz | hz
        · exact hl _ (.inl own_bd)
        · exact hl _ (.inl own_gm)
        · exact hl _ (.inl own_hm)
        · obtain ⟨x, hx, rfl⟩ := List.mem_map.1 hz
          obtain ⟨x2, hx2, _, e2, _⟩ := HSB.out.2 x hx
          rw [e2]
          exact hl _ (.inl (own_gb hx2))
        · obtain ⟨x, hx, rfl⟩ := List.mem_map.1 hz
          obtain ⟨x2, hx2, _, _, e2, _⟩ := HSB.out.2 x hx
          rw [e2]
          exact hl _ (.inl (own_mb hx2))
      have HBP7 := Lib.hid (HBP.out.only HO7.out (fun z _ hz hf => by
        have hd := HPR.out.dr.lt z hz.symm
        rcases hf with hf | hf | hf
        · have := hBF z hf; omega
        · have := HLT.out z (.inr (.inl hf)); omega
        · exact HPR.out.nb z hz.symm hf))
      have hnumS : (S.1.map (·.num)).Nodup := by rw [HSB.out.1]; exact hnum
      have htrS : gs.tries < 9223372036854775807 := by have := HY.out.2.2.1; have := htr y hy; omega
      have hW := bwait_any HBP7.out hnumS hgs hp htrS (by rw [HY.out.2.2.2.1]; exact hq64') HSL.out now hnow
      have hgv : gv gs = .pointer (some ⟨gb, 0, none⟩) := by rw [HGB.out]; rfl
      rw [hgv] at hW
      have HW := Lib.hid hW
      have HBF := Lib.hid hBF
      have HTQ : Hid (triesOf q S.1 = gs.tries) := by
        show _ = _
        unfold triesOf
        rw [← HY.out.2.2.2.1, find_num hnumS hgs]
        rfl
      clear hlb hBF hnumS htrS hW hgv
      refine HW.out.mono ?_
      rintro e w8 ⟨rfl, Sa8, hbp8, ho8, hs8⟩
      rw [HY.out.2.2.2.1] at hbp8
      have HBP8 := Lib.hid hbp8
      have HO8 := Lib.hid ho8
      have HS8 := Lib.hid hs8
      have HPR8 := Lib.hid (HPR7.out.only (Sa' := Sa8) ho8 (fun z _ hz hB => by
        rcases hz with hz | hz
        · exact hz
        · have h1 := HBF.out gs.gb (own_gb hgs)
          omega) hs8)
      clear hbp8 ho8 hs8 HW
      go_wp2
      go_roundg (gk - 1)
      case measure => have := HG.out; omega
      case rel =>
        have hst : (is.take (k + 1)).foldl (dueStep f m now) (G, restE now E) = (bump q S.1, setE q (now + (wt f m gs.tries : Nat)) S.2) := by
          rw [HTK.out, List.foldl_append, ← HS.out, List.foldl_cons, List.foldl_nil]
          unfold dueStep
          rw [HTQ.out]
        refine ⟨k + 1, D7, dn + 1, dc7, Sa8, rows ++ [⟨Ad, nd, cd, sortN y.mem⟩], by have := HG.out; omega, rfl, by go_num, ?_, HPR8.out, ?_, ?_, ?_⟩
        · rw [hst]
          exact HBP8.out
        · rw [HTK.out, List.map_append, List.map_append, HRW.out]
          simp only [List.map_cons, List.map_nil]
          rw [show memOf q G = y.mem from by unfold memOf; rw [← HY.out.1, find_num hnum hy]; rfl]
        · refine (HON.out.trans HO7.out (fun z hz e => ?_)).trans HO8.out (fun z hz e => ?_)
          · have := (HPR.out.dr.lt z e.symm).1; omega
          · rcases e with e | e
            · rcases HSA.out z e with e | e
              · exact .inl e
              · omega
            · exact .inr ⟨y, hy, by rw [e, HY.out.2.2.2.2]⟩
        · intro z hz
          rcases HS8.out z hz with e | e
          · exact HSA.out z e
          · have h1 := HON.out.size
            have h2 := HO7.out.size
            exact .inr (by omega)
    · have hkI : ¬ (k : Int) < (ni : Int) := by omega
      have HE : Hid (is.take k = is) := List.take_of_length_le (by have := HNI.out; have := HG.out; omega)
      go_wp2_with fail
      go_ret
      rw [HE.out] at HBP HRW
      exact ⟨D, dn, dc, Sa', rows, rfl, HBP.out, HPR.out.dr, HPR.out.rr, HRW.out, HON.out, HSA.out⟩
end
end Go.Proofs.Ytbnhemmklbbnmaa
