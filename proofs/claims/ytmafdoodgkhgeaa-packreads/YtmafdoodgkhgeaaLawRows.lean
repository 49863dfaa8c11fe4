/-
  THE WALK of the law PackRows: whatever the numbers and the bytes, it returns true, and turns nothing that was there.
-/
import Derived.Test.YtmafdoodgkhgeaaLawNumbers
namespace Go.Proofs.Ytmafdoodgkhgeaa
open Go.RowKit

/-- A slice of numbers reads as these, below block B. -/
structure Ns (w : World) (B : Nat) (A : Option Addr) (n c : Nat) (xs : List Nat) : Prop where
  len : xs.length = n
  le : n ≤ c
  max : c ≤ maxLen
  cell : 0 < n → ∃ b o, A = some ⟨b, o, none⟩ ∧ b < B ∧ ∀ (j x : Nat), xs[j]? = some x → w.cell? ⟨b, o + j, none⟩ = some (.int .u64 (x : Int))
  lt : ∀ x ∈ xs, x < two64
theorem Ns.take {w : World} {B : Nat} {A : Option Addr} {n c : Nat} {xs : List Nat} (h : Ns w B A n c xs) {k : Nat} (hk : k ≤ n) : Ns w B A k c (xs.take k) :=
  ⟨by rw [List.length_take, h.len]; omega, by have := h.le; omega, h.max, fun hp => by
    obtain ⟨b, o, e, hb, hc⟩ := h.cell (by omega)
    refine ⟨b, o, e, hb, fun j x hx => hc j x ?_⟩
    rw [List.getElem?_take] at hx
    split at hx
    · exact hx
    · exact absurd hx (by simp), fun x hx => h.lt x (List.mem_of_mem_take hx)⟩
theorem Ns.at_ {w : World} {B : Nat} {A : Option Addr} {n c k : Nat} {xs : List Nat} (h : Ns w B A n c xs) (hk : k < n) :
    ∃ b o x, A = some ⟨b, o, none⟩ ∧ b < B ∧ xs[k]? = some x ∧ w.cell? ⟨b, o + k, none⟩ = some (.int .u64 (x : Int)) ∧ x < two64 := by
  obtain ⟨b, o, e, hb, hc⟩ := h.cell (by omega)
  have hl : k < xs.length := by have := h.len; omega
  exact ⟨b, o, xs[k], e, hb, List.getElem?_eq_getElem hl, hc k _ (List.getElem?_eq_getElem hl), h.lt _ (List.getElem_mem hl)⟩
/-- A slice of byte slices reads as these parts, all below block B. -/
structure Rws (w : World) (B : Nat) (A : Option Addr) (n c : Nat) (ps : List Pt) : Prop where
  len : ps.length = n
  le : n ≤ c
  max : c ≤ maxLen
  cell : 0 < n → ∃ b o, A = some ⟨b, o, none⟩ ∧ b < B ∧ ∀ (j : Nat) (p : Pt), ps[j]? = some p → w.cell? ⟨b, o + j, none⟩ = some p.v
  sl : ∀ p ∈ ps, Sl w B p.A p.n p.c p.l
theorem Rws.take {w : World} {B : Nat} {A : Option Addr} {n c : Nat} {ps : List Pt} (h : Rws w B A n c ps) {k : Nat} (hk : k ≤ n) : Rws w B A k c (ps.take k) :=
  ⟨by rw [List.length_take, h.len]; omega, by have := h.le; omega, h.max, fun hp => by
    obtain ⟨b, o, e, hb, hc⟩ := h.cell (by omega)
    refine ⟨b, o, e, hb, fun j x hx => hc j x ?_⟩
    rw [List.getElem?_take] at hx
    split at hx
    · exact hx
    · exact absurd hx (by simp), fun x hx => h.sl x (List.mem_of_mem_take hx)⟩
theorem Rws.at_ {w : World} {B : Nat} {A : Option Addr} {n c k : Nat} {ps : List Pt} (h : Rws w B A n c ps) (hk : k < n) :
    ∃ b o p, A = some ⟨b, o, none⟩ ∧ b < B ∧ ps[k]? = some p ∧ w.cell? ⟨b, o + k, none⟩ = some (.slice p.A p.n p.c) ∧ Sl w B p.A p.n p.c p.l := by
  obtain ⟨b, o, e, hb, hc⟩ := h.cell (by omega)
  have hl : k < ps.length := by have := h.len; omega
  exact ⟨b, o, ps[k], e, hb, List.getElem?_eq_getElem hl, hc k _ (List.getElem?_eq_getElem hl), h.sl _ (List.getElem_mem hl)⟩

def numsL (xs : List Nat) : List UInt8 := xs.flatMap num
def bysL (ps : List Pt) : List UInt8 := ps.flatMap fun p => byts (p.l.take 50)
theorem numsL_snoc {xs : List Nat} {j x : Nat} (h : xs[j]? = some x) : numsL (xs.take (j + 1)) = numsL (xs.take j) ++ num x := by
  unfold numsL
  rw [List.take_add_one, h, List.flatMap_append]
  simp
theorem bysL_snoc {ps : List Pt} {j : Nat} {p : Pt} (h : ps[j]? = some p) : bysL (ps.take (j + 1)) = bysL (ps.take j) ++ byts (p.l.take 50) := by
  unfold bysL
  rw [List.take_add_one, h, List.flatMap_append]
  simp
theorem numsL_cons {xs : List Nat} {j x : Nat} (h : xs[j]? = some x) : numsL (xs.drop j) = num x ++ numsL (xs.drop (j + 1)) := by
  obtain ⟨hl, rfl⟩ := List.getElem?_eq_some_iff.1 h
  unfold numsL
  rw [List.drop_eq_getElem_cons hl, List.flatMap_cons]
theorem bysL_cons {ps : List Pt} {j : Nat} {p : Pt} (h : ps[j]? = some p) : bysL (ps.drop j) = byts (p.l.take 50) ++ bysL (ps.drop (j + 1)) := by
  obtain ⟨hl, rfl⟩ := List.getElem?_eq_some_iff.1 h
  unfold bysL
  rw [List.drop_eq_getElem_cons hl, List.flatMap_cons]
theorem numsL_len (xs : List Nat) (h : ∀ x ∈ xs, x < two64) : (numsL xs).length ≤ 10 * xs.length := by
  unfold numsL
  induction xs with
  | nil => simp
  | cons x xs ih =>
    have h1 := num_len10 x (h x (by simp))
    have h2 := ih (fun y hy => h y (by simp [hy]))
    rw [List.flatMap_cons, List.length_append, List.length_cons]
    omega
theorem byts50_len (l : List UInt8) : (byts (l.take 50)).length ≤ 60 := by
  unfold byts
  have h : (l.take 50).length ≤ 50 := by rw [List.length_take]; omega
  have := num_len10 (l.take 50).length (by unfold two64; omega)
  rw [List.length_append]
  omega
theorem bysL_len (ps : List Pt) : (bysL ps).length ≤ 60 * ps.length := by
  unfold bysL
  induction ps with
  | nil => simp
  | cons p ps ih =>
    have := byts50_len p.l
    rw [List.flatMap_cons, List.length_append, List.length_cons]
    omega

/-- Two rows that read alike; nothing that was there has turned. -/
def Both (w1 : World) (l : List UInt8) (p q : Value) (wr : World) : Prop :=
  ∃ (A A' : Option Addr) (n c n' c' : Nat), p = .slice A n c ∧ q = .slice A' n' c' ∧ Sl wr wr.heap.size A n c l ∧ Sl wr wr.heap.size A' n' c' l ∧ Below w1.heap.size w1 wr
def NumsRel (w1 : World) (xs : List Nat) (N gk : Nat) (p q i : Value) (wr : World) : Prop :=
  ∃ j : Nat, gk + j = N ∧ i = .int .i64 (j : Int) ∧ Both w1 (numsL (xs.take j)) p q wr
def BysRel (w1 : World) (h : List UInt8) (ps : List Pt) (N gk : Nat) (p q i : Value) (wr : World) : Prop :=
  ∃ j : Nat, gk + j = N ∧ i = .int .i64 (j : Int) ∧ Both w1 (h ++ bysL (ps.take j)) p q wr

theorem Sl.past {w w' : World} {B : Nat} {row : Option Nat} {A : Option Addr} {n c : Nat} {l : List UInt8} (h : Sl w B A n c l) (hg : w.grownBy w' row) (hB : B ≤ w.heap.size) (hr : ∀ k, row = some k → B ≤ k) : Sl w' B A n c l :=
  h.keep fun b o hb => World.cell?_of_block (a := ⟨b, o, none⟩) (hg.block b (by show b < _; omega) (fun e => by have := hr b e.symm; omega))
def InRel (w6 : World) (g : Nat) (xs : List Nat) (tail : List UInt8) (N gk : Nat) (i : Value) (wr : World) : Prop :=
  ∃ (j : Nat) (A : Option Addr) (n c : Nat), gk + j = N ∧ i = .int .i64 (j : Int) ∧ InAt wr g A n c 0 (numsL (xs.drop j) ++ tail) ∧ w6.grownBy wr (some g)
def InRelB (w6 : World) (g : Nat) (ps : List Pt) (N gk : Nat) (i : Value) (wr : World) : Prop :=
  ∃ (j : Nat) (A : Option Addr) (n c : Nat), gk + j = N ∧ i = .int .i64 (j : Int) ∧ InAt wr g A n c 0 (bysL (ps.drop j)) ∧ w6.grownBy wr (some g)

set_option maxHeartbeats 2000000 in
set_option maxRecDepth 100000 in
theorem packRows_law (w : World) (A0 : Option Addr) (n0 c0 : Nat) (xs0 : List Nat) (h0 : Ns w w.heap.size A0 n0 c0 xs0) (A1 : Option Addr) (n1 c1 : Nat) (ps0 : List Pt) (h1 : Rws w w.heap.size A1 n1 c1 ps0) :
    Calls Try.prog 8 #[.slice A0 n0 c0, .slice A1 n1 c1] w (Yes w) := by
  have hm0 := h0.max
  have hl0 := h0.le
  have hm1 := h1.max
  have hl1 := h1.le
  unfold maxLen at hm0 hm1
  go_enter Try.func8, Try.ntmps8
  go_wp2_with fail
  refine (awake_any w).mono ?_
  rintro e w1 ⟨rfl, hb1⟩
  obtain ⟨N0, hN0⟩ : ∃ N0, N0 = min n0 20 := ⟨_, rfl⟩
  obtain ⟨N1, hN1⟩ : ∃ N1, N1 = min n1 10 := ⟨_, rfl⟩
  have HN := h0.take (k := N0) (by omega)
  have HP := h1.take (k := N1) (by omega)
  have e0 : min (n0 : Int) 20 = (N0 : Int) := by omega
  have e1 : min (n1 : Int) 10 = (N1 : Int) := by omega
  have i00 : (0 : Int) ≤ (N0 : Int) := by omega
  have i01 : (N0 : Int) ≤ (c0 : Int) := by omega
  have i10 : (0 : Int) ≤ (N1 : Int) := by omega
  have i11 : (N1 : Int) ≤ (c1 : Int) := by omega
  have b0 : N0 ≤ 20 := by omega
  have b1 : N1 ≤ 10 := by omega
  generalize xs0.take N0 = xs at *
  generalize ps0.take N1 = ps at *
  have HN' := Lib.hid HN
  have HP' := Lib.hid HP
  clear h0 h1 hN0 hN1 HN HP
  go_wp2_with fail
  go_quiet (fail)
  have f0 : (if (20 : Int) < (n0 : Int) then (20 : Int) else (n0 : Int)) = (N0 : Int) := by split <;> omega
  have f1 : (if (10 : Int) < (n1 : Int) then (10 : Int) else (n1 : Int)) = (N1 : Int) := by split <;> omega
  rw [f0, f1]
  simp only [Int.toNat_natCast]
  have hba := below_drewN hb1 nq
  clear hb1 f0 f1 e0 e1 i00 i10 hl0 hl1
  generalize w1.drewN nq = wa at *
  have HTL : Hid (∀ j, (numsL (xs.take j)).length ≤ 200) := fun j => by
    have h := numsL_len (xs.take j) (fun x hx => HN'.out.lt x (List.mem_of_mem_take hx))
    have h2 : (xs.take j).length ≤ 20 := by rw [List.length_take]; have := HN'.out.len; omega
    omega
  have HBL : Hid (∀ j, (bysL (ps.take j)).length ≤ 600) := fun j => by
    have h := bysL_len (ps.take j)
    have h2 : (ps.take j).length ≤ 10 := by rw [List.length_take]; have := HP'.out.len; omega
    omega
  go_wp2
  go_loopg [5, 6, 30] N0 (fun gk p q i wr => NumsRel wa xs N0 gk p q i wr)
  case atStart => exact ⟨0, by omega, rfl, none, none, 0, 0, 0, 0, rfl, rfl, Sl.nil_ _ _ _ _ (Nat.zero_le _), Sl.nil_ _ _ _ _ (Nat.zero_le _), Below.refl _ _⟩
  case round =>
    obtain ⟨j, hj, rfl, A, A', n, c, n', c', rfl, rfl, hs, hs', hbel⟩ := hrel
    have HJ := Lib.hid hj; clear hj
    by_cases hlt : j < N0
    · obtain ⟨b, o, x, rfl, hbb, hx, hc, hx64⟩ := HN'.out.at_ hlt
      have hcr : wr.cell? ⟨b, o + j, none⟩ = some (.int .u64 (x : Int)) := (hbel.cell (p := ⟨b, o + j, none⟩) (Nat.lt_of_lt_of_le hbb hba.size)).trans ((hba.cell (p := ⟨b, o + j, none⟩) hbb).trans hc)
      have HX := Lib.hid hx64
      have HSN := Lib.hid (numsL_snoc hx)
      have hll := HTL.out j
      have h10 := num_len10 x hx64
      clear hc hx hx64
      go_wp2_with fail
      refine (packNum_any wr A n c _ x hs HX.out (by omega)).mono ?_
      rintro e w2 ⟨A2, n2, c2, rfl, hown2, hbel2⟩
      rw [← HSN.out] at hown2
      have h2 := Sl.of_own hown2
      have hsa := hs'.on hbel2 (Nat.le_refl _)
      have hb2 := hbel.trans (hbel2.mono hbel.size)
      clear hown2 hbel2 hs hs' hcr
      go_wp2_with fail
      refine (refNum_any x w2 HX.out).mono ?_
      rintro e w3 ⟨A3, n3, c3, rfl, hown3, hbel3⟩
      have h3 := Sl.of_own hown3
      have h2' := h2.on hbel3 (Nat.le_refl _)
      have hs3 := hsa.on hbel3 (Nat.le_refl _)
      have hb3 := hb2.trans (hbel3.mono hb2.size)
      clear hown3 hbel3 h2 hsa hb2
      go_wp2_with fail
      refine (join_two _ w3.heap.size A' A3 n' c' n3 c3 (numsL (xs.take j)) (num x) (by simp) (by simp) (by simp) (by exact hs3.onA _) (by exact h3.onA _) (by omega)).mono ?_
      rintro e w4 ⟨A4, n4, c4, rfl, hown4, hbel4⟩
      rw [← HSN.out] at hown4
      have h4 := Sl.of_own hown4
      have h2 := (h2'.onA _).on hbel4 (Nat.le_refl _)
      have hb4 := (hb3.alloc hb3.size _).trans (hbel4.mono (Nat.le_trans hb3.size (by simp)))
      clear hown4 hbel4 h2' hb3 h3 hs3
      go_wp2
      go_roundg (gk - 1)
      case measure => have := HJ.out; omega
      case rel => exact ⟨j + 1, by have := HJ.out; omega, by go_num, A2, A4, n2, c2, n4, c4, rfl, rfl, h2, h4, hb4⟩
    · have HF : Hid (xs.take j = xs) := List.take_of_length_le (by have := HJ.out; have := HN'.out.len; omega)
      have hll := HTL.out j
      rw [HF.out] at hs hs' hll
      have hbb := hba.trans (hbel.mono hba.size)
      generalize hNL : numsL xs = NL at *
      have HNL := Lib.hid hNL
      clear hbel HF hNL
      obtain ⟨wz, rfl⟩ : ∃ wz : World, wz = wr := ⟨_, rfl⟩
      go_wp2
      go_loopg [5, 6, 45] N1 (fun gk p q i wr => BysRel wz NL ps N1 gk p q i wr)
      case atStart => exact ⟨0, by omega, rfl, A, A', n, c, n', c', rfl, rfl, by simpa [bysL] using hs, by simpa [bysL] using hs', Below.refl _ _⟩
      case round =>
        clear hs hs'
        obtain ⟨j1, hj1, rfl, B1, B2, k1, d1, k2, d2, rfl, rfl, hs, hs', hbel⟩ := hrel
        have HJ1 := Lib.hid hj1; clear hj1
        by_cases hlt1 : j1 < N1
        · obtain ⟨b, o, p, rfl, hbp, hp, hc, hsl⟩ := HP'.out.at_ hlt1
          have hzz := hbb.size
          have hcr : wr.cell? ⟨b, o + j1, none⟩ = some (.slice p.A p.n p.c) := (hbel.cell (p := ⟨b, o + j1, none⟩) (Nat.lt_of_lt_of_le hbp hzz)).trans ((hbb.cell (p := ⟨b, o + j1, none⟩) hbp).trans hc)
          have hslr : Sl wr wr.heap.size p.A p.n p.c p.l := ((hsl.below hbb (Nat.le_refl _)).below hbel hzz).more (Nat.le_trans hzz hbel.size)
          have hsn := bysL_snoc hp
          have HSN : Hid (NL ++ bysL (ps.take (j1 + 1)) = (NL ++ bysL (ps.take j1)) ++ byts (p.l.take 50)) := by show _ = _; rw [hsn, List.append_assoc]
          have hl2 : (p.l.take 50).length ≤ 50 := by rw [List.length_take]; omega
          have hbl := byts50_len p.l
          have hll2 : (NL ++ bysL (ps.take j1)).length ≤ 800 := by rw [List.length_append]; have := HBL.out j1; omega
          generalize NL ++ bysL (ps.take j1) = K1 at *
          clear hc hsl hp hsn
          go_wp2_with fail
          refine (cut_any wr p.A p.n p.c p.l 50 hslr (by omega)).mono ?_
          rintro e w2 ⟨A2, n2, c2, rfl, hown2, hbel2⟩
          have h2 := Sl.of_own hown2
          have hs2 := hs.on hbel2 (Nat.le_refl _)
          have hs2' := hs'.on hbel2 (Nat.le_refl _)
          have hb2 := hbel.trans (hbel2.mono hbel.size)
          generalize p.l.take 50 = q at *
          clear hown2 hbel2 hslr hs hs' hbel hcr
          go_wp2_with fail
          refine (packBytes_any w2 B1 A2 k1 d1 n2 c2 K1 q hs2 h2 (by omega)).mono ?_
          rintro e w3 ⟨A3, n3, c3, rfl, hown3, hbel3⟩
          rw [← HSN.out] at hown3
          have h3 := Sl.of_own hown3
          have h2' := h2.on hbel3 (Nat.le_refl _)
          have hs3' := hs2'.on hbel3 (Nat.le_refl _)
          have hb3 := hb2.trans (hbel3.mono hb2.size)
          clear hown3 hbel3 h2 hs2 hs2' hb2
          go_wp2_with fail
          refine (refBytes_any w3 A2 n2 c2 q h2' (by omega)).mono ?_
          rintro e w4 ⟨A4, n4, c4, rfl, hown4, hbel4⟩
          have h4 := Sl.of_own hown4
          have h3' := h3.on hbel4 (Nat.le_refl _)
          have hs4' := hs3'.on hbel4 (Nat.le_refl _)
          have hb4 := hb3.trans (hbel4.mono hb3.size)
          clear hown4 hbel4 h3 hs3' hb3 h2'
          go_wp2_with fail
          refine (join_two _ w4.heap.size B2 A4 k2 d2 n4 c4 K1 (byts q) (by simp) (by simp) (by simp) (by exact hs4'.onA _) (by exact h4.onA _) (by omega)).mono ?_
          rintro e w5 ⟨A5, n5, c5, rfl, hown5, hbel5⟩
          rw [← HSN.out] at hown5
          have h5 := Sl.of_own hown5
          have h3 := (h3'.onA _).on hbel5 (Nat.le_refl _)
          have hb5 := (hb4.alloc hb4.size _).trans (hbel5.mono (Nat.le_trans hb4.size (by simp)))
          clear hown5 hbel5 h3' hb4 h4 hs4'
          go_wp2
          go_roundg (gk - 1)
          case measure => have := HJ1.out; omega
          case rel => exact ⟨j1 + 1, by have := HJ1.out; omega, by go_num, A3, A5, n3, c3, n5, c5, rfl, rfl, h3, h5, hb5⟩
        · have HF : Hid (ps.take j1 = ps) := List.take_of_length_le (by have := HJ1.out; have := HP'.out.len; omega)
          have hbl := HBL.out j1
          rw [HF.out] at hs hs' hbl
          have hbz := hbb.trans (hbel.mono hbb.size)
          have hlen : (NL ++ bysL ps).length ≤ 800 := by rw [List.length_append]; omega
          clear hbel HF hbb
          obtain ⟨wy, rfl⟩ : ∃ wy : World, wy = wr := ⟨_, rfl⟩
          go_wp2_with fail
          refine (of_any wy B1 k1 d1 _ hs (by omega)).mono ?_
          rintro e w6 ⟨g, A6, n6, c6, hg, rfl, hin, hbel⟩
          have hs6 := hs.below hbel (Nat.le_refl _)
          have hs6' := hs'.below hbel (Nat.le_refl _)
          have hb6 := hbz.trans (hbel.mono hbz.size)
          have hzg := Nat.le_trans hbz.size hg
          have hz6 := hbel.size
          have HI := Lib.hid hin
          have hgw6 := hin.lt
          clear hs hs' hbel hbz hin
          rw [← HNL.out] at HI
          go_wp2
          go_loopg [64] N0 (fun gk i wr => InRel w6 g xs (bysL ps) N0 gk i wr)
          case atStart => exact ⟨0, A6, n6, c6, by omega, rfl, HI.out, only_refl _ _⟩
          case round =>
            obtain ⟨j2, A7, n7, c7, hj2, rfl, hin7, hg7⟩ := hrel
            have HJ2 := Lib.hid hj2; clear hj2
            have HI7 := Lib.hid hin7; clear hin7
            by_cases hlt2 : j2 < N0
            · obtain ⟨b, o, x, rfl, hbb, hx, hc, hx64⟩ := HN'.out.at_ hlt2
              have hbr : Below w.heap.size w wr := hb6.grown hg7 hb6.size (fun k hk => by injection hk with hk; omega)
              have hcr : wr.cell? ⟨b, o + j2, none⟩ = some (.int .u64 (x : Int)) := (hbr.cell (p := ⟨b, o + j2, none⟩) hbb).trans hc
              have HC := Lib.hid (numsL_cons hx)
              have HX := Lib.hid hx64
              clear hc hx hx64 hbr
              rw [HC.out, List.append_assoc] at HI7
              go_wp2_with fail
              refine (inNum_any HI7.out).mono ?_
              rintro e w7 ⟨A8, n8, c8, rfl, hin8, hg8⟩
              rw [stNum_num x _ HX.out] at hin8 ⊢
              clear hcr
              go_wp2
              go_roundg (gk - 1)
              case measure => have := HJ2.out; omega
              case rel => exact ⟨j2 + 1, A8, n8, c8, by have := HJ2.out; omega, by go_num, hin8, only_trans hg7 hg8⟩
            · have hnil : numsL (xs.drop j2) ++ bysL ps = bysL ps := by
                rw [List.drop_eq_nil_of_le (by have := HJ2.out; have := HN'.out.len; omega)]; rfl
              rw [hnil] at HI7
              clear hnil
              go_wp2
              go_loopg [75] N1 (fun gk i wr => InRelB w6 g ps N1 gk i wr)
              case atStart => exact ⟨0, A7, n7, c7, by omega, rfl, HI7.out, hg7⟩
              case round =>
                clear HI7 hg7
                obtain ⟨j3, A9, n9, c9, hj3, rfl, hin9, hg9⟩ := hrel
                have HJ3 := Lib.hid hj3; clear hj3
                have HI9 := Lib.hid hin9; clear hin9
                have hbr : Below w.heap.size w wr := hb6.grown hg9 hb6.size (fun k hk => by injection hk with hk; omega)
                by_cases hlt3 : j3 < N1
                · obtain ⟨b, o, p, rfl, hbp, hp, hc, hsl⟩ := HP'.out.at_ hlt3
                  have hcr : wr.cell? ⟨b, o + j3, none⟩ = some (.slice p.A p.n p.c) := (hbr.cell (p := ⟨b, o + j3, none⟩) hbp).trans hc
                  have hslr : Sl wr w.heap.size p.A p.n p.c p.l := hsl.below hbr (Nat.le_refl _)
                  have HC := Lib.hid (bysL_cons hp)
                  have hl2 : (p.l.take 50).length ≤ 50 := by rw [List.length_take]; omega
                  have HST := Lib.hid (stBytes_byts (p.l.take 50) (bysL (ps.drop (j3 + 1))) 50 (by unfold two64; omega) (by omega))
                  rw [HC.out] at HI9
                  clear hc hsl hp
                  go_wp2_with fail
                  refine (inBytes_any HI9.out 50 (.inl (by rw [IntKind.wrap_u64]; omega))).mono ?_
                  rintro e w10 ⟨A10, n10, c10, A11, n11, c11, rfl, hown11, hin10, hg10⟩
                  rw [HST.out] at hown11 hin10
                  have h11 := Sl.of_own hown11
                  have hsl10 := (hslr.past hg10 hbr.size (fun k hk => by injection hk with hk; omega)).more (Nat.le_trans hbr.size hg10.size)
                  have hlt10 := hin10.lt
                  have HI10 := Lib.hid hin10
                  have hga := only_trans hg9 hg10
                  clear hown11 hin10 hg10 hg9 hslr hcr HI9
                  go_wp2_with fail
                  refine (cut_any w10 p.A p.n p.c p.l 50 hsl10 (by omega)).mono ?_
                  rintro e w11 ⟨A12, n12, c12, rfl, hown12, hbel12⟩
                  have h12 := Sl.of_own hown12
                  have h11' := h11.on hbel12 (Nat.le_refl _)
                  have HI11 := Lib.hid (HI10.out.below hbel12 hlt10)
                  have hgb := only_trans hga (only_below hbel12 _)
                  clear hown12 hbel12 h11 HI10 hga hsl10
                  go_wp2_with fail
                  refine (same_yes w11 w11.heap.size A11 A12 n11 c11 n12 c12 (p.l.take 50) h11' h12).mono ?_
                  rintro e w12 ⟨rfl, q, rfl⟩
                  have HI12 := Lib.hid (HI11.out.drewN q)
                  have hgc := only_drewN hgb q
                  clear h11' h12 HI11 hgb
                  generalize w11.drewN q = w12 at *
                  go_wp2
                  go_roundg (gk - 1)
                  case measure => have := HJ3.out; omega
                  case rel => exact ⟨j3 + 1, A10, n10, c10, by have := HJ3.out; omega, by go_num, HI12.out, hgc⟩
                · have hnil : bysL (ps.drop j3) = [] := by
                    rw [List.drop_eq_nil_of_le (by have := HJ3.out; have := HP'.out.len; omega)]; rfl
                  rw [hnil] at HI9
                  have hsf := (hs6.past hg9 hz6 (fun k hk => by injection hk with hk; omega)).more (Nat.le_trans hz6 hg9.size)
                  have hsf' := (hs6'.past hg9 hz6 (fun k hk => by injection hk with hk; omega)).more (Nat.le_trans hz6 hg9.size)
                  clear hnil hs6 hs6' hg9
                  go_wp2_with fail
                  refine (same_yes wr wr.heap.size B1 B2 k1 d1 k2 d2 _ hsf hsf').mono ?_
                  rintro e w12 ⟨rfl, q, rfl⟩
                  have HI12 := Lib.hid (HI9.out.drewN q)
                  have hbq := below_drewN hbr q
                  have hn9 : n9 = 0 := by simpa using HI9.out.sl.len.symm
                  subst hn9
                  clear hsf hsf' HI9 hbr
                  generalize wr.drewN q = w12 at *
                  go_wp2_with fail
                  refine (left_any HI12.out).mono ?_
                  rintro e w13 ⟨rfl, rfl⟩
                  go_wp2_with fail
                  refine (end_any HI12.out).mono ?_
                  rintro e w13 ⟨A14, n14, c14, rfl, hin14, hg14⟩
                  have he : endN [] 0 = 0 := rfl
                  rw [he]
                  have hbf := hbq.grown hg14 hbq.size (fun k hk => by injection hk with hk; omega)
                  clear he hin14 hg14 hbq
                  go_wp2
                  go_ret
                  exact ⟨rfl, hbf⟩
end Go.Proofs.Ytmafdoodgkhgeaa
