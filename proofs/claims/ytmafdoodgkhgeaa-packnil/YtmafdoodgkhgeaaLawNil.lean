/-
  THE WALK of the law PackNil: whatever the bytes and the bound, it returns true, and turns nothing that was there.
-/
import Derived.Test.YtmafdoodgkhgeaaLawNumbers
namespace Go.Proofs.Ytmafdoodgkhgeaa
open Go.RowKit

theorem own_set {w : World} {base g n c : Nat} {l : List UInt8} (h : w.ownsRow base 5 1 (.slice (some ⟨g, 0, none⟩) n c) n (cbs l)) (j : Nat) (b : UInt8) :
    (w.setCell ⟨g, j, none⟩ (cb b)).ownsRow base 5 1 (.slice (some ⟨g, 0, none⟩) n c) n (cbs (l.set j b)) := by
  have h1 := h.stored j (cb b)
  have e : (cbs l).set j (cb b) = cbs (l.set j b) := by simp [cbs, List.map_set]
  rw [e] at h1
  exact h1.1
theorem own_at {w : World} {base n c : Nat} {A : Option Addr} {l : List UInt8} (h : w.ownsRow base 5 1 (.slice A n c) n (cbs l)) {j : Nat} (hj : j < n) :
    ∃ g x, A = some ⟨g, 0, none⟩ ∧ base ≤ g ∧ g < w.heap.size ∧ w.cell? ⟨g, j, none⟩ = some (.int .u8 (UInt8.toNat x : Int)) ∧ w.frozen? ⟨g, j, none⟩ = false := by
  have hl := (Sl.of_own h).len
  rcases h.2 with ⟨hv, hn⟩ | ⟨g, cap, cur, hv, hb, hh, _⟩
  · omega
  · injection hv with e1 e2 e3
    subst e1 e3
    have hc := h.cells (g := g) rfl j (cb l[j]) (by rw [cbs_at, List.getElem?_eq_getElem (by omega)]; rfl)
    rw [add_plain, Nat.zero_add] at hc
    exact ⟨g, l[j], rfl, hb, (Array.getElem?_eq_some_iff.1 hh).1, hc, h.frozenAt j⟩
theorem inc_byte (x : UInt8) : Value.int .u8 (((x.toNat : Int) + 1) % 256) = cb (x + 1) := by
  unfold cb
  congr 1

/-- A new reader, whose bytes lie in new memory, too. -/
def ReaderN (w : World) (l : List UInt8) (e : Ending) (w' : World) : Prop :=
  ∃ g A n c, w.heap.size ≤ g ∧ e = .returned (.pointer (some ⟨g, 0, none⟩)) ∧ InAt w' g A n c 0 l ∧ Below w.heap.size w w' ∧ (∀ ad, A = some ad → w.heap.size ≤ ad.block)

set_option maxHeartbeats 400000 in
theorem of_new (w : World) (A : Option Addr) (n c : Nat) (l : List UInt8) (hs : Sl w w.heap.size A n c l) (hb : l.length ≤ 2000000) :
    Calls Try.prog 15 #[.slice A n c] w (ReaderN w l) := by
  go_enter Try.func15, Try.ntmps15
  go_wp2_with fail
  refine (clone_any w A n c l hs hb).mono ?_
  rintro e w' ⟨A1, n1, c1, rfl, hown, hbel⟩
  go_wp2
  go_ret
  have hsl := Sl.of_own hown
  refine ⟨w'.heap.size, A1, n1, c1, hbel.size, rfl, ⟨heap_alloc_new w' _, hsl.alloc (Nat.le_refl _) _, hb⟩, hbel.alloc hbel.size _, fun ad had => ?_⟩
  rcases hown.2 with ⟨hv, hn⟩ | ⟨g, cap, cur, hv, hbg, _⟩
  · injection hv with e1; subst had; cases e1
  · injection hv with e1
    subst had
    injection e1 with e1
    rw [e1]
    exact hbg
theorem InAt.keptN {w w' : World} {g : Nat} {row : Option Nat} {A : Option Addr} {n c er : Nat} {l : List UInt8} (h : InAt w g A n c er l) (hg : w.grownBy w' row) (hk : ∀ k, row = some k → k ≠ g ∧ ∀ ad, A = some ad → k < ad.block) : InAt w' g A n c er l := by
  refine ⟨(hg.block g h.lt (fun e => (hk g e.symm).1 rfl)).trans h.blk, ⟨h.sl.len, h.sl.le, h.sl.max, fun hn => ?_⟩, h.small⟩
  obtain ⟨b, o, e, hb, hc⟩ := h.sl.cell hn
  refine ⟨b, o, e, hb, fun j x hx => ?_⟩
  rw [World.cell?_of_block (w := w) (a := ⟨b, o + j, none⟩) (hg.block b (Nat.lt_trans hb h.lt) (fun e' => by have := (hk b e'.symm).2 _ e; simp at this))]
  exact hc j x hx
theorem Sl.grown {w w' : World} {B : Nat} {row : Option Nat} {A : Option Addr} {n c : Nat} {l : List UInt8} (h : Sl w B A n c l) (hg : w.grownBy w' row) (hB : B ≤ w.heap.size) (hr : ∀ k, row = some k → B ≤ k) : Sl w' B A n c l :=
  h.keep fun b o hb => World.cell?_of_block (a := ⟨b, o, none⟩) (hg.block b (by show b < _; omega) (fun e => by have := hr b e.symm; omega))

def IncRel (w5 : World) (base n c : Nat) (A : Option Addr) (k : Nat) (i : Value) (wr : World) : Prop :=
  ∃ (j : Nat) (l : List UInt8), k + j = n ∧ i = .int .i64 (j : Int) ∧ wr.ownsRow base 5 1 (.slice A n c) n (cbs l) ∧ w5.grownBy wr (Value.slice A n c).ownBlock

set_option maxHeartbeats 1000000 in
set_option maxRecDepth 100000 in
theorem packNil_law (w : World) (A0 : Option Addr) (n0 c0 : Nat) (l0 : List UInt8) (most : Int) (h0 : Sl w w.heap.size A0 n0 c0 l0) :
    Calls Try.prog 7 #[.slice A0 n0 c0, .int .i64 most] w (Yes w) := by
  go_enter Try.func7, Try.ntmps7
  go_wp2_with fail
  refine (awake_any w).mono ?_
  rintro e w1 ⟨rfl, hb1⟩
  have h0' := h0.on hb1 (Nat.le_refl _)
  clear h0
  go_wp2_with fail
  refine (fail_nil w1 6).mono ?_
  rintro e w' ⟨rfl, rfl⟩
  go_wp2_with fail
  refine (inByte_nil w1).mono ?_
  rintro e w' ⟨rfl, rfl⟩
  go_wp2_with fail
  refine (inNum_nil w1).mono ?_
  rintro e w' ⟨rfl, rfl⟩
  go_wp2_with fail
  refine (inBytes_nil w1 most).mono ?_
  rintro e w' ⟨rfl, rfl⟩
  go_wp2_with fail
  refine (left_nil w1).mono ?_
  rintro e w' ⟨rfl, rfl⟩
  go_wp2_with fail
  refine (err_nil w1).mono ?_
  rintro e w' ⟨rfl, rfl⟩
  go_wp2_with fail
  refine (end_nil w1).mono ?_
  rintro e w' ⟨rfl, rfl⟩
  go_wp2_with fail
  refine (cut_any w1 A0 n0 c0 l0 50 h0' (by omega)).mono ?_
  rintro e w2 ⟨A3, n3, c3, rfl, hown3, hbel⟩
  have h3 := Sl.of_own hown3
  have hb2 := hb1.trans (hbel.mono hb1.size)
  have hl3 : (l0.take 50).length ≤ 50 := by rw [List.length_take]; omega
  generalize l0.take 50 = p at *
  have hn3 : n3 ≤ 50 := by have := h3.len; omega
  clear hown3 hbel hb1 h0'
  have hpl : (byts p).length ≤ 60 := by
    unfold byts; rw [List.length_append]; have := num_len10 p.length (by unfold two64; omega); omega
  go_wp2_with fail
  refine (packBytes_any w2 none A3 0 0 n3 c3 [] p (Sl.nil_ _ _ _ _ (by unfold maxLen; omega)) h3 (by simp; omega)).mono ?_
  rintro e w3 ⟨A4, n4, c4, rfl, hown4, hbel⟩
  rw [List.nil_append] at hown4
  have h4 := Sl.of_own hown4
  have h3' := h3.below hbel (Nat.le_refl _)
  have hb3 := hb2.trans (hbel.mono hb2.size)
  have hz23 := hbel.size
  have hn4 : n4 ≤ 60 := by have := h4.len; omega
  clear hbel h3
  go_wp2_with fail
  refine (of_new w3 A4 n4 c4 (byts p) h4 (by omega)).mono ?_
  rintro e w4 ⟨g1, A5, n5, c5, hg1, rfl, hin1, hbel, hA5⟩
  have h4' := h4.on hbel (Nat.le_refl _)
  have h3 := h3'.below hbel hz23
  have hb4 := hb3.trans (hbel.mono hb3.size)
  have hown4' := hown4.kept (row := none) (only_below hbel none) (by cases (Value.slice A4 n4 c4).ownBlock <;> simp)
  have hz34 := hbel.size
  have hq4 : ∀ k, (Value.slice A4 n4 c4).ownBlock = some k → w2.heap.size ≤ k ∧ k < w3.heap.size := fun k hk => hown4.lt k hk
  clear hbel h4 h3' hown4 hA5
  go_wp2_with fail
  refine (of_new w4 A4 n4 c4 (byts p) h4' (by omega)).mono ?_
  rintro e w5 ⟨g2, A6, n6, c6, hg2, rfl, hin2, hbel, hA6⟩
  have h3' := h3.below hbel (by omega)
  have hb5 := hb4.trans (hbel.mono hb4.size)
  have hown4 := hown4'.kept (row := none) (only_below hbel none) (by cases (Value.slice A4 n4 c4).ownBlock <;> simp)
  have hin1' := hin1.below hbel hin1.lt
  have hz45 := hbel.size
  have hlt1 := hin1.lt
  clear hbel h3 h4' hown4' hin1 hb3 hb4
  go_wp2_with fail
  refine (inBytes_any hin1' 50 (.inl (by rw [IntKind.wrap_u64]; omega))).mono ?_
  rintro e w6 ⟨A7, n7, c7, A8, n8, c8, rfl, hown8, hin7, hg7⟩
  have hsz := hin1'.lt
  have hzw := hb2.size
  have hb6 : Below w.heap.size w w6 := hb5.grown hg7 hb5.size (fun k hk => by injection hk with hk; omega)
  have hown4' := hown4.kept hg7 (by
    cases hv : (Value.slice A4 n4 c4).ownBlock with
    | none => exact .inl rfl
    | some k => refine .inr fun e => ?_; injection e with e; have := hq4 k hv; omega)
  have hin2' := hin2.keptN hg7 (fun k hk => by
    injection hk with hk
    subst hk
    exact ⟨by omega, fun ad had => by have := hA6 ad had; omega⟩)
  have h3 := h3'.grown hg7 (by omega) (fun k hk => by injection hk with hk; omega)
  have hlt2 := hin2.lt
  have hz56 := hg7.size
  have hq8 : ∀ k, (Value.slice A8 n8 c8).ownBlock = some k → w5.heap.size ≤ k ∧ k < w6.heap.size := fun k hk => hown8.lt k hk
  have hn8 : n8 ≤ 60 := by
    have h1 := (Sl.of_own hown8).len
    have h2 := stBytes_byts p [] 50 (by unfold two64; omega) (by omega)
    rw [List.append_nil] at h2
    rw [h2] at h1
    simp only at h1
    omega
  generalize (stBytes (byts p) 0 50).1 = lx at *
  clear hown4 hin2 h3' hin7 hg7 hin1' hb5 hb2
  have HA6 := Lib.hid hA6; clear hA6
  have HQ4 := Lib.hid hq4; clear hq4
  have HQ8 := Lib.hid hq8; clear hq8
  go_wp2
  go_loopg [58] n8 (fun k i wr => IncRel w6 w5.heap.size n8 c8 A8 k i wr)
  case atStart => exact ⟨0, lx, by omega, rfl, hown8, only_refl _ _⟩
  case round =>
    obtain ⟨j, l, hj, rfl, hown, hgr⟩ := hrel
    have HJ := Lib.hid hj; clear hj
    by_cases hlt : j < n8
    · obtain ⟨gx, x, rfl, hgb, hgl, hc, hf⟩ := own_at hown hlt
      have HI := Lib.hid (inc_byte x)
      go_wp2
      go_roundg (gk - 1)
      case measure => have := HJ.out; omega
      case rel =>
        refine ⟨j + 1, l.set j (x + 1), by have := HJ.out; omega, by go_num, ?_, only_trans hgr (only_set wr gx j _)⟩
        rw [HI.out]
        exact own_set hown j (x + 1)
    · have hown4 := hown4'.kept hgr (by
        cases hv : (Value.slice A4 n4 c4).ownBlock with
        | none => exact .inl rfl
        | some k => exact .inr fun e => by have h1 := HQ4.out k hv; have h2 := HQ8.out k e.symm; omega)
      have hin2 := hin2'.kept hgr (fun k hk => by have := HQ8.out k hk; omega)
      have h3' := h3.grown hgr (by omega) (fun k hk => by have := HQ8.out k hk; omega)
      have hb7 := hb6.grown hgr hb6.size (fun k hk => by have := HQ8.out k hk; omega)
      have hz6r := hgr.size
      clear hown4' hin2' h3 hb6 hgr hown hown8 HQ8
      go_wp2
      go_loopg [70] n4 (fun k i wr' => IncRel wr w2.heap.size n4 c4 A4 k i wr')
      case atStart => exact ⟨0, byts p, by omega, rfl, hown4, only_refl _ _⟩
      case round =>
        obtain ⟨j2, l2, hj2, rfl, hown2, hgr2⟩ := hrel
        have HJ2 := Lib.hid hj2; clear hj2
        by_cases hlt' : j2 < n4
        · obtain ⟨gx, x, rfl, hgb, hgl, hc, hf⟩ := own_at hown2 hlt'
          have HI := Lib.hid (inc_byte x)
          go_wp2
          go_roundg (gk - 1)
          case measure => have := HJ2.out; omega
          case rel =>
            refine ⟨j2 + 1, l2.set j2 (x + 1), by have := HJ2.out; omega, by go_num, ?_, only_trans hgr2 (only_set wr gx j2 _)⟩
            rw [HI.out]
            exact own_set hown2 j2 (x + 1)
        · have hin3 := hin2.keptN hgr2 (fun k hk => by
            have h1 := HQ4.out k hk
            exact ⟨by omega, fun ad had => by have := HA6.out ad had; omega⟩)
          have h3 := h3'.grown hgr2 (by omega) (fun k hk => by have := HQ4.out k hk; omega)
          have hb8 := hb7.grown hgr2 hb7.size (fun k hk => by have := HQ4.out k hk; omega)
          have hz7 := hgr2.size
          clear hin2 h3' hb7 hgr2 hown2 hown4 HQ4 HA6
          go_wp2_with fail
          refine (inBytes_any hin3 50 (.inl (by rw [IntKind.wrap_u64]; omega))).mono ?_
          rintro e w9 ⟨A10, n10, c10, A11, n11, c11, rfl, hown11, hin10, hg10⟩
          have hst := stBytes_byts p [] 50 (by unfold two64; omega) (by omega)
          rw [List.append_nil] at hst
          rw [hst] at hown11
          have h11 := Sl.of_own hown11
          have h3' := (h3.grown hg10 (by omega) (fun k hk => by injection hk with hk; omega)).more (B' := w9.heap.size) (by have := hg10.size; omega)
          have hb9 := hb8.grown hg10 hb8.size (fun k hk => by injection hk with hk; omega)
          clear hst hown11 hin10 hg10 h3 hb8 hin3
          go_wp2_with fail
          refine (same_yes w9 w9.heap.size A11 A3 n11 c11 n3 c3 p h11 h3').mono ?_
          rintro e w10 ⟨rfl, q, rfl⟩
          go_wp2
          go_ret
          exact ⟨rfl, below_drewN hb9 q⟩
end Go.Proofs.Ytmafdoodgkhgeaa
