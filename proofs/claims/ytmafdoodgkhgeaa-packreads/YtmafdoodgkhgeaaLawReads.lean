/-
  THE WALK of the law PackReads: whatever the bytes and however they are read, it returns true, and turns nothing that was there.
-/
import Derived.Test.YtmafdoodgkhgeaaRefIn
import Derived.Test.YtmafdoodgkhgeaaLawRows
import Derived.Deep.RegionHeld3
import Derived.Deep.CutBlock
import Derived.Deep.DeepCutAuto
namespace Go.Proofs.Ytmafdoodgkhgeaa
open Go.RowKit

/-- What is asked of the readers: a byte and a number. -/
structure Ak where
  d : UInt8
  N : Int
/-- A slice of such, two cells each, below block B. -/
structure Acts (w : World) (B : Nat) (A : Option Addr) (n c : Nat) (ks : List Ak) : Prop where
  len : ks.length = n
  le : n ≤ c
  max : c ≤ maxLen
  cell : 0 < n → ∃ b o, A = some ⟨b, o, none⟩ ∧ b < B ∧ ∀ (j : Nat) (k : Ak), ks[j]? = some k → w.cell? ⟨b, o + j * 2, none⟩ = some (.int .u8 (k.d.toNat : Int)) ∧ w.cell? ⟨b, o + j * 2 + 1, none⟩ = some (.int .i64 k.N) ∧ (-9223372036854775808 ≤ k.N ∧ k.N ≤ 9223372036854775807)
theorem Acts.at_ {w : World} {B : Nat} {A : Option Addr} {n c j : Nat} {ks : List Ak} (h : Acts w B A n c ks) (hj : j < n) :
    ∃ b o k, A = some ⟨b, o, none⟩ ∧ b < B ∧ w.cell? ⟨b, o + j * 2, none⟩ = some (.int .u8 (UInt8.toNat (Ak.d k) : Int)) ∧ w.cell? ⟨b, o + j * 2 + 1, none⟩ = some (.int .i64 (Ak.N k)) ∧ (-9223372036854775808 ≤ k.N ∧ k.N ≤ 9223372036854775807) := by
  obtain ⟨b, o, e, hb, hc⟩ := h.cell (by omega)
  have hl : j < ks.length := by have := h.len; omega
  have := hc j ks[j] (List.getElem?_eq_getElem hl)
  exact ⟨b, o, ks[j], e, hb, this.1, this.2.1, this.2.2⟩
theorem RefAt.kept {w w' : World} {g k B : Nat} {A : Option Addr} {n c a er : Nat} {p : List UInt8} (h : RefAt w g A n c a er p) (hg : w.grownBy w' (some k)) (hk : k ≠ g) (hs : Sl w' B A n c p) (hB : B ≤ g) : RefAt w' g A n c a er p :=
  ⟨(hg.block g h.lt (fun e => hk (by injection e with e; exact e.symm))).trans h.blk, hs.more hB, h.le, h.small⟩
theorem quiet_l {P : Program} {f : FuncId} {args : Array Value} {w : World} {n : Nat} {v : Value}
    (h : Calls P f args (w.drewN n) fun e w' => e = .returned v ∧ w.drewN n = w') : Calls P f args (w.drewN n) fun e w'' => e = .returned v ∧ ∃ m, w'' = w.drewN m :=
  h.mono fun _ _ ⟨he, hm⟩ => ⟨he, n, hm.symm⟩

/-- The two readers stand alike; the bytes handed in are as they were. -/
structure Alike2 (w0 : World) (B g1 g2 : Nat) (Am Ap : Option Addr) (nm cm np cp : Nat) (p : List UInt8) (wr : World) (er : Nat) (rest : List UInt8) : Prop where
  one : ∃ A n c, InAt wr g1 A n c er rest
  two : ∃ a, RefAt wr g2 Ap np cp a er p ∧ p.drop a = rest
  mine : Sl wr B Am nm cm p
  own : Sl wr B Ap np cp p
  low : Below B w0 wr
theorem own_grown {w w' : World} {base k : Nat} {v : Value} {n : Nat} {xs : List Value} (h : w.ownsRow base 5 1 v n xs) (hg : w.grownBy w' (some k)) (hk : k < base) : w'.ownsRow base 5 1 v n xs := by
  obtain ⟨h1, h2⟩ := h
  refine ⟨h1, ?_⟩
  rcases h2 with h2 | ⟨g, cap, cur, hv, hg', hh, r⟩
  · exact Or.inl h2
  · exact Or.inr ⟨g, cap, cur, hv, hg', by rw [hg.block g (Array.getElem?_eq_some_iff.1 hh).1 (fun e => by injection e with e; omega)]; exact hh, r⟩
theorem grown_cell {w w' : World} {k b i : Nat} {v : Value} (hg : w.grownBy w' (some k)) (hk : b ≠ k) (hb : b < w.heap.size) (hc : w.cell? ⟨b, i, none⟩ = some v) : w'.cell? ⟨b, i, none⟩ = some v :=
  (World.cell?_of_block (a := ⟨b, i, none⟩) (hg.block b hb (fun e => hk (by injection e)))).trans hc
theorem below_grown {w0 w w' : World} {B k : Nat} (h : Below B w0 w) (hg : w.grownBy w' (some k)) (hk : B ≤ k) (hB : B ≤ w.heap.size) : Below B w0 w' :=
  ⟨hg.os.trans h.os, hg.tape.trans h.tape, hg.output.trans h.output, Nat.le_trans h.size hg.size, fun i hi => (hg.block i (by omega) (fun e => by injection e with e; omega)).trans (h.block i hi)⟩
section
variable {w0 wr w' w'' : World} {B g1 g2 : Nat} {Am Ap : Option Addr} {nm cm np cp : Nat} {p : List UInt8} {er er' : Nat} {rest rest' : List UInt8}
theorem Alike2.alloc (h : Alike2 w0 B g1 g2 Am Ap nm cm np cp p wr er rest) (hB : B ≤ g1) (ob : Obj) : Alike2 w0 B g1 g2 Am Ap nm cm np cp p (wr.alloc ob) er rest := by
  obtain ⟨⟨A, n, c, hin⟩, ⟨a, href, hre⟩, hmine, hown, hlow⟩ := h
  have hz : B ≤ wr.heap.size := by have := hin.lt; omega
  have hb := (Below.refl wr.heap.size wr).alloc (Nat.le_refl _) ob
  exact ⟨⟨A, n, c, hin.below hb hin.lt⟩, ⟨a, href.below hb href.lt, hre⟩, hmine.alloc hz _, hown.alloc hz _, hlow.alloc hz _⟩
theorem Alike2.drewN (h : Alike2 w0 B g1 g2 Am Ap nm cm np cp p wr er rest) (k : Nat) : Alike2 w0 B g1 g2 Am Ap nm cm np cp p (wr.drewN k) er rest := by
  obtain ⟨⟨A, n, c, hin⟩, ⟨a, href, hre⟩, hmine, hown, hlow⟩ := h
  exact ⟨⟨A, n, c, hin.drewN k⟩, ⟨a, href.drewN k, hre⟩, hmine.drewN k, hown.drewN k, below_drewN hlow k⟩
/-- The one reader has gone on, the other has not yet. -/
structure Half (w0 : World) (B g1 g2 : Nat) (Am Ap : Option Addr) (nm cm np cp : Nat) (p : List UInt8) (w' : World) (a er er' : Nat) (rest' : List UInt8) : Prop where
  one : ∃ A n c, InAt w' g1 A n c er' rest'
  two : RefAt w' g2 Ap np cp a er p
  mine : Sl w' B Am nm cm p
  own : Sl w' B Ap np cp p
  low : Below B w0 w'
theorem Alike2.half {A : Option Addr} {n c a : Nat} (h : Alike2 w0 B g1 g2 Am Ap nm cm np cp p wr er rest) (hr : RefAt wr g2 Ap np cp a er p) (hB : B ≤ g1) (h12 : g1 < g2) (hi : InAt w' g1 A n c er' rest') (hg : wr.grownBy w' (some g1)) :
    Half w0 B g1 g2 Am Ap nm cm np cp p w' a er er' rest' := by
  have hz : B ≤ wr.heap.size := by have := hr.lt; omega
  have ho := h.own.past hg hz (fun k hk => by injection hk with hk; omega)
  exact ⟨⟨A, n, c, hi⟩, hr.kept hg (by omega) ho (by omega), h.mine.past hg hz (fun k hk => by injection hk with hk; omega), ho, below_grown h.low hg hB hz⟩
theorem Half.whole {a a' : Nat} (h : Half w0 B g1 g2 Am Ap nm cm np cp p w' a er er' rest') (hB : B ≤ g1) (h12 : g1 < g2) (hr : RefAt w'' g2 Ap np cp a' er' p) (hd : p.drop a' = rest') (hg : w'.grownBy w'' (some g2)) :
    Alike2 w0 B g1 g2 Am Ap nm cm np cp p w'' er' rest' := by
  obtain ⟨⟨A, n, c, hi⟩, h2, h3, h4, h5⟩ := h
  have hz : B ≤ w'.heap.size := by have := h2.lt; omega
  exact ⟨⟨A, n, c, hi.kept hg (fun k hk => by injection hk with hk; omega)⟩, ⟨a', hr, hd⟩, h3.past hg hz (fun k hk => by injection hk with hk; omega), h4.past hg hz (fun k hk => by injection hk with hk; omega), below_grown h5 hg (by omega) hz⟩
end
def CutRel (w0 : World) (B g1 g2 : Nat) (Am Ap : Option Addr) (nm cm np cp : Nat) (p : List UInt8) (wx : World) : Prop := ∃ (er : Nat) (rest : List UInt8), Alike2 w0 B g1 g2 Am Ap nm cm np cp p wx er rest
def ReadsRel (w0 : World) (B g1 g2 : Nat) (Am Ap : Option Addr) (nm cm np cp : Nat) (p : List UInt8) (N gk : Nat) (i : Value) (wr : World) : Prop :=
  ∃ (j er : Nat) (rest : List UInt8), gk + j = N ∧ i = .int .i64 (j : Int) ∧ Alike2 w0 B g1 g2 Am Ap nm cm np cp p wr er rest

theorem fail_code (N : Int) : ∃ k : Nat, wrap64 (1 + wrap64 ((IntKind.u64.wrap N).tmod 11)) = (k : Int) := by
  have hz : 0 ≤ IntKind.u64.wrap N := by rw [IntKind.wrap_u64]; omega
  rw [Int.tmod_eq_emod_of_nonneg hz]
  generalize IntKind.u64.wrap N = x at *
  refine ⟨(1 + x % 11).toNat, ?_⟩
  unfold wrap64
  omega
set_option maxHeartbeats 2000000 in
set_option maxRecDepth 100000 in
theorem packReads_law (w : World) (A0 : Option Addr) (n0 c0 : Nat) (l0 : List UInt8) (h0 : Sl w w.heap.size A0 n0 c0 l0) (A1 : Option Addr) (n1 c1 : Nat) (ks : List Ak) (h1 : Acts w w.heap.size A1 n1 c1 ks) :
    Calls Try.prog 5 #[.slice A0 n0 c0, .slice A1 n1 c1] w (Yes w) := by
  have hm1 := h1.max
  have hl1 := h1.le
  unfold maxLen at hm1
  have HA := Lib.hid h1; clear h1
  go_enter Try.func5, Try.ntmps5
  go_wp2_with fail
  refine (awake_any w).mono ?_
  rintro e w1 ⟨rfl, hb1⟩
  have h0' := h0.on hb1 (Nat.le_refl _)
  clear h0
  go_wp2_with fail
  refine (cut_any w1 A0 n0 c0 l0 200 h0' (by omega)).mono ?_
  rintro e w2 ⟨Ap, np, cp, rfl, hown2, hbel⟩
  have h2 := Sl.of_own hown2
  have hb2 := hb1.trans (hbel.mono hb1.size)
  have hl2 : (l0.take 200).length ≤ 200 := by rw [List.length_take]; omega
  generalize l0.take 200 = p at *
  clear hown2 hbel hb1 h0'
  go_wp2_with fail
  refine (join_one _ w2.heap.size Ap np cp p (by simp) (by simp) (by exact h2.onA _) (by omega)).mono ?_
  rintro e w3 ⟨Am, nm, cm, rfl, hown3, hbel⟩
  have h3 := Sl.of_own hown3
  have h2' := (h2.onA _).on hbel (Nat.le_refl _)
  have hb3 := (hb2.alloc hb2.size _).trans (hbel.mono (Nat.le_trans hb2.size (by simp)))
  clear hown3 hbel hb2 h2
  go_wp2_with fail
  refine (of_any w3 Am nm cm p h3 (by omega)).mono ?_
  rintro e w4 ⟨g1, A4, n4, c4, hg1, rfl, hin, hbel⟩
  have hm4 := h3.below hbel (Nat.le_refl _)
  have hp4 := h2'.below hbel (Nat.le_refl _)
  have hb4 := hb3.trans (hbel.mono hb3.size)
  have hz3 := hb3.size
  have hz34 := hbel.size
  have hnp : np ≤ 200 := by have := hp4.len; omega
  have hg1w := hin.lt
  clear h3 h2' hb3
  go_wp2
  have hst : Alike2 (w4.alloc (.cells #[.slice Ap np cp, .int .i64 0, .int .i64 0] 44)) w3.heap.size g1 w4.heap.size Am Ap nm cm np cp p (w4.alloc (.cells #[.slice Ap np cp, .int .i64 0, .int .i64 0] 44)) 0 p := by
    refine ⟨⟨A4, n4, c4, hin.below ((Below.refl w4.heap.size w4).alloc (Nat.le_refl _) _) hg1w⟩, ⟨0, ⟨heap_alloc_new w4 _, (hp4.more hz34).alloc (Nat.le_refl _) _, Nat.zero_le _, by omega⟩, rfl⟩, hm4.alloc hz34 _, hp4.alloc hz34 _, Below.refl _ _⟩
  have hbA : Below w.heap.size w (w4.alloc (.cells #[.slice Ap np cp, .int .i64 0, .int .i64 0] 44)) := hb4.alloc hb4.size _
  have hg2 : w3.heap.size ≤ w4.heap.size := hz34
  have HST := Lib.hid hst
  have hg12 : g1 < w4.heap.size := hg1w
  clear hst hin hbel hm4 hp4 hb4 hz34 hg1w
  go_loopg [25] n1 (fun gk i wr => ReadsRel (w4.alloc (.cells #[.slice Ap np cp, .int .i64 0, .int .i64 0] 44)) w3.heap.size g1 w4.heap.size Am Ap nm cm np cp p n1 gk i wr)
  case atStart => exact ⟨0, 0, p, by omega, rfl, HST.out⟩
  case round =>
    clear HST
    generalize (w4.alloc (.cells #[.slice Ap np cp, .int .i64 0, .int .i64 0] 44)) = wA at *
    generalize w4.heap.size = g2 at *
    obtain ⟨j, er, rest, hj, rfl, hal⟩ := hrel
    obtain ⟨⟨A5, n5, c5, hin⟩, ⟨a, href, hrest⟩, hmine, hown, hlow⟩ := hal
    have HJ := Lib.hid hj; clear hj
    by_cases hlt : j < n1
    · obtain ⟨b, o, k, rfl, hbb, hk0, hk1, hkb⟩ := HA.out.at_ hlt
      have hbr : Below w.heap.size w wr := hbA.trans (hlow.mono hz3)
      have hq0 := (hbr.cell (p := ⟨b, o + j * 2, none⟩) hbb).trans hk0
      have hq1 := (hbr.cell (p := ⟨b, o + j * 2 + 1, none⟩) hbb).trans hk1
      have HKB := Lib.hid hkb
      have hal : Alike2 wA w3.heap.size g1 g2 Am Ap nm cm np cp p wr er rest := ⟨⟨A5, n5, c5, hin⟩, ⟨a, href, hrest⟩, hmine, hown, hlow⟩
      have HAL := Lib.hid hal
      clear hk0 hk1 hkb hin hrest hmine hown hlow hal
      by_cases h40 : j < 40
      · have h40' : ¬ (40 : Int) ≤ (j : Int) := by omega
        have hg2r : g2 < wr.heap.size := href.lt
        clear href hbr
        go_upto_block 2 with fail
        have halB := HAL.out.alloc hg1 (Obj.cells #[Value.int IntKind.u8 (k.d.toNat : Int), Value.int IntKind.i64 k.N] 46)
        have hcN : (wr.alloc (Obj.cells #[Value.int IntKind.u8 (k.d.toNat : Int), Value.int IntKind.i64 k.N] 46)).cell? ⟨wr.heap.size, 1, none⟩ = some (.int .i64 k.N) := by
          rw [cell_of_row _ wr.heap.size 1 _ _ _ (heap_alloc_new wr _)]; rfl
        have hhB : wr.heap.size < (wr.alloc (Obj.cells #[Value.int IntKind.u8 (k.d.toNat : Int), Value.int IntKind.i64 k.N] 46)).heap.size := by simp
        have HALB := Lib.hid halB
        clear halB HAL hq0 hq1
        generalize (wr.alloc (Obj.cells #[Value.int IntKind.u8 (k.d.toNat : Int), Value.int IntKind.i64 k.N] 46)) = wB at *
        generalize wr.heap.size = h at *
        generalize k.N = N at *
        obtain ⟨t, ht⟩ : ∃ t : Int, (k.d.toNat : Int) % 5 = t := ⟨_, rfl⟩
        have htt : t = 0 ∨ t = 1 ∨ t = 2 ∨ t = 3 ∨ t = 4 := by omega
        rw [ht]
        clear ht
        generalize k.d.toNat = D at *
        clear k
        have HTT := Lib.hid htt
        clear htt
        go_cut [] (fun wx => CutRel wA w3.heap.size g1 g2 Am Ap nm cm np cp p wx)
        case first =>
          obtain ⟨⟨A6, n6, c6, hin⟩, ⟨a6, href, hre⟩, -, -, -⟩ := HALB.out
          rcases HTT.out with rfl | rfl | rfl | rfl | rfl
          · obtain ⟨⟨v, l', er'⟩, hst⟩ : ∃ x, stByte rest er = x := ⟨_, rfl⟩
            have c1 := inByte_any hin
            rw [hst] at c1
            have C1 := Lib.hid c1
            have HR := Lib.hid href
            have HE := Lib.hid hre
            have HS := Lib.hid hst
            clear c1 hst href hre hin HTT
            go_wp2_with fail
            refine C1.out.mono ?_
            rintro e w5 ⟨A7, n7, c7, rfl, hin7, hgr⟩
            have hhf := HALB.out.half HR.out hg1 hg12 hin7 hgr
            have c2 := refByte_any hhf.two
            rw [HE.out, HS.out] at c2
            have C2 := Lib.hid c2
            have HH := Lib.hid hhf
            clear c2 hhf hin7 hgr C1
            go_wp2_with fail
            refine C2.out.mono ?_
            rintro e w6 ⟨a7, rfl, hr7, hd7, hgr7⟩
            have HZ := Lib.hid (HH.out.whole hg1 hg12 hr7 hd7 hgr7)
            clear hr7 hd7 hgr7 C2
            go_wp2_with fail
            go_meet
            exact ⟨er', l', HZ.out⟩
          · obtain ⟨⟨v, l', er'⟩, hst⟩ : ∃ x, stNum rest er = x := ⟨_, rfl⟩
            have c1 := inNum_any hin
            rw [hst] at c1
            have C1 := Lib.hid c1
            have HR := Lib.hid href
            have HE := Lib.hid hre
            have HS := Lib.hid hst
            clear c1 hst href hre hin HTT
            go_wp2_with fail
            refine C1.out.mono ?_
            rintro e w5 ⟨A7, n7, c7, rfl, hin7, hgr⟩
            have hhf := HALB.out.half HR.out hg1 hg12 hin7 hgr
            have c2 := refNumber_any hhf.two
            rw [HE.out, HS.out] at c2
            have C2 := Lib.hid c2
            have HH := Lib.hid hhf
            clear c2 hhf hin7 hgr C1
            go_wp2_with fail
            refine C2.out.mono ?_
            rintro e w6 ⟨a7, rfl, hr7, hd7, hgr7⟩
            have HZ := Lib.hid (HH.out.whole hg1 hg12 hr7 hd7 hgr7)
            clear hr7 hd7 hgr7 C2
            go_wp2_with fail
            go_meet
            exact ⟨er', l', HZ.out⟩
          · obtain ⟨⟨v, l', er'⟩, hst⟩ : ∃ x, stBytes rest er N = x := ⟨_, rfl⟩
            have hm : IntKind.u64.wrap N = N ∨ N < 0 := by
              rcases Int.lt_or_le N 0 with hn | hn
              · exact .inr hn
              · refine .inl ?_
                have := HKB.out
                rw [IntKind.wrap_u64]; omega
            have c1 := inBytes_any (hin.drewN 1) N hm
            rw [hst] at c1
            have C1 := Lib.hid c1
            have HR := Lib.hid (href.drewN 1)
            have HALD := Lib.hid (HALB.out.drewN 1)
            have HE := Lib.hid hre
            have HS := Lib.hid hst
            have HM := Lib.hid hm
            have hcN1 : (wB.drewN 1).cell? ⟨h, 1, none⟩ = some (.int .i64 N) := hcN
            have hhB1 : h < (wB.drewN 1).heap.size := hhB
            clear c1 hst href hre hin HTT hm HALB HKB
            go_wp2_with fail
            go_region_held3 (fun w' => w'.cell? ⟨h, 1, none⟩ = some (.int .i64 N)) (first | assumption | exact hcN) (first
              | (go_at_call 20
                 refine C1.out.mono ?_
                 rintro e w5 ⟨A7, n7, c7, A8, n8, c8, rfl, hrow, hin7, hgr⟩
                 have hc5 := grown_cell hgr (by omega) hhB1 hcN1
                 have hz5 := Nat.lt_of_lt_of_le hhB1 hgr.size
                 have hhf := HALD.out.half HR.out hg1 hg12 hin7 hgr
                 have hzB : g2 < (wB.drewN 1).heap.size := HR.out.lt
                 have c2 := refSome_any hhf.two N HM.out
                 rw [HE.out, HS.out] at c2
                 have C2 := Lib.hid c2
                 have HH := Lib.hid hhf
                 have HROW := Lib.hid hrow
                 clear c2 hhf hin7 hgr C1 hrow)
              | (go_at_call 25
                 refine C2.out.mono ?_
                 rintro e w6 ⟨a9, A9, n9, c9, rfl, hs9, hr9, hd9, hgr9⟩
                 have hc6 := grown_cell hgr9 (by omega) hz5 hc5
                 have hs8 := Sl.of_own (own_grown HROW.out hgr9 hzB)
                 have c3 := same_yes w6 w6.heap.size A8 A9 n8 c8 n9 c9 v hs8 hs9
                 have C3 := Lib.hid c3
                 have HZ := Lib.hid (HH.out.whole hg1 hg12 hr9 hd9 hgr9)
                 clear hr9 hd9 hgr9 C2 hs8 c3 hs9)
              | (go_at_call 13
                 refine C3.out.mono ?_
                 rintro e w7 ⟨rfl, q, rfl⟩
                 have hc7 : (w6.drewN q).cell? ⟨h, 1, none⟩ = some (.int .i64 N) := hc6
                 clear C3))
            all_goals (
              go_wp2_with fail
              go_meet
              exact ⟨er', l', HZ.out.drewN q⟩)
          · have HR := Lib.hid href
            have HI := Lib.hid hin
            have HE := Lib.hid hre
            clear href hin hre HTT
            go_wp2_with fail
            obtain ⟨k, hk⟩ := fail_code N
            rw [hk]
            clear hk
            refine (fail_any HI.out k).mono ?_
            rintro e w5 ⟨A7, n7, c7, rfl, hin7, hgr⟩
            have HH := Lib.hid (HALB.out.half HR.out hg1 hg12 hin7 hgr)
            clear hin7 hgr
            go_wp2_with fail
            refine (refFail_any HH.out.two k).mono ?_
            rintro e w6 ⟨rfl, hr7, hgr7⟩
            have HZ := Lib.hid (HH.out.whole hg1 hg12 hr7 HE.out hgr7)
            clear hr7 hgr7
            go_wp2_with fail
            go_meet
            exact ⟨_, _, HZ.out⟩
          · obtain ⟨er', hst⟩ : ∃ x, endN rest er = x := ⟨_, rfl⟩
            have c1 := end_any hin
            rw [hst] at c1
            have C1 := Lib.hid c1
            have HR := Lib.hid href
            have HE := Lib.hid hre
            have HS := Lib.hid hst
            clear c1 hst href hre hin HTT
            go_wp2_with fail
            refine C1.out.mono ?_
            rintro e w5 ⟨A7, n7, c7, rfl, hin7, hgr⟩
            have hhf := HALB.out.half HR.out hg1 hg12 hin7 hgr
            have c2 := refEnd_any hhf.two
            rw [HE.out, HS.out] at c2
            have C2 := Lib.hid c2
            have HH := Lib.hid hhf
            clear c2 hhf hin7 hgr C1
            go_wp2_with fail
            refine C2.out.mono ?_
            rintro e w6 ⟨a7, rfl, hr7, hd7, hgr7⟩
            have HZ := Lib.hid (HH.out.whole hg1 hg12 hr7 hd7 hgr7)
            clear hr7 hd7 hgr7 C2
            go_wp2_with fail
            go_meet
            exact ⟨er', rest, HZ.out⟩
        case rest =>
          obtain ⟨er', rest', ⟨A6, n6, c6, hin⟩, ⟨a6, href, hre⟩, hmine, hown, hlow⟩ := hcut
          have hal : Alike2 wA w3.heap.size g1 g2 Am Ap nm cm np cp p wc er' rest' := ⟨⟨A6, n6, c6, hin⟩, ⟨a6, href, hre⟩, hmine, hown, hlow⟩
          have hc1 := href.cell1
          have hc2 := href.cell2
          have hle := href.le
          have hsub : (np : Int) - (a6 : Int) = (n6 : Int) := by
            have h1 := hin.sl.len
            have h2 := hown.len
            rw [← hre, List.length_drop] at h1
            omega
          have hw : IntKind.i64.wrap ((np : Int) - (a6 : Int)) = (n6 : Int) := by rw [hsub]; rw [IntKind.wrap_i64]; omega
          have HE : Hid (∀ q, Calls Try.prog 17 #[.pointer (some ⟨g1, 0, none⟩)] (wc.drewN q) fun en w'' => en = .returned (.int .i64 (er' : Int)) ∧ ∃ m, w'' = wc.drewN m) := fun q => quiet_l (err_any (hin.drewN q))
          have HL : Hid (∀ q, Calls Try.prog 18 #[.pointer (some ⟨g1, 0, none⟩)] (wc.drewN q) fun en w'' => en = .returned (.int .i64 (n6 : Int)) ∧ ∃ m, w'' = wc.drewN m) := fun q => quiet_l (left_any (hin.drewN q))
          have HAL6 := Lib.hid hal
          clear hin href hre hmine hown hlow hal HALB hcN hhB HTT
          go_wp2_with fail
          go_quiet ((first | (go_at_call 17; with_reducible exact HE.out _) | (go_at_call 18; with_reducible exact HL.out _)))
          clear HE HL
          go_wp2
          go_roundg (gk - 1)
          case measure => have := HJ.out; omega
          case rel => exact ⟨j + 1, er', rest', by have := HJ.out; omega, by go_num, HAL6.out.drewN _⟩
      · have h40' : (40 : Int) ≤ (j : Int) := by omega
        clear href
        go_wp2_with fail
        have halB := HAL.out.alloc hg1 (Obj.cells #[Value.int IntKind.u8 (k.d.toNat : Int), Value.int IntKind.i64 k.N] 46)
        refine (same_yes _ w3.heap.size Am Ap nm cm np cp p halB.mine halB.own).mono ?_
        rintro e w6 ⟨rfl, q, rfl⟩
        go_wp2
        go_ret
        exact ⟨rfl, below_drewN (hbA.trans (halB.low.mono hz3)) q⟩
    · have hbr : Below w.heap.size w wr := hbA.trans (hlow.mono hz3)
      clear hin href hrest hlow
      go_wp2_with fail
      refine (same_yes wr w3.heap.size Am Ap nm cm np cp p hmine hown).mono ?_
      rintro e w6 ⟨rfl, q, rfl⟩
      go_wp2
      go_ret
      exact ⟨rfl, below_drewN hbr q⟩
end Go.Proofs.Ytmafdoodgkhgeaa
