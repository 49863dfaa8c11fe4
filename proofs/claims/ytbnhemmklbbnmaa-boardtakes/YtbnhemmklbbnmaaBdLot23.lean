/-
  TEXTS OF EARLIER ROUNDS, laid together: part 23.
  No statement is proved here.
-/
import Derived.Test.YtbnhemmklbbnmaaBdLot22
import Derived.Deep.Upon
import Derived.Test.YtbnhemmklbbnmaaBdLot14

/-! ## BoardCutNil -/
namespace Go.Proofs.Ytbnhemmklbbnmaa
open Go Go.RowKit Go.Sort

def CutNilRel (w : World) (R : List Rn) (rv_ : Value) (rn X : Nat) (gk : Nat) (v4 v5 vi : Value) (wr : World) : Prop :=
  ∃ k : Nat, gk + k = rn ∧ vi = .int .i64 (k : Int) ∧ v4 = .slice none 0 0 ∧ v5 = .slice none 0 0 ∧ wr.cell? ⟨X, 0, none⟩ = some (.slice none 0 0) ∧ wr.frozen? ⟨X, 0, none⟩ = false ∧ wr.ownsRow w.heap.size 47 2 rv_ rn (rvs R) ∧ RowKit.Below w.heap.size w wr
theorem nil_src (w : World) : Src Try.prog 1 37 (.slice none 0 0) 0 [] w := (Sn.nil_ w 0 none 0 1 (Nat.zero_le _)).src Try.underlying37 (fun _ h => by cases h)
set_option maxRecDepth 100000 in
set_option maxHeartbeats 4000000 in
theorem bcut_nil (w : World) (Ar : Option Addr) (rn rc : Nat) (R : List Rn) (hR : St w w.heap.size Ar rn rc R) (hrn : rn ≤ 1000) :
    Calls Try.prog 42 #[.slice none 0 0, .agg #[.slice Ar rn rc]] w (Ans w (.tuple #[.slice none 0 0, .slice none 0 0])) := by
  obtain ⟨i0, hi0, hz0, hz1, hz2⟩ := info_parts u64_info
  have HR := Lib.hid hR
  go_enter Try.func42, Try.ntmps42
  go_wp2_with fail
  have hb1 : RowKit.Below w.heap.size w ((w.alloc (Obj.cells #[.slice none 0 0] 37)).alloc (Obj.cells #[.slice Ar rn rc] 44)) := (below_box w _).trans ((below_box (w.alloc (Obj.cells #[.slice none 0 0] 37)) _).mono (by simp))
  have hXb : ((w.alloc (Obj.cells #[.slice none 0 0] 37)).alloc (Obj.cells #[.slice Ar rn rc] 44)).heap[w.heap.size]? = some (.cells #[.slice none 0 0] 37 (0, 0)) := (RowKit.Below.heap_alloc _ _ _ (by simp)).trans (heap_alloc_new w _)
  generalize (w.alloc (Obj.cells #[.slice none 0 0] 37)).alloc (Obj.cells #[.slice Ar rn rc] 44) = W1 at *
  have hXl := lt_at hXb
  refine (runs_any W1 Ar rn rc R (HR.out.on hb1 (Nat.le_refl _)).rs (by omega)).mono ?_
  rintro e w2 ⟨Aq, nq, cq, rfl, hown2, hb2⟩
  have hnq : nq = rn := by
    have h1 := hown2.1
    have h2 := HR.out.rs.len
    rw [rvs_len] at h1
    omega
  subst hnq
  have HLT : Hid (∀ q ∈ R, q.1 < two64 ∧ q.2 < two64) := HR.out.rs.lt
  have HB2 : Hid (RowKit.Below w.heap.size w w2) := hb1.trans (hb2.mono hb1.size)
  have HOW2 : Hid (w2.ownsRow w.heap.size 47 2 (.slice Aq nq cq) nq (rvs R)) := World.ownsRow.mono hown2 hb1.size
  have HX2 := Lib.hid ((hb2.block _ hXl).trans hXb)
  have HRX0 : Hid (∀ z, (Value.slice Aq nq cq).ownBlock = some z → z ≠ w.heap.size) := fun z hz e => by have := (hown2.lt z hz).1; omega
  obtain ⟨X, HX⟩ : ∃ z, Hid (z = w.heap.size) := ⟨_, rfl⟩
  have HRX : Hid (∀ z, (Value.slice Aq nq cq).ownBlock = some z → z ≠ X) := fun z hz => by rw [HX.out]; exact HRX0.out z hz
  rw [← HX.out] at HX2 ⊢
  clear HRX0
  clear hb1 hXb hXl hb2 hown2 HR
  go_wp2_with fail
  go_loopg [4, 5, 16] nq (fun gk v4 v5 vi wr => CutNilRel w R (.slice Aq nq cq) nq X gk v4 v5 vi wr)
  case atStart => exact ⟨0, by omega, rfl, rfl, rfl, cell_at HX2.out 0 rfl, frz_blk HX2.out, HOW2.out, HB2.out⟩
  case round =>
    obtain ⟨k, hg, rfl, rfl, rfl, hX, hXf, hrr, hbel⟩ := hrel
    have HG := Lib.hid hg
    have HXF := Lib.hid hXf
    have HRR := Lib.hid hrr
    have HBEL := Lib.hid hbel
    clear hg hXf hrr hbel
    by_cases hk : k < nq
    · have hkI : (k : Int) < (nq : Int) := by omega
      have hk0 : (0 : Int) ≤ (k : Int) := by omega
      obtain ⟨b, o, r, he, hbB, hrk, hr0, hr1, hl0, hl1⟩ := (Rs.of_own HRR.out HLT.out).at_ hk
      subst he
      obtain ⟨r0, r1⟩ := r
      simp only at hr0 hr1 hl0 hl1
      have hXz := World.block_lt_of_cell? wr _ hX
      clear hrk
      go_wp2_with fail
      have hbx := below_box wr (.cells #[.int .u64 (r0 : Int), .int .u64 (r1 : Int)] 47)
      have hRb := heap_alloc_new wr (.cells #[.int .u64 (r0 : Int), .int .u64 (r1 : Int)] 47)
      have hz3 : (wr.alloc (.cells #[.int .u64 (r0 : Int), .int .u64 (r1 : Int)] 47)).heap.size = wr.heap.size + 1 := by simp
      have hX3 := (hbx.cell (p := ⟨X, 0, none⟩) hXz).trans hX
      have HBX := Lib.hid hbx
      generalize wr.alloc (.cells #[.int .u64 (r0 : Int), .int .u64 (r1 : Int)] 47) = W3 at *
      have hbn := binary_any W3 0 none 0 0 r0 [] (Sn.nil_ W3 0 none 0 1 (Nat.zero_le _)) List.Pairwise.nil (by omega)
      rw [show lowN [] r0 = 0 from rfl] at hbn
      have HBN := Lib.hid hbn
      obtain ⟨Rb, HRB⟩ : ∃ z, Hid (z = wr.heap.size) := ⟨_, rfl⟩
      rw [← HRB.out] at hRb hz3 hXz ⊢
      clear hbn hbx hX hr0 hr1
      refine HBN.out.mono ?_
      rintro e w4 ⟨⟨fd, rfl⟩, rfl⟩
      go_wp2_with fail
      have hby := below_box W3 (.cells #[.int .i64 ((0 : Nat) : Int)] 3)
      have hF4 : (W3.alloc (.cells #[.int .i64 ((0 : Nat) : Int)] 3)).cell? ⟨Rb + 1, 0, none⟩ = some (.int .i64 ((0 : Nat) : Int)) := cell_last W3 _ _ _ 0 hz3
      have hX4 := (hby.cell (p := ⟨X, 0, none⟩) (show X < W3.heap.size by omega)).trans hX3
      have hR4 : (W3.alloc (.cells #[.int .i64 ((0 : Nat) : Int)] 3)).cell? ⟨Rb, 1, none⟩ = some (.int .u64 (r1 : Int)) := (hby.cell (p := ⟨Rb, 1, none⟩) (show Rb < W3.heap.size by omega)).trans (cell_at hRb 1 rfl)
      have HBY := Lib.hid hby
      try simp only [Int.ofNat_zero, Int.natCast_zero, Nat.cast_ofNat_Int] at hF4 hX4 hR4 HBY ⊢
      generalize W3.alloc (.cells #[.int .i64 0] 3) = W4 at *
      have hcs := csearch_any W4.drew X (Rb + 1) Rb 0 none 0 0 0 r1 [] hX4 hF4 hR4 (Sn.nil_ _ 0 none 0 1 (Nat.zero_le _)) List.Pairwise.nil (Nat.zero_le _) (by omega)
      rw [show upN [] r1 = 0 from rfl] at hcs
      simp only [Nat.sub_zero, Int.ofNat_zero] at hcs
      have HCS := Lib.hid hcs
      have hck : ∀ q, (W4.drew.drewN q).cell? ⟨X, 0, none⟩ = some (.slice none 0 0) ∧ (W4.drew.drewN q).cell? ⟨Rb + 1, 0, none⟩ = some (.int .i64 0) := fun q => ⟨hX4, hF4⟩
      clear hby hX3 hRb hcs
      go_region_held3 (fun w' => w'.cell? ⟨X, 0, none⟩ = some (.slice none 0 0) ∧ w'.cell? ⟨Rb + 1, 0, none⟩ = some (.int .i64 0)) (first | exact ⟨hX4, hF4⟩ | exact hck _) (first
        | (go_at_call 63; refine HCS.out.mono ?_; rintro e w5 ⟨rfl, q, rfl⟩))
      have HBZ : Hid (RowKit.Below wr.heap.size wr (W4.drewN (1 + q))) := below_drewN (HBX.out.trans (HBY.out.mono (by have := HBX.out.size; omega))) (1 + q)
      have hX5 : (W4.drewN (1 + q)).cell? ⟨X, 0, none⟩ = some (.slice none 0 0) := hX4
      have hF5 : (W4.drewN (1 + q)).cell? ⟨Rb + 1, 0, none⟩ = some (.int .i64 0) := hF4
      clear hX4 hF4 hR4 hck HCS
      generalize W4.drewN (1 + q) = W5 at *
      have hXf5 : W5.frozen? ⟨X, 0, none⟩ = false := (HBZ.out.frozen (p := ⟨X, 0, none⟩) (show X < wr.heap.size by rw [← HRB.out]; exact hXz)).trans HXF.out
      have hrun := fun ty => run_append_nothing (P := Try.prog) W5 37 37 ty 34 i0 Try.underlying37 hi0 none 0 0 (Nat.le_refl _) (.slice none 0 0) (by rw [hz1]; exact nil_src W5)
      have HRUN := Lib.hid hrun
      clear hrun
      go_wp2_with (first
        | (at_builtin; refine wpList_append_run _ rfl (.tmp 35) (.tmp 38) 37 37 rfl _ _ _ _ rfl rfl (HRUN.out _) ?_)
        | (at_builtin; refine wpList_append_run _ rfl (.tmp 40) (.tmp 44) 37 37 rfl _ _ _ _ rfl rfl (HRUN.out _) ?_))
      go_roundg (gk - 1)
      case measure => have := HG.out; omega
      case rel =>
        have o8 := Only.setCell W5 X 0 (.slice none 0 0)
        have hz5 := HBZ.out.size
        refine ⟨k + 1, by have := HG.out; omega, by go_num, rfl, rfl, World.cell?_setCell_same _ _ _ hX5, ?_, ?_, ?_⟩
        · rw [World.frozen?_setCell]
          exact hXf5
        · refine own_same HRR.out (fun z hz => ?_)
          have hzl := HRR.out.lt z hz
          exact (o8.block z (by omega) (HRX.out z hz)).trans (HBZ.out.block z hzl.2)
        · have hb := HBEL.out.trans (HBZ.out.mono HBEL.out.size)
          exact ⟨o8.os.trans hb.os, o8.tape.trans hb.tape, o8.output.trans hb.output, Nat.le_trans hb.size o8.size, fun q hq => (o8.block q (Nat.lt_of_lt_of_le hq hb.size) (by have := HX.out; omega)).trans (hb.block q hq)⟩
    · have hkI : ¬ (k : Int) < (nq : Int) := by omega
      have hrun := fun ty => run_append_nothing (P := Try.prog) wr 37 37 ty 34 i0 Try.underlying37 hi0 none 0 0 (Nat.le_refl _) (.slice none 0 0) (by rw [hz1]; exact nil_src wr)
      have HRUN := Lib.hid hrun
      clear hrun
      go_wp2_with (at_builtin; refine wpList_append_run _ rfl (.tmp 50) (.tmp 51) 37 37 rfl _ _ _ _ rfl rfl (HRUN.out _) ?_)
      go_ret2
      exact ⟨rfl, HBEL.out⟩
end Go.Proofs.Ytbnhemmklbbnmaa

/-! ## BoardInv -/
namespace Go.Proofs.Ytbnhemmklbbnmaa
open Go.RowKit Go.Sort Go.Maps

structure BI (w : World) (base bd f m last gm hm : Nat) (A : Option Addr) (n c : Nat) (Sa : Nat → Prop) (a : Nat) (G : List Gp) (gN hN : Nat) (gF hF : Nat → Option Value) (E : List En) (fl D : List Nat) : Prop where
  bp : BP w base bd f m last gm hm A n c Sa a G gN hN gF hF E fl
  bw : BW last G gN hN gF hF E D
  pr : Pr f m
section
variable {w w' : World} {base bd f m last gm hm : Nat} {A : Option Addr} {n c : Nat} {Sa Q : Nat → Prop} {a : Nat} {G : List Gp} {gN hN : Nat} {gF hF : Nat → Option Value} {E : List En} {fl D : List Nat} {g : Gp} {x : Nat}
theorem takeG_mbs_sub (P : Nat → Bool) (G : List Gp) : ((takeG P G).map (·.mb)).Sublist (G.map (·.mb)) := by
  unfold takeG
  refine (List.filter_sublist.map _).trans ?_
  rw [List.map_map]
  exact List.Sublist.refl _
theorem own_take (P : Nat → Bool) (bd gm hm : Nat) (G : List Gp) : ∀ k, k ∈ ownB bd gm hm (takeG P G) → k ∈ ownB bd gm hm G := fun k hk => by
  have h1 := takeG_gbs_sub P G
  have h2 := takeG_mbs_sub P G
  unfold ownB at hk ⊢
  exact (((h1.append h2).cons_cons _).cons_cons _ |>.cons_cons _).subset hk
theorem BI.drop (h : BI w base bd f m last gm hm A n c Sa a G gN hN gF hF E fl D) (hg : g ∈ G) (hx : x ∈ g.mem)
    (hb : if g.mem.erase x = [] then BP w' base bd f m last gm hm A n c Sa a (delG g.num (setMem g.num [] G)) (gN - 1) (hN - 1) (delF gF g.num) (delF hF x) (without g.num E) fl else BP w' base bd f m last gm hm A n c Sa a (setMem g.num (g.mem.erase x) G) gN (hN - 1) gF (delF hF x) E fl) :
    ∃ gN' gF', BI w' base bd f m last gm hm A n c Sa a (takeG (fun y => decide (y ≠ x)) G) gN' (hN - 1) gF' (delF hF x) (takeE (takeG (fun y => decide (y ≠ x)) G) E) fl (D.filter (fun y => decide (y ≠ x))) := by
  have ho := h.bw.others hg hx
  by_cases he : g.mem.erase x = []
  · rw [if_pos he] at hb
    have e1 := gdrop_del h.bw.nd hg ho h.bw.me (h.bw.md g hg) he
    rw [drop_E (G := G) (g := g) h.bw.idsG, e1] at hb
    exact ⟨_, _, hb, h.bw.drop_del hg hx he, h.pr⟩
  · rw [if_neg he] at hb
    have e1 := gdrop_set h.bw.nd hg ho h.bw.me (h.bw.md g hg) he
    have e2 : takeE (takeG (fun y => decide (y ≠ x)) G) E = E := takeE_all fun q hq => by
      rw [← e1, setMem_num]
      exact h.bw.idsG q hq
    have hs := h.bw.drop_set hg hx he
    rw [e1] at hb
    rw [e2] at hs ⊢
    exact ⟨_, _, hb, hs, h.pr⟩
/-- What a cut hands back, whatever the row. -/
def BCutB (w : World) (base : Nat) (A : Option Addr) (R : List Rn) (fl : List Nat) (e : Ending) (w' : World) : Prop :=
  ∃ (n' c' : Nat) (gA : Option Addr) (gn gc : Nat), e = .returned (.tuple #[.slice A n' c', .slice gA gn gc]) ∧ OwnN w' base A n' c' (fl.filter (fun x => !inR R x)) ∧ OwnN w' w.heap.size gA gn gc (fl.filter (inR R)) ∧ w.grownBy w' (Value.slice A 0 0).ownBlock
theorem cutB_any (w : World) (base : Nat) (A : Option Addr) (n c : Nat) (fl : List Nat) (h : OwnN w base A n c fl) (hinc : Inc fl) (hn : n ≤ 1000) (Ar : Option Addr) (rn rc : Nat) (R : List Rn) (hR : St w w.heap.size Ar rn rc R) (hrn : rn ≤ 1000) (hok : Okl R) :
    Calls Try.prog 42 #[.slice A n c, .agg #[.slice Ar rn rc]] w (BCutB w base A R fl) := by
  have hcf := cut_fold R hok.can.far hok.can.ok [] [] fl hinc
  simp only [List.nil_append] at hcf
  obtain ⟨hl, hrow⟩ := h
  rcases hrow with ⟨hv, rfl⟩ | ⟨g, cap, cur, hv, hgb, hcur, hnc, hcm, hcs, htk⟩
  · injection hv with e1 e2 e3
    subst e1 e3
    have hfl : fl = [] := List.eq_nil_of_length_eq_zero (by rw [nvs_len] at hl; omega)
    subst hfl
    refine (bcut_nil w Ar rn rc R hR hrn).mono ?_
    rintro e w' ⟨rfl, hb⟩
    exact ⟨0, 0, none, 0, 0, rfl, World.ownsRow_nil _ _ _ _, World.ownsRow_nil _ _ _ _, below_grown hb _⟩
  · injection hv with e1 e2 e3
    subst e1 e3
    have hfl : fl.length = n := by rw [nvs_len] at hl; omega
    refine (bcut_any w g n c fl cur.toList (by rw [Array.toArray_toList]; exact hcur) (by rw [Array.length_toList, hcs]; omega) (by rw [Nat.mul_one] at htk; exact htk) hnc hcm hfl hinc hn Ar rn rc R hR hrn hok.can.ok).mono ?_
    rintro e w' ⟨gA, gn, gc, rfl, hgo, ⟨cur2, k1, k2, k3⟩, ho⟩
    rw [hcf.1] at k3
    rw [hcf.2] at hgo
    refine ⟨_, c, gA, gn, gc, rfl, ?_, hgo, ⟨ho.os, ho.tape, ho.output, ho.size, fun k hk hne => ho.block k hk (fun e => hne (by rw [e]; rfl))⟩⟩
    rw [hcf.1]
    have hle : (fl.filter (fun x => !inR R x)).length ≤ c := Nat.le_trans (List.length_filter_le _ _) (by omega)
    refine ⟨by rw [nvs_len]; omega, .inr ⟨g, c, cur2.toArray, rfl, hgb, k1, hle, hcm, by simp [k2], ?_⟩⟩
    rw [Nat.mul_one]
    simpa using k3
end
end Go.Proofs.Ytbnhemmklbbnmaa

/-! ## BoardTake -/
namespace Go.Proofs.Ytbnhemmklbbnmaa
open Go.RowKit Go.Sort Go.Maps

theorem Only.toBelow2 {S : Nat → Prop} {B : Nat} {a b : World} (h : Only S a b) (hS : ∀ k, S k → B ≤ k) (hB : B ≤ a.heap.size) : RowKit.Below B a b :=
  ⟨h.os, h.tape, h.output, h.size, fun k hk => h.block k (by omega) (fun hs => by have := hS k hs; omega)⟩
theorem Only.grown {w w' : World} {r q : Option Nat} (ho : Only (fun k => some k = r) w w') (e : r = q) : w.grownBy w' q := ⟨ho.os, ho.tape, ho.output, ho.size, fun k hk hne => ho.block k hk (fun e2 => hne (e2.trans e))⟩
section
variable {w w' : World} {base bd f m last gm hm : Nat} {A : Option Addr} {n c : Nat} {Sa Q : Nat → Prop} {a : Nat} {G : List Gp} {gN hN : Nat} {gF hF : Nat → Option Value} {E : List En} {fl D : List Nat} {g : Gp} {x : Nat}
def TakeRel (w : World) (base bd f m last gm hm : Nat) (A : Option Addr) (n' c' : Nat) (Sa : Nat → Prop) (a : Nat) (G : List Gp) (E : List En) (fl left gone : List Nat) (gA : Option Addr) (gn gc : Nat) (gk : Nat) (vi : Value) (wr : World) : Prop :=
  ∃ (k gN' hN' : Nat) (gF' hF' : Nat → Option Value), gk + k = gn ∧ vi = .int .i64 (k : Int) ∧ BI wr base bd f m last gm hm A n' c' Sa a (takeG (fun y => decide (y ∉ gone.take k)) G) gN' hN' gF' hF' (takeE (takeG (fun y => decide (y ∉ gone.take k)) G) E) left (fl.filter (fun y => decide (y ∉ gone.take k))) ∧
    OwnN wr w.heap.size gA gn gc gone ∧ Only (FtB bd gm hm A Sa G) w wr
def BTake (w : World) (base bd f m last gm hm : Nat) (A : Option Addr) (Sa : Nat → Prop) (a : Nat) (G : List Gp) (E : List En) (fl : List Nat) (R : List Rn) (e : Ending) (w' : World) : Prop :=
  ∃ (gA : Option Addr) (gn gc n' c' gN' hN' : Nat) (gF' hF' : Nat → Option Value), e = .returned (.slice gA gn gc) ∧ OwnN w' w.heap.size gA gn gc (fl.filter (inR R)) ∧
    BI w' base bd f m last gm hm A n' c' Sa a (takeG (fun x => !inR R x) G) gN' hN' gF' hF' (takeE (takeG (fun x => !inR R x) G) E) (fl.filter (fun x => !inR R x)) (fl.filter (fun x => !inR R x)) ∧ Only (FtB bd gm hm A Sa G) w w'
set_option maxRecDepth 100000 in
set_option maxHeartbeats 4000000 in
theorem btake_any (h : BI w base bd f m last gm hm A n c Sa a G gN hN gF hF E fl fl) (hinc : Inc fl) (hn : n ≤ 1000) (hla : last ≤ 90000) (Ar : Option Addr) (rn rc : Nat) (R : List Rn) (hR : St w w.heap.size Ar rn rc R) (hrn : rn ≤ 1000) (hok : Okl R) :
    Calls Try.prog 15 #[.pointer (some ⟨bd, 0, none⟩), .agg #[.slice Ar rn rc]] w (BTake w base bd f m last gm hm A Sa a G E fl R) := by
  have H := Lib.hid h
  have HR := Lib.hid hR
  have c5 := h.bp.c5
  have hbz := lt_at h.bp.blk
  have HFT := Lib.hid h.bp.ft_lt
  clear h hR
  go_enter Try.func15, Try.ntmps15
  go_wp2_with fail
  have hb1 := below_box w (.cells #[.slice Ar rn rc] 44)
  have d0 : (w.alloc (.cells #[.slice Ar rn rc] 44)).cell? ⟨w.heap.size, 0, none⟩ = some (.slice Ar rn rc) := cell_last w _ _ _ 0 rfl
  have d5 := (hb1.cell (p := ⟨bd, 5, none⟩) hbz).trans c5
  have HB1 := Lib.hid hb1
  clear hb1 c5
  generalize w.alloc (.cells #[.slice Ar rn rc] 44) = w1 at *
  have HB1P := Lib.hid (H.out.bp.below HB1.out)
  have HCUT : Hid (∀ v : World, Only (fun _ => False) w1 v → Calls Try.prog 42 #[.slice A n c, .agg #[.slice Ar rn rc]] v (BCutB v base A R fl)) := fun v hv => by
    have hb := HB1P.out.only hv (fun _ _ k => k.elim)
    refine cutB_any v base A n c fl hb.row hinc hn Ar rn rc R ?_ hrn hok
    have h1 := HR.out.on HB1.out (Nat.le_refl _)
    have hbv : RowKit.Below w1.heap.size w1 v := hv.toBelow2 (fun _ k => k.elim) (Nat.le_refl _)
    exact h1.on hbv (Nat.le_refl _)
  go_region_held3 (fun w' => w'.cell? ⟨bd, 5, none⟩ = some (.slice A n c) ∧ w'.cell? ⟨w.heap.size, 0, none⟩ = some (.slice Ar rn rc)) (first | exact ⟨d5, d0⟩ | exact hk2) (first
    | (go_at_call 42
       refine (HCUT.out _ (Only.refl _ w1).drew).mono ?_
       rintro e w2 ⟨n', c', gA, gn, gc, rfl, hrow, hgo, hgr⟩
       have ho2 : Only (fun k => some k = (Value.slice A 0 0).ownBlock) w1 w2 := (Only.refl _ w1).drew.trans (Only.of_grown hgr (fun k e => e)) (fun _ _ e => e)
       have e5 := ho2.block bd (lt_at HB1P.out.blk) (fun e => (HB1P.out.lo _ own_bd).2.2.2 (e.trans (own_block A 0 0 n c)))
       have e0 := ho2.block w.heap.size (World.block_lt_of_cell? _ _ d0) (fun e => by have := HFT.out _ (.inr (.inl e)); omega)
       have hk2 : w2.cell? ⟨bd, 5, none⟩ = some (.slice A n c) ∧ w2.cell? ⟨w.heap.size, 0, none⟩ = some (.slice Ar rn rc) := ⟨(World.cell?_of_block (a := ⟨bd, 5, none⟩) e5).trans d5, (World.cell?_of_block (a := ⟨w.heap.size, 0, none⟩) e0).trans d0⟩
       have HROW := Lib.hid hrow
       have HGO : Hid (OwnN w2 w.heap.size gA gn gc (fl.filter (inR R))) := World.ownsRow.mono hgo HB1.out.size
       have HO2 := Lib.hid ho2
       clear e5 e0 hrow hgo hgr ho2))
  have hf5 : w2.frozen? ⟨bd, 5, none⟩ = false := (World.frozen?_of_block (a := ⟨bd, 5, none⟩) (HO2.out.block bd (lt_at HB1P.out.blk) (fun e => (HB1P.out.lo _ own_bd).2.2.2 (e.trans (own_block A 0 0 n c))))).trans (HB1P.out.fz 5)
  have hk25 := hk2.1
  obtain ⟨left, HLEFT⟩ : ∃ z, Hid (z = fl.filter (fun x => !inR R x)) := ⟨_, rfl⟩
  obtain ⟨gone, HGONE⟩ : ∃ z, Hid (z = fl.filter (inR R)) := ⟨_, rfl⟩
  rw [← HLEFT.out] at HROW
  rw [← HGONE.out] at HGO
  have HBP3 := Lib.hid (HB1P.out.setRow HROW.out (HO2.out.grown (own_block A 0 0 n c)) (.inl rfl))
  have hd0 := hk2.2
  have HO3 : Hid (Only (FtB bd gm hm A Sa G) w (w2.setCell ⟨bd, 5, none⟩ (.slice A n' c'))) := ((Only.of_below (S := FtB bd gm hm A Sa G) HB1.out).trans HO2.out (fun _ _ e => .inr (.inl e))).trans (Only.setCell w2 bd 5 _) (fun _ _ e => .inl (by rw [e]; exact own_bd))
  have HGO3 : Hid (OwnN (w2.setCell ⟨bd, 5, none⟩ (.slice A n' c')) w.heap.size gA gn gc gone) := own_same HGO.out (fun b hb => (Only.setCell w2 bd 5 (.slice A n' c')).block b (HGO.out.lt b hb).2 (fun e => by have := (HGO.out.lt b hb).1; have := HFT.out bd (.inl own_bd); omega))
  have HFLD : Hid (fl.Nodup) := H.out.bw.dn
  have HGN : Hid (gone.length = gn) := by have := HGO.out.len; show _ = _; omega
  have hgn : gn ≤ 1000 := by
    have h1 : gone.length ≤ fl.length := by rw [HGONE.out]; exact List.length_filter_le _ _
    have h2 := H.out.bp.row.len
    have h3 := HGN.out
    omega
  have HGM : Hid (∀ x ∈ gone, x ∈ fl ∧ inR R x = true) := fun x hx => by rw [HGONE.out] at hx; exact List.mem_filter.1 hx
  have HGD : Hid gone.Nodup := by show gone.Nodup; rw [HGONE.out]; exact HFLD.out.sublist List.filter_sublist
  clear hk2 d0 d5 hbz hd0
  go_wp2_with fail
  go_loopg [26] gn (fun gk vi wr => TakeRel w base bd f m last gm hm A n' c' Sa a G E fl left gone gA gn gc gk vi wr)
  case atStart =>
    have e1 : takeG (fun y => decide (y ∉ gone.take 0)) G = G := takeG_all H.out.bw.me (fun _ _ x _ => by simp)
    have e2 : fl.filter (fun y => decide (y ∉ gone.take 0)) = fl := List.filter_eq_self.2 fun x _ => by simp
    refine ⟨0, gN, hN, gF, hF, by omega, rfl, ?_, HGO3.out, HO3.out⟩
    rw [e1, e2, takeE_all H.out.bw.idsG]
    exact ⟨HBP3.out, H.out.bw, H.out.pr⟩
  case round =>
    obtain ⟨k, gN', hN', gF', hF', hg, rfl, hbi, hgo, hon⟩ := hrel
    have HG := Lib.hid hg
    have HBI := Lib.hid hbi
    have HGO := Lib.hid hgo
    have HON := Lib.hid hon
    clear hg hbi hgo hon
    by_cases hk : k < gn
    · have hkI : (k : Int) < (gn : Int) := by omega
      have hk0 : (0 : Int) ≤ (k : Int) := by omega
      obtain ⟨x, hx⟩ : ∃ x, gone[k]? = some x := ⟨_, List.getElem?_eq_getElem (by have := HGN.out; omega)⟩
      obtain ⟨b, o, he, hgB, hcell⟩ := (Sn.of_own HGO.out).cell (by omega)
      have hc : wr.cell? ⟨b, o + k, none⟩ = some (.int .u64 (x : Int)) := hcell k (nv x) (by simp [nvs, hx])
      subst he
      have HTK : Hid (gone.take (k + 1) = gone.take k ++ [x]) := by show _ = _; rw [List.take_add_one, hx]; rfl
      have hxg := List.mem_of_getElem? hx
      have hxk : x ∉ gone.take k := fun h1 => by
        have h2 := HGD.out
        rw [← List.take_append_drop (k + 1) gone, HTK.out, List.nodup_append, List.nodup_append] at h2
        exact h2.1.2.2 x h1 x (by simp) rfl
      have hxD : x ∈ fl.filter (fun y => decide (y ∉ gone.take k)) := List.mem_filter.2 ⟨(HGM.out x hxg).1, by simpa using hxk⟩
      obtain ⟨g, hgG, hxm⟩ := (HBI.out.bw.hd x).1 hxD
      have hdr := bdrop_any HBI.out.bp HBI.out.bw.nd hgG (Nat.le_trans HBI.out.bw.elen hla) (by have := (HBI.out.bw.nl g hgG).2; omega) x (HBI.out.bw.dl x hxD) hxm (HBI.out.bw.md g hgG) (HBI.out.bw.hf g hgG x hxm) (HBI.out.bw.gf g hgG)
      have HDR := Lib.hid hdr
      have HM := Lib.hid (And.intro hgG hxm)
      clear hcell hxg hxk hxD hgG hxm hdr hx
      go_wp2_with fail
      refine HDR.out.mono ?_
      rintro e w5 ⟨rfl, hbp5, ho5⟩
      obtain ⟨gN5, gF5, hbi5⟩ := HBI.out.drop HM.out.1 HM.out.2 hbp5
      have HBI5 := Lib.hid hbi5
      have HO5 := Lib.hid ho5
      clear hbp5 ho5 hbi5 HDR
      go_wp2
      go_roundg (gk - 1)
      case measure => have := HG.out; omega
      case rel =>
        have hP : ∀ y, (decide (y ∉ gone.take k) && decide (y ≠ x)) = decide (y ∉ gone.take (k + 1)) := fun y => by
          rw [HTK.out]
          simp [Bool.decide_and, not_or]
        have hb := HBI5.out
        rw [takeE_takeE, takeG_takeG, List.filter_filter] at hb
        have hG : takeG (fun y => decide (y ∉ gone.take k) && decide (y ≠ x)) G = takeG (fun y => decide (y ∉ gone.take (k + 1))) G := takeG_congr fun _ _ y _ => hP y
        have hD : fl.filter (fun y => decide (y ≠ x) && decide (y ∉ gone.take k)) = fl.filter (fun y => decide (y ∉ gone.take (k + 1))) := List.filter_congr fun y _ => by rw [Bool.and_comm]; exact hP y
        rw [hG, hD] at hb
        refine ⟨k + 1, gN5, hN' - 1, gF5, _, by have := HG.out; omega, by go_num, hb, own_same HGO.out (fun z hz => HO5.out.block z (HGO.out.lt z hz).2 (fun e => ?_)), HON.out.trans HO5.out (fun z hz e => ?_)⟩
        · have h1 := (HGO.out.lt z hz).1
          rcases e with e | e
          · have := HFT.out z (.inl (own_take _ _ _ _ _ z e)); omega
          · have := HFT.out z (.inr (.inr e)); omega
        · rcases e with e | e
          · exact .inl (own_take _ _ _ _ _ z e)
          · exact .inr (.inr e)
    · have hkI : ¬ (k : Int) < (gn : Int) := by omega
      have HE : Hid (gone.take k = gone) := List.take_of_length_le (by have := HGN.out; have := HG.out; omega)
      go_wp2_with fail
      go_ret
      have hb := HBI.out
      rw [HE.out] at hb
      have hP : ∀ y ∈ fl, decide (y ∉ gone) = !inR R y := fun y hy => by
        have h1 : y ∈ gone ↔ inR R y = true := by rw [HGONE.out, List.mem_filter]; simp [hy]
        cases h2 : inR R y <;> simp [h1, h2]
      have hG : takeG (fun y => decide (y ∉ gone)) G = takeG (fun x => !inR R x) G := takeG_congr fun z hz y hy => hP y ((H.out.bw.hd y).2 ⟨z, hz, hy⟩)
      have hD : fl.filter (fun y => decide (y ∉ gone)) = fl.filter (fun x => !inR R x) := List.filter_congr hP
      rw [hG, hD, HLEFT.out] at hb
      have hgo := HGO.out
      rw [HGONE.out] at hgo
      exact ⟨gA, gn, gc, n', c', gN', hN', gF', hF', rfl, hgo, hb, HON.out⟩
end
end Go.Proofs.Ytbnhemmklbbnmaa

/-! ## BoardD -/
namespace Go.Proofs.Ytbnhemmklbbnmaa
open Go.RowKit Go.Sort Go.Maps

/-- A board: its blocks; the groups; the times; who is on his way. -/
structure Bd (w : World) (S : Nat → Prop) (base bd f m last : Nat) (G : List Gp) (E : List En) (fl : List Nat) : Prop where
  ex : ∃ gm hm A n c Sa a gN hN gF hF, BI w base bd f m last gm hm A n c Sa a G gN hN gF hF E fl fl ∧ ∀ k, S k ↔ FtB bd gm hm A Sa G k
  inc : Inc fl
/-- Those of a list that aren't on their way. -/
def newL (fl l : List Nat) : List Nat := freshL (memF fl) l
theorem freshL_congr {h1 h2 : Nat → Option Value} (h : ∀ k, (h1 k).isSome = (h2 k).isSome) (l : List Nat) : freshL h1 l = freshL h2 l := by
  unfold freshL
  have e : addN h1 = addN h2 := by
    funext mem q
    unfold addN
    rw [h q]
  rw [e]
theorem newL_mem (fl l : List Nat) (k : Nat) : k ∈ newL fl l ↔ k ∈ l ∧ k ∉ fl := by
  unfold newL
  rw [freshL_mem, memF_some]
  simp
theorem newL_nd (fl l : List Nat) : (newL fl l).Nodup := freshL_nd _ l
theorem newL_len (fl l : List Nat) : (newL fl l).length ≤ l.length := freshL_len _ l
theorem nodup_len : ∀ {a b : List Nat}, a.Nodup → (∀ x ∈ a, x ∈ b) → a.length ≤ b.length
  | [], _, _, _ => Nat.zero_le _
  | x :: a, b, hn, hs => by
    rw [List.nodup_cons] at hn
    have hx := hs x List.mem_cons_self
    have ih := nodup_len (a := a) (b := b.erase x) hn.2 fun y hy => (List.mem_erase_of_ne (a := y) (b := x) (fun (e : y = x) => hn.1 (by rw [← e]; exact hy))).2 (hs y (List.mem_cons_of_mem _ hy))
    rw [List.length_erase_of_mem hx] at ih
    have := List.length_pos_of_mem hx
    rw [List.length_cons]
    omega
theorem inc_nodup {l : List Nat} (h : Inc l) : l.Nodup := h.imp fun {_ _} hab => Nat.ne_of_lt hab
theorem inc_sortN {l : List Nat} (h : l.Nodup) : Inc (sortN l) := by
  have hp : (sortN l).Perm l := List.mergeSort_perm _ _
  have h1 := sortN_le l
  have h2 : (sortN l).Nodup := hp.nodup_iff.2 h
  exact (h1.and h2).imp fun {_ _} hab => by omega
theorem inc_filter {l : List Nat} (h : Inc l) (P : Nat → Bool) : Inc (l.filter P) := h.sublist List.filter_sublist
theorem sortN_inc {l : List Nat} (h : Inc l) : sortN l = l :=
  List.Perm.eq_of_pairwise (le := fun x y => x ≤ y) (fun _ _ _ _ h1 h2 => Nat.le_antisymm h1 h2) (sortN_le l) (h.imp fun {_ _} hab => Nat.le_of_lt hab) (List.mergeSort_perm _ _)
theorem inc_ext {a b : List Nat} (ha : Inc a) (hb : Inc b) (h : ∀ x, x ∈ a ↔ x ∈ b) : a = b :=
  List.Perm.eq_of_pairwise (le := fun x y => x ≤ y) (fun _ _ _ _ h1 h2 => Nat.le_antisymm h1 h2) (ha.imp fun {_ _} hab => Nat.le_of_lt hab) (hb.imp fun {_ _} hab => Nat.le_of_lt hab)
    ((List.perm_ext_iff_of_nodup (inc_nodup ha) (inc_nodup hb)).2 h)
theorem ids_setE (q : Nat) (t : Int) (E : List En) (h : q ∉ ids E) : (ids (setE q t E)).Perm (q :: ids E) := by
  unfold setE
  rw [without_none fun y hy e => h (List.mem_map.2 ⟨y, hy, e⟩)]
  exact (ins_perm (q, t) E).map _
theorem due_ids (f m : Nat) (now : Int) : ∀ (qs : List Nat) (s : List Gp × List En), qs.Nodup → (∀ q ∈ qs, q ∉ ids s.2) → Ord s.2 → (ids (qs.foldl (dueStep f m now) s).2).Perm (qs ++ ids s.2) ∧ Ord (qs.foldl (dueStep f m now) s).2
  | [], s, _, _, ho => ⟨List.Perm.refl _, ho⟩
  | q :: qs, s, hn, hd, ho => by
    rw [List.nodup_cons] at hn
    have hp := ids_setE q (now + (wt f m (triesOf q s.1) : Nat)) s.2 (hd q List.mem_cons_self)
    have ih := due_ids f m now qs (dueStep f m now s q) hn.2 (fun z hz hm => by
      have h1 := hp.subset hm
      rcases List.mem_cons.1 h1 with rfl | h1
      · exact hn.1 hz
      · exact hd z (List.mem_cons_of_mem _ hz) h1) (setE_ord ho)
    rw [List.foldl_cons]
    refine ⟨ih.1.trans ((hp.append_left qs).trans ?_), ih.2⟩
    exact List.perm_middle
section
variable {w w' : World} {S Q : Nat → Prop} {base bd f m last : Nat} {G : List Gp} {E : List En} {fl : List Nat} {gN hN : Nat} {gF hF : Nat → Option Value} {D : List Nat}
/-- Tries and times alone were turned. -/
theorem BW.same (h : BW last G gN hN gF hF E D) {G' : List Gp} {E' : List En} (hn : G'.map (·.num) = G.map (·.num)) (hm : ∀ x ∈ G', ∃ y ∈ G, x.num = y.num ∧ x.gb = y.gb ∧ x.mem = y.mem) (hgi : (G'.map (·.gb)).Nodup) (hi : (ids E').Perm (ids E)) (ho : Ord E') : BW last G' gN hN gF hF E' D := by
  have hr : ∀ y ∈ G, ∃ x ∈ G', x.num = y.num ∧ x.gb = y.gb ∧ x.mem = y.mem := fun y hy => by
    have h1 : y.num ∈ G'.map (·.num) := by rw [hn]; exact List.mem_map.2 ⟨y, hy, rfl⟩
    obtain ⟨x, hx, e⟩ := List.mem_map.1 h1
    obtain ⟨z, hz, e1, e2, e3⟩ := hm x hx
    obtain rfl := inj_of h.nd hz hy (by rw [← e1, e])
    exact ⟨x, hx, e1, e2, e3⟩
  have hgv : ∀ {x y : Gp}, x.gb = y.gb → gv x = gv y := fun e => by unfold gv; rw [e]
  refine ⟨hgi, by rw [hn]; exact h.nd, fun x hx => ?_, fun x hx => ?_, fun q hq => h.gn q (by rw [← hn]; exact hq), fun x hx k hk => ?_, fun k => ?_, h.hn, fun x hx => ?_, fun x hx => ?_, h.dn, h.dl, by rw [hn]; exact hi.trans h.ie, ho, ?_, h.gb, h.hb⟩
  · obtain ⟨y, hy, e1, e2, e3⟩ := hm x hx
    rw [e1]; exact h.nl y hy
  · obtain ⟨y, hy, e1, e2, e3⟩ := hm x hx
    rw [e1, hgv e2]; exact h.gf y hy
  · obtain ⟨y, hy, e1, e2, e3⟩ := hm x hx
    rw [hgv e2]; exact h.hf y hy k (by rw [← e3]; exact hk)
  · rw [h.hd]
    constructor
    · rintro ⟨y, hy, hk⟩
      obtain ⟨x, hx, e1, e2, e3⟩ := hr y hy
      exact ⟨x, hx, by rw [e3]; exact hk⟩
    · rintro ⟨x, hx, hk⟩
      obtain ⟨y, hy, e1, e2, e3⟩ := hm x hx
      exact ⟨y, hy, by rw [← e3]; exact hk⟩
  · obtain ⟨y, hy, e1, e2, e3⟩ := hm x hx
    rw [e3]; exact h.md y hy
  · obtain ⟨y, hy, e1, e2, e3⟩ := hm x hx
    rw [e3]; exact h.me y hy
  · have h1 := congrArg List.length hn
    rw [List.length_map, List.length_map] at h1
    have := h.gl
    omega
/-- One more group. -/
theorem BW.send (h : BW last G gN hN gF hF E D) {gb mb : Nat} {mem : List Nat} {t : Int} (hm0 : mem ≠ []) (hmn : mem.Nodup) (hmd : ∀ k ∈ mem, k ∉ D) (hml : ∀ k ∈ mem, k < two64) (hgi : ((G ++ [(⟨last + 1, 1, gb, mb, mem⟩ : Gp)]).map (·.gb)).Nodup) :
    BW (last + 1) (G ++ [⟨last + 1, 1, gb, mb, mem⟩]) (gN + 1) (hN + mem.length) (putF gF (last + 1) (.pointer (some ⟨gb, 0, none⟩))) (putAll hF mem (.pointer (some ⟨gb, 0, none⟩))) (setE (last + 1) t E) (sortN (D ++ mem)) := by
  have hne : ∀ y ∈ G, y.num ≠ last + 1 := fun y hy e => by have := (h.nl y hy).2; omega
  have hq : last + 1 ∉ ids E := fun e => by
    have h1 := h.ie.subset e
    obtain ⟨y, hy, e2⟩ := List.mem_map.1 h1
    exact hne y hy e2
  have hps : (sortN (D ++ mem)).Perm (D ++ mem) := List.mergeSort_perm _ _
  have hdn : (D ++ mem).Nodup := by
    rw [List.nodup_append]
    exact ⟨h.dn, hmn, fun a ha b hb e => hmd b hb (e ▸ ha)⟩
  refine ⟨hgi, ?_, fun y hy => ?_, fun y hy => ?_, fun q hq2 => ?_, fun y hy k hk => ?_, fun k => ?_, fun k hk => ?_, fun y hy => ?_, fun y hy => ?_, hps.nodup_iff.2 hdn, fun k hk => ?_, ?_, setE_ord h.ord, ?_, ?_, ?_⟩
  · rw [List.map_append, List.map_cons, List.map_nil, List.nodup_append]
    refine ⟨h.nd, by simp, fun a ha b hb e => ?_⟩
    obtain ⟨y, hy, rfl⟩ := List.mem_map.1 ha
    rw [List.mem_singleton] at hb
    exact hne y hy (e.trans hb)
  · rcases List.mem_append.1 hy with hy | hy
    · have := h.nl y hy; omega
    · rw [List.mem_singleton] at hy
      subst hy
      exact ⟨by show 1 ≤ last + 1; omega, Nat.le_refl _⟩
  · rcases List.mem_append.1 hy with hy | hy
    · unfold putF
      rw [if_neg (hne y hy)]
      exact h.gf y hy
    · rw [List.mem_singleton] at hy
      subst hy
      unfold putF
      rw [if_pos rfl]
      rfl
  · rw [List.map_append, List.map_cons, List.map_nil, List.mem_append, List.mem_singleton] at hq2
    unfold putF
    rw [if_neg (fun e => hq2 (.inr e))]
    exact h.gn q fun e => hq2 (.inl e)
  · unfold putAll
    rcases List.mem_append.1 hy with hy | hy
    · rw [if_neg (fun e => hmd k e ((h.hd k).2 ⟨y, hy, hk⟩))]
      exact h.hf y hy k hk
    · rw [List.mem_singleton] at hy
      subst hy
      rw [if_pos hk]
      rfl
  · rw [hps.mem_iff, List.mem_append, h.hd]
    constructor
    · rintro (⟨y, hy, hk⟩ | hk)
      · exact ⟨y, List.mem_append_left _ hy, hk⟩
      · exact ⟨_, List.mem_append_right _ (List.mem_singleton.2 rfl), hk⟩
    · rintro ⟨y, hy, hk⟩
      rcases List.mem_append.1 hy with hy | hy
      · exact .inl ⟨y, hy, hk⟩
      · rw [List.mem_singleton] at hy
        subst hy
        exact .inr hk
  · rw [hps.mem_iff, List.mem_append] at hk
    unfold putAll
    rw [if_neg (fun e => hk (.inr e))]
    exact h.hn k fun e => hk (.inl e)
  · rcases List.mem_append.1 hy with hy | hy
    · exact h.md y hy
    · rw [List.mem_singleton] at hy
      subst hy
      exact hmn
  · rcases List.mem_append.1 hy with hy | hy
    · exact h.me y hy
    · rw [List.mem_singleton] at hy
      subst hy
      exact hm0
  · rw [hps.mem_iff, List.mem_append] at hk
    rcases hk with hk | hk
    · exact h.dl k hk
    · exact hml k hk
  · refine (ids_setE _ t E hq).trans ?_
    rw [List.map_append, List.map_cons, List.map_nil]
    exact (h.ie.cons _).trans (List.perm_append_singleton _ _).symm
  · rw [List.length_append]
    have := h.gl
    simp
    omega
  · have := h.gb; omega
  · rw [hps.length_eq, List.length_append]
    have := h.hb
    omega
theorem Bd.lo (h : Bd w S base bd f m last G E fl) : ∀ k, S k → base ≤ k ∧ k < w.heap.size := by
  obtain ⟨gm, hm, A, n, c, Sa, a, gN, hN, gF, hF, hb, hS⟩ := h.ex
  intro k hk
  have hk := (hS k).1 hk
  refine ⟨?_, hb.bp.ft_lt k hk⟩
  rcases hk with hk | hk | hk
  · exact (hb.bp.lo k hk).1
  · exact (hb.bp.row.lt k (by rw [own_block A n c 0 0]; exact hk.symm)).1
  · exact (hb.bp.al.sl k hk).1
theorem Bd.only (h : Bd w S base bd f m last G E fl) (ho : Only Q w w') (hq : ∀ k, k < w.heap.size → Q k → ¬ S k) : Bd w' S base bd f m last G E fl := by
  obtain ⟨gm, hm, A, n, c, Sa, a, gN, hN, gF, hF, hb, hS⟩ := h.ex
  exact ⟨⟨gm, hm, A, n, c, Sa, a, gN, hN, gF, hF, ⟨hb.bp.only ho (fun k h1 h2 h3 => hq k h1 h2 ((hS k).2 h3)), hb.bw, hb.pr⟩, hS⟩, h.inc⟩
theorem Bd.below (h : Bd w S base bd f m last G E fl) (hb : RowKit.Below w.heap.size w w') : Bd w' S base bd f m last G E fl := h.only (Only.of_below (S := fun _ => False) hb) (fun _ _ k => k.elim)
theorem Bd.bdS (h : Bd w S base bd f m last G E fl) : S bd := by
  obtain ⟨gm, hm, A, n, c, Sa, a, gN, hN, gF, hF, hb, hS⟩ := h.ex
  exact (hS bd).2 (.inl own_bd)
theorem Bd.pr (h : Bd w S base bd f m last G E fl) : Pr f m := by
  obtain ⟨gm, hm, A, n, c, Sa, a, gN, hN, gF, hF, hb, hS⟩ := h.ex
  exact hb.pr
/-- What holds of a board's groups and times. -/
theorem Bd.pure (h : Bd w S base bd f m last G E fl) : ∃ gN hN gF hF, BW last G gN hN gF hF E fl := by
  obtain ⟨gm, hm, A, n, c, Sa, a, gN, hN, gF, hF, hb, hS⟩ := h.ex
  exact ⟨_, _, _, _, hb.bw⟩
theorem Bd.lt (h : Bd w S base bd f m last G E fl) : ∀ k ∈ fl, k < two64 := by
  obtain ⟨gN, hN, gF, hF, hb⟩ := h.pure
  exact hb.dl
theorem Bd.home (h : Bd w S base bd f m last G E fl) (k : Nat) : k ∈ fl ↔ ∃ g ∈ G, k ∈ g.mem := by
  obtain ⟨gN, hN, gF, hF, hb⟩ := h.pure
  exact hb.hd k
theorem bnewD (w : World) (f m : Nat) (hp : Pr f m) : Calls Try.prog 10 #[prv (f : Int) (m : Int)] w fun e w' => ∃ bd S, e = .returned (.tuple #[.pointer (some ⟨bd, 0, none⟩), .int .i64 0]) ∧ Bd w' S w.heap.size bd f m 0 [] [] [] ∧ RowKit.Below w.heap.size w w' := by
  refine (bnew_ok w f m hp).mono ?_
  rintro e w' ⟨bd, gm, hm, Sa, a, rfl, hb, hbel⟩
  refine ⟨bd, _, rfl, ⟨⟨gm, hm, none, 0, 0, Sa, a, 0, 0, fun _ => none, fun _ => none, ⟨hb, ?_, hp⟩, fun k => Iff.rfl⟩, List.Pairwise.nil⟩, hbel⟩
  refine ⟨List.nodup_nil, List.nodup_nil, ?_, ?_, fun _ _ => rfl, ?_, fun k => ?_, fun _ _ => rfl, ?_, ?_, List.nodup_nil, ?_, List.Perm.refl _, ord_nil, Nat.le_refl _, Nat.le_refl _, Nat.le_refl _⟩
  · intro x hx; cases hx
  · intro x hx; cases hx
  · intro x hx; cases hx
  · constructor
    · intro hk; cases hk
    · rintro ⟨x, hx, _⟩; cases hx
  · intro x hx; cases hx
  · intro x hx; cases hx
  · intro x hx; cases hx
theorem bsendD_none (h : Bd w S base bd f m last G E fl) (A' : Option Addr) (n' c' : Nat) (l : List Nat) (hs : Sn w w.heap.size A' n' c' 1 (nvs l)) (hl : ∀ x ∈ l, x < two64) (hn : n' ≤ 100000) (h0 : newL fl l = []) (now : Int) :
    Calls Try.prog 11 #[.pointer (some ⟨bd, 0, none⟩), .int .i64 now, .slice A' n' c'] w (Ans w (.int .u64 0)) := by
  obtain ⟨gm, hm, A, n, c, Sa, a, gN, hN, gF, hF, hb, hS⟩ := h.ex
  refine bsend_none hb.bp A' n' c' l hs hl hn ?_ now
  rw [← h0]
  refine freshL_congr (fun k => ?_) l
  rw [memF_some, Bool.eq_iff_iff, hb.bw.some_iff, decide_eq_true_iff]
def BSendD (w : World) (S : Nat → Prop) (base bd f m last : Nat) (G : List Gp) (E : List En) (fl mem : List Nat) (now : Int) (e : Ending) (w' : World) : Prop :=
  e = .returned (.int .u64 ((last + 1 : Nat) : Int)) ∧ ∃ S' gb mb, Bd w' S' base bd f m (last + 1) (G ++ [⟨last + 1, 1, gb, mb, mem⟩]) (setE (last + 1) (now + (wt f m 0 : Nat)) E) (sortN (fl ++ mem)) ∧ Only S w w' ∧ ∀ k, S' k → S k ∨ w.heap.size ≤ k
theorem bsendD_some (h : Bd w S base bd f m last G E fl) (A' : Option Addr) (n' c' : Nat) (l : List Nat) (hs : Sn w w.heap.size A' n' c' 1 (nvs l)) (hl : ∀ x ∈ l, x < two64) (h0 : newL fl l ≠ []) (now : Int) (hnow : -4611686018427387904 ≤ now ∧ now ≤ 4611686018427387904) (hla : last ≤ 90000) (hfl : fl.length + n' < 50) :
    Calls Try.prog 11 #[.pointer (some ⟨bd, 0, none⟩), .int .i64 now, .slice A' n' c'] w (BSendD w S base bd f m last G E fl (newL fl l) now) := by
  obtain ⟨gm, hm, A, n, c, Sa, a, gN, hN, gF, hF, hb, hS⟩ := h.ex
  have hfe : freshL hF l = newL fl l := by
    refine freshL_congr (fun k => ?_) l
    rw [memF_some, Bool.eq_iff_iff, hb.bw.some_iff, decide_eq_true_iff]
  have hnf : n = fl.length := by have := hb.bp.row.len; omega
  have hgl : gF (last + 1) = none := hb.bw.gn _ fun e => by
    obtain ⟨y, hy, e2⟩ := List.mem_map.1 e
    have := (hb.bw.nl y hy).2
    omega
  refine (bsend_some hb.bp A' n' c' l hs hl (by omega) (by rw [hfe]; exact h0) now hnow hb.pr (by omega) hb.bw.nd (fun x hx => (hb.bw.nl x hx).2) hgl (Nat.le_trans hb.bw.elen (by omega)) (Nat.le_trans hb.bw.gb (by omega)) (Nat.le_trans hb.bw.hb (by omega)) (by omega)).mono ?_
  rintro e w' ⟨rfl, gb, mb, A2, n2, c2, Sa', hbp, ho, hk⟩
  rw [hfe] at hbp hk
  refine ⟨rfl, _, gb, mb, ⟨⟨gm, hm, A2, n2, c2, Sa', a, _, _, _, _, ⟨hbp, hb.bw.send h0 (newL_nd fl l) (fun k hk => ((newL_mem fl l k).1 hk).2) (fun k hk => hl k ((newL_mem fl l k).1 hk).1) hbp.gbs, hb.pr⟩, fun k => Iff.rfl⟩, ?_⟩, ho.mono (fun k _ hk => (hS k).2 hk), fun k hk2 => ?_⟩
  · refine inc_sortN ?_
    rw [List.nodup_append]
    exact ⟨inc_nodup h.inc, newL_nd fl l, fun x hx y hy e => ((newL_mem fl l y).1 hy).2 (e ▸ hx)⟩
  · rcases hk k hk2 with e | e
    · exact .inl ((hS k).2 e)
    · exact .inr e
def BDueD (w : World) (S : Nat → Prop) (base bd f m last : Nat) (G : List Gp) (E : List En) (fl : List Nat) (now : Int) (is : List Nat) (e : Ending) (w' : World) : Prop :=
  ∃ (D : Option Addr) (dn dc : Nat) (rows : List Rw) (S' : Nat → Prop), e = .returned (.slice D dn dc) ∧ Bd w' S' base bd f m last (is.foldl (dueStep f m now) (G, restE now E)).1 (is.foldl (dueStep f m now) (G, restE now E)).2 fl ∧
    w'.ownsRow w.heap.size 37 1 (.slice D dn dc) dn (rows.map Rw.v) ∧ (∀ r ∈ rows, OwnN w' w.heap.size r.A r.n r.c r.l) ∧ rows.map (·.l) = is.map (fun q => sortN (memOf q G)) ∧ Only S w w' ∧ ∀ k, S' k → S k ∨ w.heap.size ≤ k
theorem bdueD (h : Bd w S base bd f m last G E fl) (hla : last ≤ 40000) (hfl : fl.length < 50) (htr : ∀ x ∈ G, x.tries < 4611686018427387904) (now : Int) (hnow : -4611686018427387904 ≤ now ∧ now ≤ 4611686018427387904) :
    Calls Try.prog 18 #[.pointer (some ⟨bd, 0, none⟩), .int .i64 now] w (BDueD w S base bd f m last G E fl now (ids (dueE now E))) := by
  obtain ⟨gm, hm, A, n, c, Sa, a, gN, hN, gF, hF, hb, hS⟩ := h.ex
  refine (bdue_any hb.bp hb.bw.ord (Nat.le_trans hb.bw.elen (by omega)) hb.bw.nd hb.bw.idsG hb.bw.gf (fun x hx => by have := (hb.bw.nl x hx).2; omega) (fun x hx => ?_) hb.bw.md hb.pr htr now hnow).mono ?_
  · have h1 : x.mem.length ≤ fl.length := by
      exact nodup_len (hb.bw.md x hx) fun k hk => (hb.bw.hd k).2 ⟨x, hx, hk⟩
    omega
  rintro e w' ⟨D, dn, dc, Sa', rows, rfl, hbp, hdr, hrr, hrw, ho, hk⟩
  have hbu := dueStep_bump f m now (ids (dueE now E)) (G, restE now E)
  have hE : dueE now E ++ restE now E = E := List.takeWhile_append_dropWhile
  have hids : ids (dueE now E) ++ ids (restE now E) = ids E := by
    conv => rhs; rw [← hE]
    unfold ids
    rw [List.map_append]
  have hnd := hb.bw.ord.nd
  rw [← hids, List.nodup_append] at hnd
  have hrO : Ord (restE now E) := ⟨hb.bw.ord.sort.sublist (List.dropWhile_sublist _), hnd.2.1⟩
  have hdi := due_ids f m now (ids (dueE now E)) (G, restE now E) hnd.1 (fun q hq hr => hnd.2.2 q hq q hr rfl) hrO
  simp only at hbu hdi
  rw [hids] at hdi
  have hbw := hb.bw.same hbu.1 (fun x hx => by
    obtain ⟨y, hy, e1, e2, e3, e4, e5⟩ := hbu.2 x hx
    exact ⟨y, hy, e1, e2, e4⟩) hbp.gbs hdi.1 hdi.2
  refine ⟨D, dn, dc, rows, _, rfl, ⟨⟨gm, hm, A, n, c, Sa', a, gN, hN, gF, hF, ⟨hbp, hbw, hb.pr⟩, fun k => Iff.rfl⟩, h.inc⟩, hdr, hrr, hrw, ho.mono (fun k _ hk => ?_), fun k hk2 => ?_⟩
  · rcases hk with hk | ⟨x, hx, rfl⟩
    · exact (hS k).2 (.inr (.inr hk))
    · exact (hS _).2 (.inl (own_gb hx))
  · rcases hk2 with hk2 | hk2 | hk2
    · refine .inl ((hS k).2 (.inl ?_))
      unfold ownB at hk2 ⊢
      rw [List.mem_cons, List.mem_cons, List.mem_cons, List.mem_append] at hk2 ⊢
      rcases hk2 with e | e | e | e | e
      · exact .inl e
      · exact .inr (.inl e)
      · exact .inr (.inr (.inl e))
      · obtain ⟨x, hx, rfl⟩ := List.mem_map.1 e
        obtain ⟨y, hy, e1, e2, e3, e4, e5⟩ := hbu.2 x hx
        exact .inr (.inr (.inr (.inl (List.mem_map.2 ⟨y, hy, e2.symm⟩))))
      · obtain ⟨x, hx, rfl⟩ := List.mem_map.1 e
        obtain ⟨y, hy, e1, e2, e3, e4, e5⟩ := hbu.2 x hx
        exact .inr (.inr (.inr (.inr (List.mem_map.2 ⟨y, hy, e3.symm⟩))))
    · exact .inl ((hS k).2 (.inr (.inl hk2)))
    · rcases hk k hk2 with e | e
      · exact .inl ((hS k).2 (.inr (.inr e)))
      · exact .inr e
def BTakeD (w : World) (S : Nat → Prop) (base bd f m last : Nat) (G : List Gp) (E : List En) (fl : List Nat) (R : List Rn) (e : Ending) (w' : World) : Prop :=
  ∃ (gA : Option Addr) (gn gc : Nat) (S' : Nat → Prop), e = .returned (.slice gA gn gc) ∧ OwnN w' w.heap.size gA gn gc (fl.filter (inR R)) ∧
    Bd w' S' base bd f m last (takeG (fun x => !inR R x) G) (takeE (takeG (fun x => !inR R x) G) E) (fl.filter (fun x => !inR R x)) ∧ Only S w w' ∧ ∀ k, S' k → S k
theorem btakeD (h : Bd w S base bd f m last G E fl) (hfl : fl.length ≤ 1000) (hla : last ≤ 90000) (Ar : Option Addr) (rn rc : Nat) (R : List Rn) (hR : St w w.heap.size Ar rn rc R) (hrn : rn ≤ 1000) (hok : Okl R) :
    Calls Try.prog 15 #[.pointer (some ⟨bd, 0, none⟩), .agg #[.slice Ar rn rc]] w (BTakeD w S base bd f m last G E fl R) := by
  obtain ⟨gm, hm, A, n, c, Sa, a, gN, hN, gF, hF, hb, hS⟩ := h.ex
  have hnf : n = fl.length := by have := hb.bp.row.len; omega
  refine (btake_any hb h.inc (by omega) hla Ar rn rc R hR hrn hok).mono ?_
  rintro e w' ⟨gA, gn, gc, n', c', gN', hN', gF', hF', rfl, hgo, hbi, ho⟩
  refine ⟨gA, gn, gc, _, rfl, hgo, ⟨⟨gm, hm, A, n', c', Sa, a, gN', hN', gF', hF', hbi, fun k => Iff.rfl⟩, inc_filter h.inc _⟩, ho.mono (fun k _ hk => (hS k).2 hk), fun k hk => (hS k).2 ?_⟩
  rcases hk with hk | hk
  · exact .inl (own_take _ _ _ _ _ k hk)
  · exact .inr hk
theorem btriesD_yes (h : Bd w S base bd f m last G E fl) {g : Gp} (hg : g ∈ G) {k : Nat} (hk : k ∈ g.mem) :
    Calls Try.prog 21 #[.pointer (some ⟨bd, 0, none⟩), .int .u64 (k : Int)] w fun e w' => e = .returned (.int .i64 (g.tries : Int)) ∧ w = w' := by
  obtain ⟨gm, hm, A, n, c, Sa, a, gN, hN, gF, hF, hb, hS⟩ := h.ex
  exact btries_yes hb.bp k (hb.bw.dl k ((hb.bw.hd k).2 ⟨g, hg, hk⟩)) hg (hb.bw.hf g hg k hk)
theorem btriesD_no (h : Bd w S base bd f m last G E fl) {k : Nat} (hk : k ∉ fl) (hk64 : k < two64) :
    Calls Try.prog 21 #[.pointer (some ⟨bd, 0, none⟩), .int .u64 (k : Int)] w fun e w' => e = .returned (.int .i64 (0 : Int)) ∧ w = w' := by
  obtain ⟨gm, hm, A, n, c, Sa, a, gN, hN, gF, hF, hb, hS⟩ := h.ex
  exact btries_no hb.bp k hk64 (hb.bw.hn k hk)
theorem bcountD (h : Bd w S base bd f m last G E fl) : Calls Try.prog 27 #[.pointer (some ⟨bd, 0, none⟩)] w fun e w' => e = .returned (.int .i64 (fl.length : Int)) ∧ w = w' := by
  obtain ⟨gm, hm, A, n, c, Sa, a, gN, hN, gF, hF, hb, hS⟩ := h.ex
  have hnf : n = fl.length := by have := hb.bp.row.len; omega
  subst hnf
  exact bcount_any hb.bp
theorem bflightD (h : Bd w S base bd f m last G E fl) (hfl : fl.length < 50) : Calls Try.prog 29 #[.pointer (some ⟨bd, 0, none⟩)] w (SaysS w 0 (ofL fl)) := by
  obtain ⟨gm, hm, A, n, c, Sa, a, gN, hN, gF, hF, hb, hS⟩ := h.ex
  have hnf : n = fl.length := by have := hb.bp.row.len; omega
  exact bflight_any hb.bp (by omega) hb.bw.dl
theorem bnextD (h : Bd w S base bd f m last G E fl) : Calls Try.prog 30 #[.pointer (some ⟨bd, 0, none⟩)] w fun e w' => e = .returned (nextV E) ∧ w = w' := by
  obtain ⟨gm, hm, A, n, c, Sa, a, gN, hN, gF, hF, hb, hS⟩ := h.ex
  exact bnext_any hb.bp hb.bw.ord.sort
end
end Go.Proofs.Ytbnhemmklbbnmaa

/-! ## BoardAwake -/
namespace Go.Proofs.Ytbnhemmklbbnmaa
open Go.RowKit Go.Sort Go.Maps

theorem inR_iff (L : List Rn) (x : Nat) : inR L x = true ↔ memR L x := by
  unfold inR memR
  rw [List.any_eq_true]
  simp only [Bool.and_eq_true, decide_eq_true_iff]
theorem inR_of (l : List Nat) (x : Nat) : inR (ofL l) x = decide (x ∈ l) := by
  rw [Bool.eq_iff_iff, inR_iff, of_mem, decide_eq_true_iff]
theorem of_len (l : List Nat) : (ofL l).length ≤ l.length := by
  have h := ofGo_len (sortN l) []
  have h2 : (sortN l).length = l.length := (List.mergeSort_perm l _).length_eq
  unfold ofL
  simp only [List.length_nil, Nat.zero_add] at h
  omega
theorem lit_nvs (w : World) (l : List Nat) (n : Nat) (hn : l.length = n) (hm : n ≤ maxLen) : Sn (w.alloc (.cells (nvs l).toArray 34)) (w.alloc (.cells (nvs l).toArray 34)).heap.size (some ⟨w.heap.size, 0, none⟩) n n 1 (nvs l) :=
  (lit_sn w 34 (nvs l) n 1 (by rw [nvs_len]; omega) hm).more (by simp)
theorem eqn_yes (w : World) (A A' : Option Addr) (n c n' c' : Nat) (L : List Nat) (h : Sn w w.heap.size A n c 1 (nvs L)) (h' : Sn w w.heap.size A' n' c' 1 (nvs L)) :
    Calls Try.prog 14 #[.slice A n c, .slice A' n' c'] w (Says w (.bool true)) := by
  have h1 := eqn_any w A A' n c n' c' L L h h'
  rwa [show decide (L = L) = true from by simp] at h1
theorem eqn_is (w : World) (A A' : Option Addr) (n c n' c' : Nat) (L M : List Nat) (b : Bool) (hb : decide (L = M) = b) (h : Sn w w.heap.size A n c 1 (nvs L)) (h' : Sn w w.heap.size A' n' c' 1 (nvs M)) :
    Calls Try.prog 14 #[.slice A n c, .slice A' n' c'] w (Says w (.bool b)) := hb ▸ eqn_any w A A' n c n' c' L M h h'
theorem St.len {w : World} {B : Nat} {A : Option Addr} {n c : Nat} {L : List Rn} (h : St w B A n c L) : L.length = n := h.rs.len
set_option maxRecDepth 100000 in
set_option maxHeartbeats 4000000 in
theorem awake13_any (w : World) : Calls Try.prog 8 #[] w (Says w (.bool true)) := by
  go_enter Try.func8, Try.ntmps8
  go_wp2_with fail
  have hn1 : Calls Try.prog 10 #[.agg #[.int .i64 2, .int .i64 10]] w _ := bnewD w 2 10 ⟨by omega, by omega, by omega⟩
  refine hn1.mono ?_
  clear hn1
  rintro e w1 ⟨bd, S1, rfl, hb1, hbel1⟩
  have HB1 := Lib.hid hb1
  have HL1 := Lib.hid hbel1
  clear hb1 hbel1
  go_wp2_with fail
  have hsn : Sn (w1.alloc (.cells #[.int .u64 5, .int .u64 7] 34)) (w1.heap.size + 1) (some ⟨w1.heap.size, 0, none⟩) 2 2 1 (nvs [5, 7]) := lit_sn w1 34 (nvs [5, 7]) 2 1 rfl (by unfold maxLen; omega)
  have hz : (w1.alloc (.cells #[.int .u64 5, .int .u64 7] 34)).heap.size = w1.heap.size + 1 := by simp
  have hbx := below_box w1 (.cells #[.int .u64 5, .int .u64 7] 34)
  have HB2 := Lib.hid (HB1.out.below hbx)
  have HL2 := Lib.hid (HL1.out.trans (hbx.mono HL1.out.size))
  rw [← hz] at hsn
  have hs := bsendD_some HB2.out _ 2 2 [5, 7] hsn (by unfold two64; simp) (by decide) 0 (by omega) (by omega) (by simp)
  have e1 : newL [] [5, 7] = [5, 7] := by decide
  have e2 : setE (0 + 1) (0 + ((wt 2 10 0 : Nat) : Int)) [] = [(1, 2)] := by decide
  have e3 : sortN ([] ++ [5, 7]) = [5, 7] := sortN_inc (by unfold Inc; decide)
  unfold BSendD at hs
  rw [e1, e2, e3] at hs
  have HS := Lib.hid hs
  clear hs hsn hbx e1 e2 e3
  generalize w1.alloc (.cells #[.int .u64 5, .int .u64 7] 34) = w2 at *
  refine HS.out.mono ?_
  rintro e w3 ⟨rfl, S3, gb, mb, hb3, ho3, hk3⟩
  have HB3 := Lib.hid hb3
  have HL3 := Lib.hid (HL2.out.trans (ho3.toBelow2 (fun k hk => (HB2.out.lo k hk).1) HL2.out.size))
  clear hb3 ho3 hk3 HS hz
  go_wp2_with fail
  have hsn4 : Sn (w3.alloc (.cells #[.int .u64 5] 34)) (w3.alloc (.cells #[.int .u64 5] 34)).heap.size (some ⟨w3.heap.size, 0, none⟩) 1 1 1 (nvs [5]) := lit_nvs w3 [5] 1 rfl (by unfold maxLen; omega)
  have hbx4 := below_box w3 (.cells #[.int .u64 5] 34)
  have HB4 := Lib.hid (HB3.out.below hbx4)
  have HL4 := Lib.hid (HL3.out.trans (hbx4.mono HL3.out.size))
  clear hbx4
  generalize w3.alloc (.cells #[.int .u64 5] 34) = w4 at *
  refine (ofA_any w4 _ 1 1 [5] hsn4 (by unfold two64; simp) (by omega)).mono ?_
  rintro e w5 ⟨Ar, rn, rc, rfl, hst, hne, hb5⟩
  have hb5' := HB4.out.below hb5
  have HL5 := Lib.hid (HL4.out.trans (hb5.mono HL4.out.size))
  have hrn : rn ≤ 1000 := by
    have h1 := hst.len
    have h2 := of_len [5]
    simp only [List.length_cons, List.length_nil] at h2
    omega
  have ht := btakeD hb5' (by simp) (by omega) Ar rn rc (ofL [5]) hst hrn (of_ok (by unfold two64; simp))
  have f1 : [5, 7].filter (inR (ofL [5])) = [5] := by
    rw [List.filter_congr (q := fun x => decide (x ∈ [5])) (fun x _ => inR_of [5] x)]
    decide
  have f2 : [5, 7].filter (fun x => !inR (ofL [5]) x) = [7] := by
    rw [List.filter_congr (q := fun x => !decide (x ∈ [5])) (fun x _ => by rw [inR_of])]
    decide
  have f3 : takeG (fun x => !inR (ofL [5]) x) ([] ++ [(⟨0 + 1, 1, gb, mb, [5, 7]⟩ : Gp)]) = [⟨1, 1, gb, mb, [7]⟩] := by
    rw [takeG_congr (Q := fun x => !decide (x ∈ [5])) (fun _ _ x _ => by rw [inR_of])]
    rfl
  have f4 : takeE [(⟨1, 1, gb, mb, [7]⟩ : Gp)] [(1, 2)] = [(1, 2)] := rfl
  unfold BTakeD at ht
  rw [f1, f2, f3, f4] at ht
  have HT := Lib.hid ht
  have HB5 := Lib.hid hb5'
  clear ht f1 f2 f3 f4 hst hne hb5 hb5' hrn hsn4
  go_wp2_with fail
  refine HT.out.mono ?_
  rintro e w6 ⟨gA, gn, gc, S6, rfl, hgo, hb6, ho6, hk6⟩
  have HL6 := Lib.hid (HL5.out.trans (ho6.toBelow2 (fun k hk => (HB5.out.lo k hk).1) HL5.out.size))
  have hbx7 := below_box w6 (.cells #[.int .u64 5] 34)
  have hz7 : (w6.alloc (.cells #[.int .u64 5] 34)).heap.size = w6.heap.size + 1 := by simp
  have hsn7 : Sn (w6.alloc (.cells #[.int .u64 5] 34)) (w6.alloc (.cells #[.int .u64 5] 34)).heap.size (some ⟨w6.heap.size, 0, none⟩) 1 1 1 (nvs [5]) := lit_nvs w6 [5] 1 rfl (by unfold maxLen; omega)
  have hgs : Sn (w6.alloc (.cells #[.int .u64 5] 34)) (w6.alloc (.cells #[.int .u64 5] 34)).heap.size gA gn gc 1 (nvs [5]) := ((Sn.of_own hgo).onA (.cells #[.int .u64 5] 34)).more (by omega)
  have HB7 := Lib.hid (hb6.below hbx7)
  have HL7 := Lib.hid (HL6.out.trans (hbx7.mono HL6.out.size))
  have HQ := Lib.hid (eqn_yes _ gA (some ⟨w6.heap.size, 0, none⟩) gn gc 1 1 [5] hgs hsn7)
  clear hgo hb6 ho6 hk6 HT hbx7 hsn7 hgs hz7
  go_wp2_with fail
  refine HQ.out.mono ?_
  rintro e w8 ⟨rfl, hb8⟩
  have HB8 := Lib.hid (HB7.out.below hb8)
  have HL8 := Lib.hid (HL7.out.trans (hb8.mono HL7.out.size))
  clear hb8 HQ
  go_wp2_with fail
  have hd := bdueD HB8.out (by omega) (by simp) (fun x hx => by rw [List.mem_singleton] at hx; subst hx; show (1 : Nat) < _; omega) 2 (by omega)
  have e1 : ids (dueE 2 [(1, 2)]) = [1] := by decide
  have e2 : [1].foldl (dueStep 2 10 2) ([(⟨1, 1, gb, mb, [7]⟩ : Gp)], restE 2 [(1, 2)]) = ([⟨1, 2, gb, mb, [7]⟩], [(1, 6)]) := rfl
  have e3 : [1].map (fun q => sortN (memOf q [(⟨1, 1, gb, mb, [7]⟩ : Gp)])) = [[7]] := by
    rw [List.map_cons, List.map_nil, show memOf 1 [(⟨1, 1, gb, mb, [7]⟩ : Gp)] = [7] from rfl, sortN_inc (by unfold Inc; decide)]
  unfold BDueD at hd
  rw [e1, e2, e3] at hd
  have HD := Lib.hid hd
  clear hd e1 e2 e3
  refine HD.out.mono ?_
  rintro e w9 ⟨D, dn, dc, rows, S9, rfl, hb9, hdr, hrr, hrw, ho9, hk9⟩
  obtain ⟨r, rfl⟩ : ∃ r, rows = [r] := by
    rcases rows with _ | ⟨r, _ | ⟨r2, rows⟩⟩
    · simp at hrw
    · exact ⟨r, rfl⟩
    · simp at hrw
  have hrl : r.l = [7] := by simpa using hrw
  have hro := hrr r (by simp)
  rw [hrl] at hro
  have hdn : dn = 1 := by have := hdr.1; simp at this; omega
  subst hdn
  have HB9 := Lib.hid hb9
  have HL9 := Lib.hid (HL8.out.trans (ho9.toBelow2 (fun k hk => (HB8.out.lo k hk).1) HL8.out.size))
  obtain ⟨db, do_, rfl, hdb, hdc⟩ := (Sn.of_own hdr).cell (by omega)
  have hd0 : w9.cell? ⟨db, do_, none⟩ = some (.slice r.A r.n r.c) := by have := hdc 0 _ rfl; rwa [Nat.add_zero] at this
  have HRO := Lib.hid hro
  clear hrr hrw hb9 ho9 hk9 hdr hdc hrl hro HD
  go_wp2_with fail
  refine (bnextD HB9.out).mono ?_
  rintro e w10 ⟨rfl, rfl⟩
  unfold nextV
  have hbx7 := below_box w9 (.cells #[.int .u64 7] 34)
  have hz7 : (w9.alloc (.cells #[.int .u64 7] 34)).heap.size = w9.heap.size + 1 := by simp
  have hsn7 : Sn (w9.alloc (.cells #[.int .u64 7] 34)) (w9.alloc (.cells #[.int .u64 7] 34)).heap.size (some ⟨w9.heap.size, 0, none⟩) 1 1 1 (nvs [7]) := lit_nvs w9 [7] 1 rfl (by unfold maxLen; omega)
  have hgs : Sn (w9.alloc (.cells #[.int .u64 7] 34)) (w9.alloc (.cells #[.int .u64 7] 34)).heap.size r.A r.n r.c 1 (nvs [7]) := ((Sn.of_own HRO.out).onA (.cells #[.int .u64 7] 34)).more (by omega)
  have HL10 := Lib.hid (HL9.out.trans (hbx7.mono HL9.out.size))
  have HQ := Lib.hid (eqn_yes _ r.A (some ⟨w9.heap.size, 0, none⟩) r.n r.c 1 1 [7] hgs hsn7)
  clear hbx7 hsn7 hgs hz7 HRO
  go_wp2_with fail
  refine HQ.out.mono ?_
  rintro e w11 ⟨rfl, hb11⟩
  go_wp2_with fail
  go_ret
  exact ⟨rfl, HL10.out.trans (hb11.mono HL10.out.size)⟩
end Go.Proofs.Ytbnhemmklbbnmaa

/-! ## BoardLaw -/
namespace Go.Proofs.Ytbnhemmklbbnmaa
open Go.RowKit Go.Sort Go.Maps

set_option maxRecDepth 100000 in
set_option maxHeartbeats 1000000 in
theorem params13_any (w : World) (a b : Nat) (ha : a < 65536) (hb : b < 65536) :
    Calls Try.prog 9 #[.int .u16 (a : Int), .int .u16 (b : Int)] w (Ans w (prv ((1 + a % 50 : Nat) : Int) ((1 + a % 50 + b % 500 : Nat) : Int))) := by
  obtain ⟨f, hf⟩ : ∃ f, f = 1 + a % 50 := ⟨_, rfl⟩
  obtain ⟨m, hm⟩ : ∃ m, m = 1 + a % 50 + b % 500 := ⟨_, rfl⟩
  rw [← hm, ← hf]
  have h1 : 1 + (a : Int) % 50 = (f : Int) := by omega
  have h2 : (f : Int) + (b : Int) % 500 = (m : Int) := by omega
  clear hf hm
  go_enter Try.func9, Try.ntmps9
  go_wp2_with fail
  have hc0 := cell_last w #[.int .i64 (f : Int), .int .i64 (m : Int)] 26 w.heap.size 0 rfl
  have hc1 := cell_last w #[.int .i64 (f : Int), .int .i64 (m : Int)] 26 w.heap.size 1 rfl
  exact bodyPost_ret (v := .agg #[.int .i64 (f : Int), .int .i64 (m : Int)]) (by simp [results, Try.results9, go_sem, hc0, hc1]) rfl ⟨rfl, below_box w _⟩
def IdxRel (w : World) (n v : Nat) (L : List Nat) (gk : Nat) (vi : Value) (wr : World) : Prop := ∃ k : Nat, gk + k = n ∧ vi = .int .i64 (k : Int) ∧ wr = w ∧ v ∉ L.take k
set_option maxRecDepth 100000 in
set_option maxHeartbeats 1000000 in
theorem index_any (w : World) (B : Nat) (A : Option Addr) (n c v : Nat) (L : List Nat) (h : Sn w B A n c 1 (nvs L)) (hn : n ≤ 1000000) :
    Calls Try.prog 52 #[.slice A n c, .int .u64 (v : Int)] w fun e w' => (∃ i : Int, e = .returned (.int .i64 i) ∧ (0 ≤ i ↔ v ∈ L) ∧ -1 ≤ i) ∧ w = w' := by
  have H := Lib.hid h
  have HLEN : Hid (L.length = n) := by have := h.len; rw [nvs_len] at this; show _ = _; omega
  clear h
  go_enter Try.func52, Try.ntmps52
  go_wp2_with fail
  go_loopg [8] n (fun gk vi wr => IdxRel w n v L gk vi wr)
  case atStart => exact ⟨0, by omega, rfl, rfl, by simp⟩
  case round =>
    obtain ⟨k, hg, rfl, rfl, hnot⟩ := hrel
    have HG := Lib.hid hg
    have HNOT := Lib.hid hnot
    clear hg hnot
    by_cases hk : k < n
    · have hkI : (k : Int) < (n : Int) := by omega
      have hk0 : (0 : Int) ≤ (k : Int) := by omega
      obtain ⟨x, hx⟩ : ∃ x, L[k]? = some x := ⟨_, List.getElem?_eq_getElem (by have := HLEN.out; omega)⟩
      obtain ⟨b, o, he, hgB, hcell⟩ := H.out.cell (by omega)
      have hc : wr.cell? ⟨b, o + k, none⟩ = some (.int .u64 (x : Int)) := hcell k (nv x) (by simp [nvs, hx])
      subst he
      have HX := Lib.hid hx
      clear hx hcell
      by_cases hv : v = x
      · have hvI : ((v : Int) == (x : Int)) = true := by simp [hv]
        have HV := Lib.hid hv
        clear hv
        go_wp2_with fail
        go_ret
        exact ⟨⟨(k : Int), rfl, ⟨fun _ => by rw [HV.out]; exact List.mem_of_getElem? HX.out, fun _ => hk0⟩, by omega⟩, rfl⟩
      · have hvI : ((v : Int) == (x : Int)) = false := by simp; omega
        have HV := Lib.hid hv
        clear hv
        go_wp2_with fail
        go_roundg (gk - 1)
        case measure => have := HG.out; omega
        case rel =>
          refine ⟨k + 1, by have := HG.out; omega, by go_num, rfl, ?_⟩
          rw [List.take_add_one, HX.out, List.mem_append]
          intro hm
          rcases hm with hm | hm
          · exact HNOT.out hm
          · exact HV.out (by simpa using hm)
    · have hkI : ¬ (k : Int) < (n : Int) := by omega
      go_wp2_with fail
      go_ret
      refine ⟨⟨-1, rfl, ⟨fun h => absurd h (by omega), fun h => ?_⟩, by omega⟩, rfl⟩
      rw [List.take_of_length_le (by have := HLEN.out; have := HG.out; omega)] at HNOT
      exact absurd h HNOT.out
set_option maxRecDepth 100000 in
theorem contains_any (w : World) (B : Nat) (A : Option Addr) (n c v : Nat) (L : List Nat) (h : Sn w B A n c 1 (nvs L)) (hn : n ≤ 1000000) :
    Calls Try.prog 25 #[.slice A n c, .int .u64 (v : Int)] w fun e w' => e = .returned (.bool (decide (v ∈ L))) ∧ w = w' := by
  have H := Lib.hid (index_any w B A n c v L h hn)
  clear h
  go_enter Try.func25, Try.ntmps25
  go_wp2_with fail
  refine H.out.mono ?_
  rintro e w2 ⟨⟨i, rfl, hi, hi1⟩, rfl⟩
  go_wp2_with fail
  go_ret
  have hd : decide (0 ≤ i) = decide (v ∈ L) := decide_eq_decide.2 hi
  rw [← hd]
  exact ⟨rfl, rfl⟩
end Go.Proofs.Ytbnhemmklbbnmaa
