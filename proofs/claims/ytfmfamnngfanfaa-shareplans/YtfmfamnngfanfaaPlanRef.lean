/-
  CONTRACT of the reference's Plan.
  No statement is proved here.
-/
import Derived.Test.YtfmfamnngfanfaaPlanTwo
import Derived.Test.YtfmfamnngfanfaaShareQuiet
namespace Go.Proofs.Ytfmfamnngfanfaa
open Go.RowKit Go.Sort

def L1Rel (w : World) (Q : List Ic) (cls : Nat) (size : Int) (nq gk : Nat) (v12 v13 vi : Value) (wr : World) : Prop :=
  ∃ (k : Nat) (A : Option Addr) (n c : Nat) (R : List Ic) (t : Int), gk + k = nq ∧ vi = .int .i64 (k : Int) ∧ v12 = .slice A n c ∧ v13 = .int .i64 t ∧ Bx wr w.heap.size A n c R ∧ R.map (·.L) = (stTo Q cls size k).map (·.2) ∧ t = size + isum (qsum (Q.take k)) ∧ RowKit.Below w.heap.size w wr
def L2Rel (w : World) (B0 lb nl cl : Nat) (cap : Int) (W : List Int) (st0 : List Cs) (o0 : Int) (gk : Nat) (v13 v17 : Value) (wr : World) : Prop :=
  ∃ (st : List Cs) (out : List (Nat × Nat)) (Av : Option Addr) (nv cv : Nat) (R : List Ic) (t : Int), slen st ≤ gk ∧ v13 = .int .i64 t ∧ v17 = .slice Av nv cv ∧ t = ssum st ∧ R2 w wr B0 lb nl cl cap W st0 o0 st out Av nv cv R
def L3Rel (cap : Int) (W : List Int) (st : List Cs) (w0 : World) (nl gk : Nat) (v19 vi : Value) (wr : World) : Prop :=
  ∃ (k : Nat) (b : Int), gk + k = nl ∧ vi = .int .i64 (k : Int) ∧ v19 = .int .i64 b ∧ BestTo cap W st k b ∧ RowKit.Below w0.heap.size w0 wr
def RPlanned (w : World) (cap : Int) (W : List Int) (st : List Cs) (e : Ending) (w' : World) : Prop :=
  ∃ out A n c, Goes cap W st (ssum st - cap) out ∧ e = .returned (.tuple #[.slice A n c, .bool true]) ∧ w'.ownsRow w.heap.size 33 2 (.slice A n c) n (vvs out) ∧ RowKit.Below w.heap.size w w'
theorem rng_of {L : List Int} (h : ∀ s ∈ L, 0 ≤ s ∧ s ≤ 1048576) : ∀ y ∈ L, I64 y := fun y hy => by
  have := h y hy
  unfold I64
  omega
theorem rng_snoc {L : List Int} {s : Int} (h : ∀ s ∈ L, 0 ≤ s ∧ s ≤ 1048576) (hs : 0 ≤ s ∧ s ≤ 1048576) : ∀ y ∈ L ++ [s], I64 y := fun y hy => by
  rcases List.mem_append.1 hy with hy | hy
  · exact rng_of h y hy
  · simp at hy
    subst hy
    unfold I64
    omega
theorem rvic_info : (Try.prog.info? 33).map (fun i => (i.zero, i.size, i.bytes)) = some (some (.agg #[.int .i64 0, .int .i64 0]), 2, 16) := by kernel_rfl
theorem own_low {w : World} {base base' k n : Nat} {e : TypeId} {v : Value} {xs : List Value} (h : w.ownsRow base e k v n xs) (hb : base' ≤ base) : w.ownsRow base' e k v n xs := by
  refine ⟨h.1, ?_⟩
  rcases h.2 with h2 | ⟨g, cap, cur, hv, h3, h4⟩
  · exact .inl h2
  · exact .inr ⟨g, cap, cur, hv, Nat.le_trans hb h3, h4⟩
theorem r2_keep {w wr w9 : World} {o : Obj} {B0 lb nl cl nv cv : Nat} {cap o0 : Int} {W : List Int} {st0 st : List Cs} {out : List (Nat × Nat)} {Av : Option Addr} {R : List Ic} (h : R2 w wr B0 lb nl cl cap W st0 o0 st out Av nv cv R)
    (hg : (wr.alloc o).grownBy w9 (if nv = cv then none else (Value.slice Av nv cv).ownBlock)) (b i : Nat) (hb : b < B0 + 1) : w9.cell? ⟨b, i, none⟩ = wr.cell? ⟨b, i, none⟩ ∧ w9.frozen? ⟨b, i, none⟩ = wr.frozen? ⟨b, i, none⟩ := by
  have hon : Only (fun k => B0 + 1 ≤ k) wr w9 := (Only.of_below (below_box wr o)).trans (Only.of_grown hg (S := fun k => B0 + 1 ≤ k) (fun k e => by split at e; cases e; exact (h.own.lt k e.symm).1)) (fun _ _ k => k)
  have h1 := hon.block b (by have := (h.went.lt B0 rfl).2; omega) (by omega)
  exact ⟨World.cell?_of_block (a := ⟨b, i, none⟩) h1, World.frozen?_of_block (a := ⟨b, i, none⟩) h1⟩
theorem plcs_zero (Q : List Ic) (cls : Nat) (size : Int) : ∀ k, plcs (stTo Q cls size k) = List.replicate k 0
  | 0 => rfl
  | k + 1 => by
    have := plcs_zero Q cls size k
    unfold plcs at *
    rw [stTo, List.map_append, this, List.replicate_succ']
    rfl
theorem r2_start {w wr w4 : World} {lb k cl cls : Nat} {cap size : Int} {W : List Int} {Q R : List Ic} (hb : RowKit.Below w.heap.size w wr) (hx : Bx wr w.heap.size (some ⟨lb, 0, none⟩) k cl R) (hr : R.map (·.L) = (stTo Q cls size k).map (·.2))
    (ho : w4.ownsRow wr.heap.size 3 1 (.slice (some ⟨wr.heap.size, 0, none⟩) k k) k (madeCells (Value.int .i64 0).cells (k * 1)).toList) (hg : wr.grownBy w4 none) (hok : StOk (stTo Q cls size k)) (hs : slen (stTo Q cls size k) ≤ 1000000) :
    R2 w w4 wr.heap.size lb k cl cap W (stTo Q cls size k) (ssum (stTo Q cls size k) - cap) (stTo Q cls size k) [] none 0 0 R := by
  have hb4 : RowKit.Below wr.heap.size wr w4 := ⟨hg.os, hg.tape, hg.output, hg.size, fun i hi => hg.block i hi (by simp)⟩
  have e : (madeCells (Value.int .i64 0).cells (k * 1)).toList = ivs (plcs (stTo Q cls size k)) := by
    have h1 : (Value.int .i64 0).cells = #[Value.int .i64 0] := rfl
    rw [h1, Nat.mul_one, toList_madeCells_one, plcs_zero]
    simp [ivs, iv]
  rw [e] at ho
  exact ⟨hb.trans (hb4.mono hb.size), hx.below hb4, hr, fun x hx2 b o e2 => (hx.off x hx2 b o e2).1, (hx.own.lt lb rfl).2, hb.size, ho, World.ownsRow_nil _ _ _ _, hok, stTo_len _ _ _ _, by omega, fun out2 h => h⟩
set_option maxRecDepth 100000 in
set_option maxHeartbeats 16000000 in
theorem rplan_ok (w : World) (cap : Int) (Aw : Option Addr) (nw cw : Nat) (W : List Int) (Aq : Option Addr) (nq cq : Nat) (Q : List Ic) (cls : Nat) (size : Int) (h : Asks w cap Aw nw cw W Aq nq cq Q cls size) (hq6 : qcnt Q ≤ 1000000) :
    Calls Try.prog 16 #[.int .i64 cap, .slice Aw nw cw, .slice Aq nq cq, .int .i64 cls, .int .i64 size] w (RPlanned w cap W (stTo Q cls size nq)) := by
  obtain ⟨i0, hi0, hz0, hz1, hz2⟩ := info_parts int_info
  obtain ⟨i1, hj0, hj1, hj2, hj3⟩ := info_parts ints8_info
  obtain ⟨i2, hk0', hk1, hk2, hk3⟩ := info_parts rvic_info
  have H := Lib.hid h
  have HC := Lib.hid h.can
  have hsz := h.sz
  have hcp := h.cp
  have hcl := h.cls
  obtain rfl : nw = nq := h.len.symm
  have HFT : Hid (fitsB cap W nw nw Q cls size = true) := Lib.hid ((fits_iff _ _ _ _ _ _ _).2 ⟨h.rw_, rfl, by omega, by omega, hsz.1, hsz.2, hcp.1, hcp.2, h.bnd⟩)
  have HQL := Lib.hid h.qi.len
  have hL : nw ≤ 8 := by have := (right_facts h.rw_).2.1; have := h.wi.len; omega
  clear h
  go_enter Try.func16, Try.ntmps16
  go_wp2_with fail
  refine (fits_any w cap Aw nw cw W Aq nw cq Q cls size H.out.wi H.out.qi hq6).mono ?_
  rintro e w1 ⟨rfl, rfl⟩
  rw [HFT.out]
  go_wp2_with fail
  go_loopg [12, 13, 31] nw (fun gk v12 v13 vi wr => L1Rel w Q cls size nw gk v12 v13 vi wr)
  case atStart => exact ⟨0, none, 0, 0, [], size, rfl, rfl, rfl, rfl, Bx.nil_ _ _, rfl, by simp [qsum, isum], RowKit.Below.refl _ _⟩
  case round =>
    obtain ⟨k, AL, nl, cl, R, tt, hgk, rfl, rfl, rfl, hbx, hrl, htt, hbel⟩ := hrel
    have HBX := Lib.hid hbx
    have HRL := Lib.hid hrl
    have HTT := Lib.hid htt
    have HB := Lib.hid hbel
    obtain rfl : k = nl := by have h1 := hbx.len; have h2 := congrArg List.length hrl; simp only [List.length_map, stTo_len] at h2; omega
    have HSUM := Lib.hid HC.out.sum
    have htb : 0 ≤ tt ∧ tt ≤ 900000000000 := by
      have h1 := isum_pre (L := qsum Q) (fun y hy => by obtain ⟨z, hz, rfl⟩ := List.mem_map.1 hy; exact isum_nn (HSUM.out.2.1.each z hz).nn) k
      have h2 := HSUM.out.2.2.2
      have h3 : (qsum Q).take k = qsum (Q.take k) := by unfold qsum; rw [List.map_take]
      rw [h3] at h1
      omega
    have hbz := hbel.size
    clear hbx hrl htt hbel
    by_cases hlt : k < nw
    · obtain ⟨b, o, x, rfl, hb, hx, hc, hxi0⟩ := (H.out.qi.below HB.out (Nat.le_refl _)).at_ hlt
      have hxw : Is w w.heap.size x.A x.n x.c x.L := H.out.qi.each x (List.mem_of_getElem? hx)
      obtain ⟨he, hbd, hln⟩ := HC.out.of hx (k := k)
      have HE := Lib.hid he
      have HX := Lib.hid hx
      have HXI := Lib.hid hxw
      have hxn := hxw.len
      have hxm : x.n ≤ 65536 := (HC.out.each x (List.mem_of_getElem? hx)).2
      have hxb : ∀ s ∈ x.L, 0 ≤ s ∧ s ≤ 1048576 := (HC.out.each x (List.mem_of_getElem? hx)).1
      have HSM := Lib.hid (bsum_le hxb (by omega)).1
      have HBS : Hid (0 ≤ isum x.L ∧ isum x.L ≤ 104857600000) := Lib.hid (by have := isum_le hxb; omega)
      have HTK : Hid (Sn (wr.alloc (.cells #[] 3)) wr.heap.size x.A x.n x.c 1 (ivs x.L)) := Lib.hid ((hxi0.more hbz).sn.alloc (Nat.le_refl _) (.cells #[] 3))
      by_cases hkc : k = cls
      · have hkcI : ((k : Int) == (cls : Int)) = true := by simp [hkc]
        rw [if_pos hkc] at he
        have HE := Lib.hid he
        have HRNG : Hid (∀ y ∈ x.L ++ [size], I64 y) := Lib.hid (rng_snoc hxb hsz)
        clear hx hxi0 hxw he hbd hln hxb hkc
        go_wp2_with (first | (at_builtin; refine wpList_append_dstN _ rfl (.tmp 46) (.tmp 48) 23 23 rfl w.heap.size 22 i1 _ 1 24 Try.underlying23 hj0 hj1 hj2 hj3 rfl AL k cl (icvs R) rfl (.inr (HBXC.out.own.alloc _)) _ 1 (icvs [⟨A3, (x.n + 1), c3, (x.L ++ [size])⟩]) rfl (HLC.out.src Try.underlying23 (by intro u hu; simp [icvs, icv] at hu; subst hu; rfl)) (by omega) (by omega) (by have := HBC.out.size; simp; omega) ?_; intro A4 c4 w4 g1 g2 g3 g4 g5 g6; have HX4 := Lib.hid (Bx.put (x := ⟨A3, (x.n + 1), c3, (x.L ++ [size])⟩) HBXC.out HIC.out HOC.out (g2 (by omega)) g5 g6); have HB4 := Lib.hid ((HBC.out.alloc HBC.out.size _).trans g4); clear g1 g2 g3 g4 g5 g6) | (at_builtin; refine wpList_append_dstN _ rfl (.tmp 42) (.tmp 44) 22 22 rfl wr.heap.size 3 i0 _ 1 8 Try.underlying22 hi0 hz0 hz1 hz2 rfl A2 x.n c2 (ivs x.L) rfl (.inr (HO2.out.alloc _)) _ 1 (ivs [size]) rfl (HDB.out.src Try.underlying22 (ivs_one _)) (by omega) (by omega) (by have := HW2.out.size; simp; omega) ?_; intro A3 c3 w3 g1 g2 g3 g4 g5 g6; have HOY : Hid (w3.ownsRow wr.heap.size 3 1 (.slice A3 (x.n + 1) c3) (x.n + 1) (ivs (x.L ++ [size]))) := Lib.hid (by have h := g2 (by omega); rw [← ivs_app] at h; exact h); have HWC := Lib.hid ((HW2.out.alloc HW2.out.size _).trans g4); have HBXC := Lib.hid (HBX.out.below HWC.out); have HBC := Lib.hid (HB.out.trans (HWC.out.mono HB.out.size)); have HIC : Hid (Is w3 w3.heap.size A3 (x.n + 1) c3 (x.L ++ [size])) := Lib.hid ⟨Sn.of_own HOY.out, HRNG.out⟩; have HOC : Hid (∀ b o, A3 = some ⟨b, o, none⟩ → b < w3.heap.size ∧ (Value.slice AL k cl).ownBlock ≠ some b) := Lib.hid (fun b o e => fresh_off HOY.out HBX.out.own e); have HLC : Hid (Sn (w3.alloc (.cells #[.slice A3 (x.n + 1) c3] 22)) (w3.heap.size + 1) (some ⟨w3.heap.size, 0, none⟩) 1 1 1 (icvs [⟨A3, (x.n + 1), c3, (x.L ++ [size])⟩])) := lit_sn w3 22 (icvs [⟨A3, (x.n + 1), c3, (x.L ++ [size])⟩]) 1 1 rfl (by unfold maxLen; omega); clear g1 g2 g3 g4 g5 g6) | (at_builtin; refine wpList_append_dstN _ rfl (.tmp 36) (.tmp 37) 22 22 rfl wr.heap.size 3 i0 _ 1 8 Try.underlying22 hi0 hz0 hz1 hz2 rfl _ 0 0 [] rfl (.inr (World.ownsRow_made wr #[] 0 (Nat.le_refl _) (Nat.zero_le _) rfl)) _ x.n (ivs x.L) rfl (HTK.out.src Try.underlying22 (ivs_one _)) (by omega) (by omega) (by simp) ?_; intro A2 c2 w2 g1 g2 g3 g4 g5 g6; have HO2 : Hid (w2.ownsRow wr.heap.size 3 1 (.slice A2 x.n c2) x.n (ivs x.L)) := Lib.hid (by have h := g3 (World.ownsRow_made wr #[] 0 (Nat.le_refl _) (Nat.zero_le _) rfl); rw [Nat.zero_add, List.nil_append] at h; exact h); have HW2 := Lib.hid (((RowKit.Below.refl _ wr).alloc (Nat.le_refl _) _).trans g4); have HDB : Hid (Sn (w2.alloc (.cells #[.int .i64 size] 3)) (w2.heap.size + 1) (some ⟨w2.heap.size, 0, none⟩) 1 1 1 (ivs [size])) := lit_sn w2 3 (ivs [size]) 1 1 rfl (by unfold maxLen; omega); clear g1 g2 g3 g4 g5 g6))
        have HB4W : Hid (RowKit.Below w.heap.size w w4) := HB4
        have HZ4 : Hid (w.heap.size ≤ w4.heap.size) := Lib.hid HB4.out.size
        refine (refSum_any w4 x.A x.n x.c x.L ((HXI.out.below (HB4W.out) (Nat.le_refl _)).more HZ4.out) HSM.out).mono ?_
        rintro e w5 ⟨rfl, rfl⟩
        obtain ⟨sx, HSX⟩ : ∃ s, Hid (s = isum x.L) := ⟨_, rfl⟩
        rw [← HSX.out]
        have hsx : 0 ≤ sx ∧ sx ≤ 104857600000 := by rw [HSX.out]; exact HBS.out
        go_wp2_with fail
        go_roundg (gk - 1)
        case measure => omega
        case rel =>
          refine ⟨k + 1, A4, k + 1, c4, R ++ [⟨A3, x.n + 1, c3, x.L ++ [size]⟩], tt + sx, by omega, by go_num, rfl, rfl, HX4.out, ?_, ?_, HB4.out⟩
          · rw [List.map_append, HRL.out, stTo, List.map_append, HE.out]
            rfl
          · rw [HTT.out, HSX.out, qsum_take HX.out]
            omega
      · have hkcI : ((k : Int) == (cls : Int)) = false := by simp; omega
        rw [if_neg hkc] at he
        have HE := Lib.hid he
        have HRNG : Hid (∀ y ∈ x.L, I64 y) := Lib.hid (rng_of hxb)
        clear hx hxi0 hxw he hbd hln hxb hkc
        go_wp2_with (first | (at_builtin; refine wpList_append_dstN _ rfl (.tmp 46) (.tmp 48) 23 23 rfl w.heap.size 22 i1 _ 1 24 Try.underlying23 hj0 hj1 hj2 hj3 rfl AL k cl (icvs R) rfl (.inr (HBXC.out.own.alloc _)) _ 1 (icvs [⟨A3, x.n, c3, x.L⟩]) rfl (HLC.out.src Try.underlying23 (by intro u hu; simp [icvs, icv] at hu; subst hu; rfl)) (by omega) (by omega) (by have := HBC.out.size; simp; omega) ?_; intro A4 c4 w4 g1 g2 g3 g4 g5 g6; have HX4 := Lib.hid (Bx.put (x := ⟨A3, x.n, c3, x.L⟩) HBXC.out HIC.out HOC.out (g2 (by omega)) g5 g6); have HB4 := Lib.hid ((HBC.out.alloc HBC.out.size _).trans g4); clear g1 g2 g3 g4 g5 g6) | (at_builtin; refine wpList_append_dstN _ rfl (.tmp 36) (.tmp 37) 22 22 rfl wr.heap.size 3 i0 _ 1 8 Try.underlying22 hi0 hz0 hz1 hz2 rfl _ 0 0 [] rfl (.inr (World.ownsRow_made wr #[] 0 (Nat.le_refl _) (Nat.zero_le _) rfl)) _ x.n (ivs x.L) rfl (HTK.out.src Try.underlying22 (ivs_one _)) (by omega) (by omega) (by simp) ?_; intro A3 c3 w3 g1 g2 g3 g4 g5 g6; have HOY : Hid (w3.ownsRow wr.heap.size 3 1 (.slice A3 x.n c3) x.n (ivs x.L)) := Lib.hid (by have h := g3 (World.ownsRow_made wr #[] 0 (Nat.le_refl _) (Nat.zero_le _) rfl); rw [Nat.zero_add, List.nil_append] at h; exact h); have HWC := Lib.hid (((RowKit.Below.refl _ wr).alloc (Nat.le_refl _) _).trans g4); have HBXC := Lib.hid (HBX.out.below HWC.out); have HBC := Lib.hid (HB.out.trans (HWC.out.mono HB.out.size)); have HIC : Hid (Is w3 w3.heap.size A3 x.n c3 x.L) := Lib.hid ⟨Sn.of_own HOY.out, HRNG.out⟩; have HOC : Hid (∀ b o, A3 = some ⟨b, o, none⟩ → b < w3.heap.size ∧ (Value.slice AL k cl).ownBlock ≠ some b) := Lib.hid (fun b o e => fresh_off HOY.out HBX.out.own e); have HLC : Hid (Sn (w3.alloc (.cells #[.slice A3 x.n c3] 22)) (w3.heap.size + 1) (some ⟨w3.heap.size, 0, none⟩) 1 1 1 (icvs [⟨A3, x.n, c3, x.L⟩])) := lit_sn w3 22 (icvs [⟨A3, x.n, c3, x.L⟩]) 1 1 rfl (by unfold maxLen; omega); clear g1 g2 g3 g4 g5 g6))
        have HB4W : Hid (RowKit.Below w.heap.size w w4) := HB4
        have HZ4 : Hid (w.heap.size ≤ w4.heap.size) := Lib.hid HB4.out.size
        refine (refSum_any w4 x.A x.n x.c x.L ((HXI.out.below (HB4W.out) (Nat.le_refl _)).more HZ4.out) HSM.out).mono ?_
        rintro e w5 ⟨rfl, rfl⟩
        obtain ⟨sx, HSX⟩ : ∃ s, Hid (s = isum x.L) := ⟨_, rfl⟩
        rw [← HSX.out]
        have hsx : 0 ≤ sx ∧ sx ≤ 104857600000 := by rw [HSX.out]; exact HBS.out
        go_wp2_with fail
        go_roundg (gk - 1)
        case measure => omega
        case rel =>
          refine ⟨k + 1, A4, k + 1, c4, R ++ [⟨A3, x.n, c3, x.L⟩], tt + sx, by omega, by go_num, rfl, rfl, HX4.out, ?_, ?_, HB4.out⟩
          · rw [List.map_append, HRL.out, stTo, List.map_append, HE.out]
            rfl
          · rw [HTT.out, HSX.out, qsum_take HX.out]
            omega
    · obtain rfl : k = nw := by omega
      have hk0 : 0 < k := by omega
      obtain ⟨lb, rfl⟩ : ∃ lb, AL = some ⟨lb, 0, none⟩ := by
        rcases HBX.out.own.2 with ⟨_, h0⟩ | ⟨g, cap', cur, hv, _⟩
        · omega
        · injection hv with h1 _ _; exact ⟨g, h1⟩
      have htt2 : tt = ssum (stTo Q cls size k) := by
        have h1 := HSUM.out.1
        have h2 := HTT.out
        rw [List.take_of_length_le (by have := HQL.out; omega)] at h2
        omega
      have HTT2 := Lib.hid htt2
      clear htt2 hbz
      go_wp2_with (at_make; refine wpList_make_full _ rfl _ _ 22 rfl wr.heap.size 3 i0 _ 1 Try.underlying22 hi0 hz0 hz1 .i64 .i64 _ _ k rfl rfl rfl rfl (by rw [hz2]; omega) (by unfold maxLen; omega) (Nat.le_refl _) ?_; intro w4 h4 h5; have HO4 := Lib.hid h4; have HG4 := Lib.hid h5; clear h4 h5)
      have HR0 : Hid (R2 w w4 wr.heap.size lb k cl cap W (stTo Q cls size k) (ssum (stTo Q cls size k) - cap) (stTo Q cls size k) [] none 0 0 R) := Lib.hid (r2_start HB.out HBX.out HRL.out HO4.out HG4.out HC.out.stOk (by have := slen_le HC.out.stOk; rw [stTo_len] at this; omega))
      have hBz : w.heap.size ≤ wr.heap.size := HB.out.size
      obtain ⟨st0, HST0⟩ : ∃ s, Hid (s = stTo Q cls size k) := ⟨_, rfl⟩
      rw [← HST0.out] at HR0 HTT2
      have HW := Lib.hid H.out.wi
      clear H HC HQL HFT HBX HRL HTT HB HSUM HO4 HG4 hq6
      generalize wr.heap.size = B0 at *
      go_loopg [13, 17] (slen st0) (fun gk v13 v17 wr => L2Rel w B0 lb k cl cap W st0 (ssum st0 - cap) gk v13 v17 wr)
      case atStart => exact ⟨st0, [], none, 0, 0, R, tt, Nat.le_refl _, rfl, rfl, HTT2.out, HR0.out⟩
      case round =>
        clear HR0 HTT2 htb
        obtain ⟨st, out, Av, nv, cv, R, t, hgk2, rfl, rfl, ht, hr2⟩ := hrel
        have HT := Lib.hid ht
        have HR := Lib.hid hr2
        have hss := hr2.ok.sum
        have htb : 0 ≤ t ∧ t ≤ 838860800000 := by omega
        clear ht hr2
        by_cases ho : cap < t
        · obtain ⟨g2, rfl⟩ : ∃ y, y = gk := ⟨_, rfl⟩
          obtain ⟨wo, rfl⟩ : ∃ y, y = wr := ⟨_, rfl⟩
          go_wp2_with fail
          go_loopg [19, 63] k (fun gk v19 vi wx => L3Rel cap W st wo k gk v19 vi wx)
          case atStart => exact ⟨0, -1, by omega, rfl, rfl, .inl ⟨rfl, fun j q T hj => absurd hj (by omega)⟩, RowKit.Below.refl _ _⟩
          case round =>
            obtain ⟨i, bst, hgi, rfl, rfl, hbt, hbx⟩ := hrel
            have HBT := Lib.hid hbt
            have HRX := Lib.hid (HR.out.below hbx)
            have HBX := Lib.hid hbx
            clear hbt hbx
            by_cases hik : i < k
            · obtain ⟨x, p, hx, hst, hc, hxi, _⟩ := HRX.out.at_ hik
              have HST := Lib.hid hst
              have HXI := Lib.hid hxi
              have hxn := hxi.len
              have hxb := HRX.out.ok.each _ (List.mem_of_getElem? hst)
              have hxp := HRX.out.ok.plc _ (List.mem_of_getElem? hst)
              clear hx hst hxi
              by_cases hx0 : x.n = 0
              · have hx0I : decide (0 < x.n) = false := by simp; omega
                have HLN : Hid (x.L = []) := Lib.hid (List.eq_nil_of_length_eq_zero (by omega))
                clear hx0
                go_wp2_with fail
                go_quiet (fail)
                go_wp2_with fail
                go_roundg (gk - 1)
                case measure => omega
                case rel => exact ⟨i + 1, bst, by omega, by go_num, rfl, HBT.out.skip (by rw [HST.out, HLN.out]), below_drewN HBX.out _⟩
              · have hx0I : decide (0 < x.n) = true := by simp; omega
                have HLN : Hid (x.L ≠ []) := Lib.hid (fun e => by rw [e] at hxn; simp at hxn; omega)
                have hxb2 : ∀ s ∈ x.L, 0 ≤ s ∧ s ≤ 1048576 := hxb
                have hxl2 : x.L.length ≤ 100000 := by simp only at hxp; omega
                have HSM := Lib.hid (bsum_le hxb2 hxl2)
                clear hx0 hxb hxp hxb2
                rcases HBT.out with ⟨hb1, hb2⟩ | ⟨kb, p0, S0, hb1, hb2, hb3, hb4, hb5⟩
                · subst hb1
                  have HB2 := Lib.hid hb2
                  clear hb2 HBT
                  go_wp2_with fail
                  go_quiet (fail)
                  go_wp2_with fail
                  go_roundg (gk - 1)
                  case measure => omega
                  case rel => exact ⟨i + 1, (i : Int), by omega, by go_num, rfl, BestTo.first HB2.out HST.out HLN.out, below_drewN HBX.out _⟩
                · subst hb1
                  obtain ⟨y, p1, hy, hsty, hcy, hyi, _⟩ := HRX.out.at_ (show kb < k by omega)
                  rw [hb3] at hsty
                  injection hsty with hsty
                  injection hsty with hp0 hS0
                  subst hS0
                  have hyb := HRX.out.ok.each _ (List.mem_of_getElem? hb3)
                  have hyp := HRX.out.ok.plc _ (List.mem_of_getElem? hb3)
                  have hyn := hyi.len
                  have HSY := Lib.hid (bsum_le (show ∀ s ∈ y.L, 0 ≤ s ∧ s ≤ 1048576 from hyb) (by simp only at hyp; omega))
                  have HYI := Lib.hid hyi
                  have HB3 := Lib.hid hb3
                  have HB4 := Lib.hid hb4
                  have HB5 := Lib.hid hb5
                  have hkbk : (kb : Int) < (k : Int) := by omega
                  have hkb0 : ¬ (kb : Int) < 0 := by omega
                  have hkb1 : (0 : Int) ≤ (kb : Int) := by omega
                  have HBK : Hid (kb < i) := hb2
                  obtain ⟨E1, HE1⟩ : ∃ E, Hid (E = cexc cap W i x.L) := ⟨_, rfl⟩
                  obtain ⟨E2, HE2⟩ : ∃ E, Hid (E = cexc cap W kb y.L) := ⟨_, rfl⟩
                  obtain ⟨m1, HM1⟩ : ∃ E, Hid (E = isum x.L) := ⟨_, rfl⟩
                  obtain ⟨m2, HM2⟩ : ∃ E, Hid (E = isum y.L) := ⟨_, rfl⟩
                  have HWX := Lib.hid (HW.out.on HRX.out.bel (Nat.le_refl _))
                  have HX1 : Hid (∀ q, Calls Try.prog 56 #[.int .i64 cap, .slice Aw k cw, .int .i64 (i : Int), .int .i64 m1] (wr.drewN q) (fun e w' => e = .returned (.int .i64 E1) ∧ ∃ q', w' = (wr.drewN q).drewN q')) := Lib.hid (fun q => by rw [HM1.out, HE1.out]; exact refExc_q _ cap Aw k cw W i (isum x.L) (HWX.out.drewN q) (by omega) HSM.out.2)
                  have HX2 : Hid (∀ q, Calls Try.prog 56 #[.int .i64 cap, .slice Aw k cw, .int .i64 (kb : Int), .int .i64 m2] (wr.drewN q) (fun e w' => e = .returned (.int .i64 E2) ∧ ∃ q', w' = (wr.drewN q).drewN q')) := Lib.hid (fun q => by rw [HM2.out, HE2.out]; exact refExc_q _ cap Aw k cw W kb (isum y.L) (HWX.out.drewN q) (by omega) HSY.out.2)
                  have HS1 : Hid (∀ q, Calls Try.prog 55 #[.slice x.A x.n x.c] (wr.drewN q) (fun e w' => e = .returned (.int .i64 m1) ∧ w' = wr.drewN q)) := Lib.hid (fun q => by rw [HM1.out]; exact (refSum_any _ x.A x.n x.c x.L (HXI.out.drewN q) HSM.out.1).mono fun _ _ h => ⟨h.1, h.2.symm⟩)
                  have HS2 : Hid (∀ q, Calls Try.prog 55 #[.slice y.A y.n y.c] (wr.drewN q) (fun e w' => e = .returned (.int .i64 m2) ∧ w' = wr.drewN q)) := Lib.hid (fun q => by rw [HM2.out]; exact (refSum_any _ y.A y.n y.c y.L (HYI.out.drewN q) HSY.out.1).mono fun _ _ h => ⟨h.1, h.2.symm⟩)
                  clear hy hyi hb2 hb3 hb4 hb5 hyb hyp HBT hp0
                  by_cases hgt : E2 < E1
                  · go_wp2_with fail
                    go_quiet (first | (go_at_call 55; first | (with_reducible exact Calls.quiet_of_same (HS1.out _)) | (with_reducible exact Calls.quiet_of_same (HS2.out _))) | (go_at_call 56; first | (with_reducible exact Calls.quiet_of (HX1.out _)) | (with_reducible exact Calls.quiet_of (HX2.out _))))
                    go_wp2_with fail
                    go_roundg (gk - 1)
                    case measure => omega
                    case rel => exact ⟨i + 1, (i : Int), by omega, by go_num, rfl, BestTo.take HB5.out HST.out HLN.out (by rw [← HE1.out, ← HE2.out]; exact hgt), below_drewN HBX.out _⟩
                  · go_wp2_with fail
                    go_quiet (first | (go_at_call 55; first | (with_reducible exact Calls.quiet_of_same (HS1.out _)) | (with_reducible exact Calls.quiet_of_same (HS2.out _))) | (go_at_call 56; first | (with_reducible exact Calls.quiet_of (HX1.out _)) | (with_reducible exact Calls.quiet_of (HX2.out _))))
                    go_wp2_with fail
                    go_roundg (gk - 1)
                    case measure => omega
                    case rel => exact ⟨i + 1, (kb : Int), by omega, by go_num, rfl, BestTo.stay HBK.out HB3.out HB4.out HB5.out HST.out (by rw [← HE1.out, ← HE2.out]; omega), below_drewN HBX.out _⟩
            · obtain rfl : k = i := by omega
              obtain ⟨kb, p, s, T, hb1, hkl, hst, hbest⟩ := BestTo.best (b := bst) (by rw [HRX.out.len]; exact HBT.out) (show 0 < ssum st by have := HT.out; omega)
              subst hb1
              rw [HRX.out.len] at hkl
              obtain ⟨x, p', hx, hst', hc, hxi, hpc⟩ := HRX.out.at_ hkl
              rw [hst] at hst'
              injection hst' with hst'
              injection hst' with hpp hsT
              subst hpp
              obtain ⟨xA, xn, xc, xL⟩ := x
              simp only at hc hxi hsT
              subst hsT
              have hxn : xn = T.length + 1 := by have := hxi.len; simp at this; omega
              obtain ⟨b, o, s2, hA, _, hs2, hcs, _⟩ := hxi.at_ (j := 0) (by omega)
              subst hA
              simp at hs2
              subst hs2
              rw [Nat.add_zero] at hcs
              have hbB : b < B0 := HRX.out.inb _ (List.mem_of_getElem? hx) b o rfl
              have hbB0 : b < B0 + 1 := by omega
              have hbl : b ≠ lb := fun e => (HRX.out.bx.off _ (List.mem_of_getElem? hx) b o rfl).2 (by rw [e]; rfl)
              have hlbB := HRX.out.lbB
              have hne1 : lb ≠ B0 := by omega
              have hne2 : B0 ≠ lb := by omega
              have hne3 : b ≠ B0 := by omega
              have hfl := HRX.out.bx.own.frozenAt kb
              have hfp := HRX.out.went.frozenAt kb
              have hsb := HRX.out.ok.each _ (List.mem_of_getElem? hst) s List.mem_cons_self
              have hpb : p ≤ 100000 := by have := HRX.out.ok.plc _ (List.mem_of_getElem? hst); simp at this; omega
              have hnv : nv ≤ 1000000 := by have := HRX.out.cnt; omega
              have hkbI : (kb : Int) < (k : Int) := by omega
              have hkb1 : (0 : Int) ≤ (kb : Int) := by omega
              have hxnI : (0 : Int) < (xn : Int) := by omega
              have hxcI : (xn : Int) ≤ (xc : Int) := by have := hxi.sn.le; omega
              have hxc1 : 1 ≤ xc := by have := hxi.sn.le; omega
              have hxn1I : (1 : Int) ≤ (xn : Int) := by omega
              have HST := Lib.hid hst
              have HBEST := Lib.hid hbest
              have HX := Lib.hid hx
              have HXI := Lib.hid hxi
              have HXN := Lib.hid hxn
              have HB1 : Hid (B0 + 1 ≤ wr.heap.size) := (HRX.out.went.lt B0 rfl).2
              have HLIT : Hid (Sn (wr.alloc (.cells #[.int .i64 (kb : Int), .int .i64 (p : Int)] 33)) (wr.heap.size + 1) (some ⟨wr.heap.size, 0, none⟩) 1 1 2 (vvs [(kb, p)])) := lit_sn wr 33 (vvs [(kb, p)]) 1 2 rfl (by unfold maxLen; omega)
              have hxcle := hxi.sn.le
              clear hst hbest hx hxi hxn HBT
              by_cases hc1 : xc = 1
              · have hxn1 : xn = 1 := by omega
                subst hc1 hxn1
                have HDR1 : Hid (Is wr wr.heap.size (some ⟨b, o, none⟩) (1 - 1) 0 T) := Lib.hid (by
                  have h1 := HXI.out.drop (m := 1) (Nat.le_refl 1)
                  simpa using h1)
                go_wp2_with (at_builtin; refine wpList_append_dstN _ rfl (.tmp 99) (.tmp 106) 29 29 rfl (B0 + 1) 33 i2 _ 2 16 Try.underlying29 hk0' hk1 hk2 hk3 rfl Av nv cv (vvs out) rfl (.inr (HRX.out.own.alloc _)) _ 1 (vvs [(kb, p)]) rfl (HLIT.out.src Try.underlying29 (vvs_one _)) (by omega) (by omega) (by have := HB1.out; simp; omega) ?_; intro A9 c9 w9 g1 g2 g3 g4 g5 g6; have HO9 := Lib.hid (g2 (by omega)); have HG9 := Lib.hid g5; have hkp := r2_keep HRX.out g5; have hc9 := (hkp lb kb (Nat.lt_succ_of_lt HRX.out.lbB)).1.trans hc; have hp9 := (hkp B0 kb (Nat.lt_succ_self _)).1.trans hpc; have hs9 := (hkp b o hbB0).1.trans hcs; have hf9 := (hkp lb kb (Nat.lt_succ_of_lt HRX.out.lbB)).2.trans hfl; have hfp9 := (hkp B0 kb (Nat.lt_succ_self _)).2.trans hfp; clear g1 g2 g3 g4 g5 g6 hkp hc hpc hcs hfl hfp)
                go_roundg (g2 - 1)
                case measure => have := slen_set (q := p + 1) HST.out; omega
                case rel =>
                  have hstep := HRX.out.step (A' := (some ⟨b, o, none⟩)) (c' := 0) HST.out HBEST.out (by have := HT.out; omega) HX.out HO9.out HG9.out (fun b2 o2 e => by injection e with e; injection e with e1 e2; subst e1; exact ⟨o, rfl⟩) (HDR1.out)
                  refine ⟨st.set kb (p + 1, T), out ++ [(kb, p)], A9, nv + 1, c9, R.set kb ⟨(some ⟨b, o, none⟩), _, 0, T⟩, t - s, by have := slen_set (q := p + 1) HST.out; omega, rfl, rfl, by rw [ssum_set HST.out, HT.out], hstep⟩
              · have HDR1 : Hid (Is wr wr.heap.size (some ⟨b, o + 1, none⟩) (xn - 1) (xc - 1) T) := Lib.hid (by
                  have h1 := HXI.out.drop (m := 1) (by have := HXN.out; omega)
                  rw [if_neg hc1] at h1
                  simpa [add_plain] using h1)
                go_wp2_with (at_builtin; refine wpList_append_dstN _ rfl (.tmp 99) (.tmp 106) 29 29 rfl (B0 + 1) 33 i2 _ 2 16 Try.underlying29 hk0' hk1 hk2 hk3 rfl Av nv cv (vvs out) rfl (.inr (HRX.out.own.alloc _)) _ 1 (vvs [(kb, p)]) rfl (HLIT.out.src Try.underlying29 (vvs_one _)) (by omega) (by omega) (by have := HB1.out; simp; omega) ?_; intro A9 c9 w9 g1 g2 g3 g4 g5 g6; have HO9 := Lib.hid (g2 (by omega)); have HG9 := Lib.hid g5; have hkp := r2_keep HRX.out g5; have hc9 := (hkp lb kb (Nat.lt_succ_of_lt HRX.out.lbB)).1.trans hc; have hp9 := (hkp B0 kb (Nat.lt_succ_self _)).1.trans hpc; have hs9 := (hkp b o hbB0).1.trans hcs; have hf9 := (hkp lb kb (Nat.lt_succ_of_lt HRX.out.lbB)).2.trans hfl; have hfp9 := (hkp B0 kb (Nat.lt_succ_self _)).2.trans hfp; clear g1 g2 g3 g4 g5 g6 hkp hc hpc hcs hfl hfp)
                go_roundg (g2 - 1)
                case measure => have := slen_set (q := p + 1) HST.out; omega
                case rel =>
                  have hstep := HRX.out.step (A' := (some ⟨b, o + 1, none⟩)) (c' := (xc - 1)) HST.out HBEST.out (by have := HT.out; omega) HX.out HO9.out HG9.out (fun b2 o2 e => by injection e with e; injection e with e1 e2; subst e1; exact ⟨o, rfl⟩) (HDR1.out)
                  refine ⟨st.set kb (p + 1, T), out ++ [(kb, p)], A9, nv + 1, c9, R.set kb ⟨(some ⟨b, o + 1, none⟩), _, (xc - 1), T⟩, t - s, by have := slen_set (q := p + 1) HST.out; omega, rfl, rfl, by rw [ssum_set HST.out, HT.out], hstep⟩
        · go_wp2_with fail
          go_ret2
          have hrun := HR.out.run [] (Goes.done (by have := HT.out; omega))
          rw [List.append_nil] at hrun
          rw [HST0.out] at hrun
          exact ⟨out, Av, nv, cv, hrun, rfl, own_low HR.out.own (by have := HR.out.wB; omega), HR.out.bel⟩
end Go.Proofs.Ytfmfamnngfanfaa
