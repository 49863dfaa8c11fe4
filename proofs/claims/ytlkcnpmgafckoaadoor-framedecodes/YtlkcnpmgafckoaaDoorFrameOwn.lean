/-
  CONTRACT: the law's own 'own': a frame as the reference has it.
  No statement is proved here.
-/
import Derived.Test.YtlkcnpmgafckoaaDoorFrameOne
namespace Go.Proofs.YtlkcnpmgafckoaaDoor
open Go.RowKit

theorem ritem_info : (Tryd.prog.info? 73).map (fun i => (i.zero, i.size, i.bytes)) = some (some (.agg #[.int .u64 0, .int .i64 0, .slice none 0 0]), 3, 40) := by kernel_rfl
def itvs (ks : List Ik) : List Value := ks.flatMap Ik.v
theorem itvs_snoc {ks : List Ik} {j : Nat} {k : Ik} (h : ks[j]? = some k) : itvs (ks.take (j + 1)) = itvs (ks.take j) ++ k.v := by
  unfold itvs
  rw [List.take_add_one, h, List.flatMap_append]
  simp
theorem rvs_snoc {L : List Rn} {j : Nat} {r : Rn} (h : L[j]? = some r) : rvs (L.take (j + 1)) = rvs (L.take j) ++ rv r := by
  rw [List.take_add_one, h, rvs_app]
  simp [rvs]
theorem own_otherN {w : World} {base k : Nat} {e : TypeId} {v : Value} {n : Nat} {xs : List Value} {p : Addr} (u : Value) (h : w.ownsRow base e k v n xs) (hp : p.block < base) : (w.setCell p u).ownsRow base e k v n xs := by
  refine ⟨h.1, ?_⟩
  rcases h.2 with hn | ⟨g, cap, cur, hv, hbg, hh, rest⟩
  · exact .inl hn
  · exact .inr ⟨g, cap, cur, hv, hbg, (Below.heap_setCell w p u g (by omega)).trans hh, rest⟩
theorem Itms.of_own {w : World} {base : Nat} {e : TypeId} {A : Option Addr} {n c : Nat} {ks : List Ik} (h : w.ownsRow base e 3 (.slice A n c) n (itvs ks)) (hs : ∀ k ∈ ks, Sl w w.heap.size k.q.A k.q.n k.q.c k.q.l ∧ k.N < two64) : Itms w w.heap.size A n c ks := by
  have hsn := Sn.of_own h
  have hl : ks.length = n := by
    have := hsn.len
    have e : (itvs ks).length = ks.length * 3 := by
      clear h hs hsn this
      induction ks with
      | nil => rfl
      | cons a t ih => unfold itvs at ih ⊢; rw [List.flatMap_cons, List.length_append, ih, List.length_cons]; simp [Ik.v]; omega
    omega
  refine ⟨hl, hsn.le, hsn.max, fun hn => ?_, hs⟩
  obtain ⟨b, o, e, hb, hc⟩ := hsn.cell (by omega)
  refine ⟨b, o, e, hb, fun j k hk => ?_⟩
  have at3 : ∀ (l : List Ik) (j : Nat), l[j]? = some k → ∀ t, t < 3 → (itvs l)[j * 3 + t]? = k.v[t]? := by
    intro l
    induction l with
    | nil => intro j hj; simp at hj
    | cons a l ih =>
      intro j hj t ht
      have e3 : a.v.length = 3 := rfl
      unfold itvs
      rw [List.flatMap_cons]
      rcases j with _ | j
      · simp at hj
        subst hj
        rw [List.getElem?_append_left (by omega)]
        simp
      · rw [List.getElem?_append_right (by omega), show (j + 1) * 3 + t - a.v.length = j * 3 + t from by omega]
        exact ih j (by simpa using hj) t ht
  have g0 := at3 ks j hk 0 (by omega)
  have g1 := at3 ks j hk 1 (by omega)
  have g2 := at3 ks j hk 2 (by omega)
  exact ⟨by have := hc _ _ g0; simpa using this, by rw [Nat.add_assoc]; exact hc _ _ g1, by rw [Nat.add_assoc]; exact hc _ _ g2⟩

/-- The cells of a frame that is on its way. -/
def RCs (f : Fv) (v7 v8 : Value) : Array Value := #[.int .i64 (f.kd : Int), .int .i64 f.ag, .int .u64 (f.ep : Int), .int .u64 (f.ic : Int), .int .u64 (f.ba : Int), .int .u64 (f.cu : Int), .int .u64 (f.li : Int), v7, v8]
def Own1 (w : World) (f : Fv) (gk : Nat) (i : Value) (wr : World) : Prop :=
  ∃ (j : Nat) (A : Option Addr) (n c : Nat), gk + j = f.L.length ∧ i = .int .i64 (j : Int) ∧ wr.heap[w.heap.size + 1 + 1]? = some (.cells (RCs f (.slice A n c) (.slice none 0 0)) 33 (0, 0)) ∧
    wr.ownsRow (w.heap.size + 3) 76 2 (.slice A n c) n (rvs (f.L.take j)) ∧ wr.heap[w.heap.size]? = some f.box ∧ wr.heap[w.heap.size + 1]? = some (.cells (#[.int .i64 0, .int .i64 0, .int .u64 0, .int .u64 0, .int .u64 0, .int .u64 0, .int .u64 0, .slice none 0 0, .slice none 0 0]) 33 (0, 0)) ∧ w.heap.size + 3 ≤ wr.heap.size ∧ Below w.heap.size w wr
def Own2 (w : World) (f : Fv) (M : Nat) (A : Option Addr) (n c : Nat) (gk : Nat) (i : Value) (wr : World) : Prop :=
  ∃ (j : Nat) (A2 : Option Addr) (n2 c2 : Nat), gk + j = f.ks.length ∧ i = .int .i64 (j : Int) ∧ wr.heap[w.heap.size + 1 + 1]? = some (.cells (RCs f (.slice A n c) (.slice A2 n2 c2)) 33 (0, 0)) ∧
    Sn wr M A n c 2 (rvs f.L) ∧ wr.ownsRow M 73 3 (.slice A2 n2 c2) n2 (itvs (f.ks.take j)) ∧ wr.heap[w.heap.size]? = some f.box ∧ wr.heap[w.heap.size + 1]? = some (.cells (#[.int .i64 0, .int .i64 0, .int .u64 0, .int .u64 0, .int .u64 0, .int .u64 0, .int .u64 0, .slice none 0 0, .slice none 0 0]) 33 (0, 0)) ∧ M ≤ wr.heap.size ∧ Below w.heap.size w wr
theorem Sn.off {w : World} {B : Nat} {A : Option Addr} {n c k : Nat} {xs : List Value} {p : Addr} (h : Sn w B A n c k xs) (hp : ∀ b o, A = some ⟨b, o, none⟩ → b ≠ p.block) (u : Value) : Sn (w.setCell p u) B A n c k xs :=
  ⟨h.len, h.le, h.max, fun hn => by
    obtain ⟨b, o, e, hb, hc⟩ := h.cell hn
    refine ⟨b, o, e, hb, fun j x hx => ?_⟩
    rw [World.cell?_setCell_other w p ⟨b, o + j, none⟩ u (fun e' => hp b o e (by rw [e']))]
    exact hc j x hx⟩
theorem itv_one (k : Ik) : ∀ u ∈ k.v, u.oneCell' = true := by
  intro u hu
  simp only [Ik.v, List.mem_cons, List.not_mem_nil, or_false] at hu
  rcases hu with rfl | rfl | rfl <;> rfl
theorem itvs_len (ks : List Ik) : (itvs ks).length = ks.length * 3 := by
  induction ks with
  | nil => rfl
  | cons a t ih => unfold itvs at ih ⊢; rw [List.flatMap_cons, List.length_append, ih, List.length_cons]; simp [Ik.v]; omega
theorem set9_own {w : World} {base k r : Nat} {e : TypeId} {v : Value} {n : Nat} {xs : List Value} (u0 u1 u2 u3 u4 u5 u6 u7 u8 : Value) (h : w.ownsRow base e k v n xs) (hr : r < base) : (set9 w r u0 u1 u2 u3 u4 u5 u6 u7 u8).ownsRow base e k v n xs := by
  unfold set9
  exact own_otherN _ (own_otherN _ (own_otherN _ (own_otherN _ (own_otherN _ (own_otherN _ (own_otherN _ (own_otherN _ (own_otherN _ h hr) hr) hr) hr) hr) hr) hr) hr) hr
theorem set9_sn {w : World} {B r : Nat} {A : Option Addr} {n c k : Nat} {xs : List Value} (u0 u1 u2 u3 u4 u5 u6 u7 u8 : Value) (h : Sn w B A n c k xs) (hr : ∀ b o, A = some ⟨b, o, none⟩ → b ≠ r) : Sn (set9 w r u0 u1 u2 u3 u4 u5 u6 u7 u8) B A n c k xs := by
  unfold set9
  exact ((((((((h.off (p := ⟨r, 0, none⟩) hr u0).off (p := ⟨r, 1, none⟩) hr u1).off (p := ⟨r, 2, none⟩) hr u2).off (p := ⟨r, 3, none⟩) hr u3).off (p := ⟨r, 4, none⟩) hr u4).off (p := ⟨r, 5, none⟩) hr u5).off (p := ⟨r, 6, none⟩) hr u6).off (p := ⟨r, 7, none⟩) hr u7).off (p := ⟨r, 8, none⟩) hr u8
theorem set9_size (w : World) (r : Nat) (u0 u1 u2 u3 u4 u5 u6 u7 u8 : Value) : (set9 w r u0 u1 u2 u3 u4 u5 u6 u7 u8).heap.size = w.heap.size := by unfold set9; simp only [World.size_setCell]
/-- A frame as the reference has it: the same. -/
def OwnPost (w : World) (f : Fv) (e : Ending) (w' : World) : Prop := ∃ f' : Fv, e = .returned f'.r ∧ FrAt w' f' ∧ f'.m = f.m ∧ f'.nr = f.nr ∧ f'.ni = f.ni ∧ Below w.heap.size w w'

set_option maxRecDepth 100000 in
set_option maxHeartbeats 2000000 in
theorem own_any (w : World) (f : Fv) (h : FrAt w f) (hn : f.nr ≤ 40) (hi : f.ni ≤ 70) :
    Calls Tryd.prog 14 #[f.v] w (OwnPost w f) := by
  have HF := Lib.hid h
  have hkd := h.kd
  have hmr := h.rs.sn.max
  have hmi := h.it.max
  have hlr := h.rs.sn.le
  have hli := h.it.le
  unfold maxLen at hmr hmi
  have HLR := Lib.hid h.rs.len
  have HLI := Lib.hid h.it.len
  obtain ⟨i0, hi0, hz0, hz1, hz2⟩ := info_parts rrun_info
  obtain ⟨i1, hi1, hy0, hy1, hy2⟩ := info_parts ritem_info
  have hwk : IntKind.i64.wrap (f.kd : Int) = (f.kd : Int) := by rw [IntKind.wrap_i64]; omega
  clear h
  unfold Fv.v
  go_enter Tryd.func14, Tryd.ntmps14
  go_wp2
  have hbel : Below w.heap.size w (((w.alloc f.box).alloc (.cells #[.int .i64 0, .int .i64 0, .int .u64 0, .int .u64 0, .int .u64 0, .int .u64 0, .int .u64 0, .slice none 0 0, .slice none 0 0] 33)).alloc (.cells (RCs f (.slice none 0 0) (.slice none 0 0)) 33)) := ((below_box w _).alloc (by simp) _).alloc (by simp; omega) _
  have hb0 : (((w.alloc f.box).alloc (.cells #[.int .i64 0, .int .i64 0, .int .u64 0, .int .u64 0, .int .u64 0, .int .u64 0, .int .u64 0, .slice none 0 0, .slice none 0 0] 33)).alloc (.cells (RCs f (.slice none 0 0) (.slice none 0 0)) 33)).heap[w.heap.size]? = some f.box :=
    (Below.heap_alloc _ _ _ (by simp; omega)).trans ((Below.heap_alloc _ _ _ (by simp)).trans (heap_alloc_new w _))
  have hb1 : (((w.alloc f.box).alloc (.cells #[.int .i64 0, .int .i64 0, .int .u64 0, .int .u64 0, .int .u64 0, .int .u64 0, .int .u64 0, .slice none 0 0, .slice none 0 0] 33)).alloc (.cells (RCs f (.slice none 0 0) (.slice none 0 0)) 33)).heap[w.heap.size + 1]? = some (.cells #[.int .i64 0, .int .i64 0, .int .u64 0, .int .u64 0, .int .u64 0, .int .u64 0, .int .u64 0, .slice none 0 0, .slice none 0 0] 33 (0, 0)) :=
    (Below.heap_alloc _ _ _ (by simp)).trans (by have := heap_alloc_new (w.alloc f.box) (.cells #[.int .i64 0, .int .i64 0, .int .u64 0, .int .u64 0, .int .u64 0, .int .u64 0, .int .u64 0, .slice none 0 0, .slice none 0 0] 33); simpa using this)
  have hb2 : (((w.alloc f.box).alloc (.cells #[.int .i64 0, .int .i64 0, .int .u64 0, .int .u64 0, .int .u64 0, .int .u64 0, .int .u64 0, .slice none 0 0, .slice none 0 0] 33)).alloc (.cells (RCs f (.slice none 0 0) (.slice none 0 0)) 33)).heap[w.heap.size + 1 + 1]? = some (.cells (RCs f (.slice none 0 0) (.slice none 0 0)) 33 (0, 0)) := by
    have := heap_alloc_new ((w.alloc f.box).alloc (.cells #[.int .i64 0, .int .i64 0, .int .u64 0, .int .u64 0, .int .u64 0, .int .u64 0, .int .u64 0, .slice none 0 0, .slice none 0 0] 33)) (.cells (RCs f (.slice none 0 0) (.slice none 0 0)) 33)
    simpa using this
  have hsz : w.heap.size + 3 ≤ (((w.alloc f.box).alloc (.cells #[.int .i64 0, .int .i64 0, .int .u64 0, .int .u64 0, .int .u64 0, .int .u64 0, .int .u64 0, .slice none 0 0, .slice none 0 0] 33)).alloc (.cells (RCs f (.slice none 0 0) (.slice none 0 0)) 33)).heap.size := by simp
  change Code.wp _ _ _ _ (((w.alloc f.box).alloc (.cells #[.int .i64 0, .int .i64 0, .int .u64 0, .int .u64 0, .int .u64 0, .int .u64 0, .int .u64 0, .slice none 0 0, .slice none 0 0] 33)).alloc (.cells (RCs f (.slice none 0 0) (.slice none 0 0)) 33))
  generalize (((w.alloc f.box).alloc (.cells #[.int .i64 0, .int .i64 0, .int .u64 0, .int .u64 0, .int .u64 0, .int .u64 0, .int .u64 0, .slice none 0 0, .slice none 0 0] 33)).alloc (.cells (RCs f (.slice none 0 0) (.slice none 0 0)) 33)) = wb at *
  have HS1 : Hid (Own1 w f f.nr (.int .i64 0) wb) := ⟨0, none, 0, 0, by have := HLR.out; omega, rfl, hb2, ⟨rfl, .inl ⟨rfl, rfl⟩⟩, hb0, hb1, hsz, hbel⟩
  clear hb0 hb1 hb2 hsz hbel
  go_loopg [27] f.nr (fun gk i wr => Own1 w f gk i wr)
  case atStart => exact HS1.out
  case round =>
    obtain ⟨j, A, n, c, hj, rfl, hx2, hown, hx0, hx1, hsz, hbel⟩ := hrel
    have HJ := Lib.hid hj
    have HX2 := Lib.hid hx2
    have HX0 := Lib.hid hx0
    have HX1 := Lib.hid hx1
    have HO := Lib.hid hown
    have HB := Lib.hid hbel
    have hnj : n = j := by
      have := hown.1
      rw [rvs_len, List.length_take, HLR.out] at this
      have := HJ.out
      have := HLR.out
      omega
    have HNJ := Lib.hid hnj
    clear hj hown HS1 hnj
    by_cases hlt : j < f.nr
    · obtain ⟨bb, o, r, ea, hbb, hr, c0, c1, l0, l1⟩ := HF.out.rs.at_ hlt
      have d0 := (hbel.cell (p := ⟨bb, o + j * 2, none⟩) hbb).trans c0
      have d1 := (hbel.cell (p := ⟨bb, o + j * 2 + 1, none⟩) hbb).trans c1
      have hbz : bb < wr.heap.size := Nat.lt_of_lt_of_le hbb hbel.size
      have c7 : wr.cell? ⟨w.heap.size + 1 + 1, 7, none⟩ = some (.slice A n c) := by rw [cell_of_row wr _ 7 _ _ _ hx2]; rfl
      have hgz : w.heap.size + 1 + 1 < wr.heap.size := by omega
      have HR := Lib.hid hr
      have HOQ := Lib.hid ((HO.out.alloc (.cells #[.int .u64 (r.1 : Int), .int .u64 (r.2 : Int)] 77)).alloc (.cells #[.int .u64 (r.1 : Int), .int .u64 (r.2 : Int)] 76))
      have HSQ : Hid (Sn ((wr.alloc (.cells #[.int .u64 (r.1 : Int), .int .u64 (r.2 : Int)] 77)).alloc (.cells #[.int .u64 (r.1 : Int), .int .u64 (r.2 : Int)] 76)) (wr.heap.size + 1 + 1) (some ⟨wr.heap.size + 1, 0, none⟩) 1 1 2 (rv r)) := by
        have hq := lit_sn (wr.alloc (.cells #[.int .u64 (r.1 : Int), .int .u64 (r.2 : Int)] 77)) 76 (rv r) 1 2 rfl (by unfold maxLen; omega)
        rw [World.size_alloc] at hq
        exact hq
      have HBQ : Hid (Below wr.heap.size wr ((wr.alloc (.cells #[.int .u64 (r.1 : Int), .int .u64 (r.2 : Int)] 77)).alloc (.cells #[.int .u64 (r.1 : Int), .int .u64 (r.2 : Int)] 76))) := (below_box wr _).alloc (by simp) _
      have hn1 : n + 1 ≤ 41 := by have := HNJ.out; omega
      clear c0 c1 l0 l1 hr hbb hbel hx2 hx0 hx1
      rw [ea]
      go_wp2_with (at_builtin; go_must (refine wpList_append_dstN _ rfl (.tmp 32) (.tmp 34) 30 30 rfl (w.heap.size + 3) 76 i0 _ 2 16 Tryd.underlying30 hi0 hz0 hz1 hz2 rfl A n c (rvs (f.L.take j)) rfl (.inr HOQ.out) _ 1 (rv r) rfl (HSQ.out.src Tryd.underlying30 (rv_one r)) (by omega) (by omega) (by simp; omega) ?_); intro A4 c4 w4 h1 h2 h3 h4 h5 h6; have hk4 := (h4.block (w.heap.size + 1 + 1) (by omega)).trans ((HBQ.out.block _ hgz).trans HX2.out); have hc4 : w4.cell? ⟨w.heap.size + 1 + 1, 7, none⟩ = some (.slice A n c) := (by rw [cell_of_row w4 _ 7 _ _ _ hk4]; rfl); have hf4 := frz_block (i := 7) hk4; have HK4 := Lib.hid hk4; have HO4 := Lib.hid (h3 HOQ.out); have HB4 := Lib.hid h4; clear h1 h2 h3 h4 h5 h6 hk4)
      rw [← ea]
      go_roundg (gk - 1)
      case measure => have := HJ.out; have := HLR.out; omega
      case rel =>
        have hgb := HB.out.size
        have hq4 : Below w.heap.size w w4 := (HB.out.trans (HBQ.out.mono hgb)).trans (HB4.out.mono (by omega))
        have ho4 := HO4.out
        rw [← rvs_snoc HR.out] at ho4
        have hr4 := heap_setCell_same w4 (w.heap.size + 1 + 1) 7 _ _ (.slice A4 (n + 1) c4) HK4.out
        refine ⟨j + 1, A4, n + 1, c4, by have := HJ.out; have := HLR.out; omega, by go_num, hr4, own_otherN _ ho4 (by show w.heap.size + 1 + 1 < _; omega), ?_, ?_, ?_, hq4.setCell (p := ⟨w.heap.size + 1 + 1, 7, none⟩) (by show _ ≤ w.heap.size + 1 + 1; omega) _⟩
        · exact (Below.heap_setCell w4 ⟨w.heap.size + 1 + 1, 7, none⟩ _ _ (by show w.heap.size ≠ w.heap.size + 1 + 1; omega)).trans ((HB4.out.block _ (by omega)).trans ((HBQ.out.block _ (by omega)).trans HX0.out))
        · exact (Below.heap_setCell w4 ⟨w.heap.size + 1 + 1, 7, none⟩ _ _ (by show w.heap.size + 1 ≠ w.heap.size + 1 + 1; omega)).trans ((HB4.out.block _ (by omega)).trans ((HBQ.out.block _ (by omega)).trans HX1.out))
        · rw [World.size_setCell]
          have := HB4.out.size
          have := HBQ.out.size
          omega
    · have HE : Hid (f.L.take j = f.L) := List.take_of_length_le (by have := HLR.out; omega)
      have c8 : wr.cell? ⟨w.heap.size, 8, none⟩ = some (.slice f.Ai f.ni f.ci) := by rw [cell_of_row wr _ 8 _ _ _ hx0]; rfl
      have ho := HO.out
      rw [HE.out] at ho
      have HSN := Lib.hid (Sn.of_own ho)
      have HLO : Hid (∀ b o, A = some ⟨b, o, none⟩ → w.heap.size + 3 ≤ b) := fun b o e => (ho.lt b (by rw [e]; rfl)).1
      obtain ⟨M, hM⟩ : ∃ M, M = wr.heap.size := ⟨_, rfl⟩
      have HM : Hid (w.heap.size + 3 ≤ M) := by show _ ≤ _; omega
      have HS2 : Hid (Own2 w f M A n c f.ni (.int .i64 0) wr) := ⟨0, none, 0, 0, by have := HLI.out; omega, rfl, HX2.out, by rw [hM]; exact HSN.out, ⟨rfl, .inl ⟨rfl, rfl⟩⟩, HX0.out, HX1.out, by omega, HB.out⟩
      have HNL : Hid (n = f.nr) := by have := HNJ.out; have := HJ.out; have := HLR.out; show _ = _; omega
      clear ho hM
      clear hx0 hx1 hx2 hbel
      go_wp2
      go_loopg [41] f.ni (fun gk i wr => Own2 w f M A n c gk i wr)
      case atStart => exact HS2.out
      case round =>
        obtain ⟨j2, A2, n2, c2, hj2, rfl, hx2, hsn, hown, hx0, hx1, hsz2, hbel⟩ := hrel
        have HJ2 := Lib.hid hj2
        have HX22 := Lib.hid hx2
        have HX20 := Lib.hid hx0
        have HX21 := Lib.hid hx1
        have HO2 := Lib.hid hown
        have HB2 := Lib.hid hbel
        have HSN2 := Lib.hid hsn
        have HNJ2 : Hid (n2 = j2) := by
          have h1 := hown.1
          rw [itvs_len, List.length_take, HLI.out] at h1
          have := HJ2.out
          have := HLI.out
          show _ = _
          omega
        have hgz : w.heap.size + 1 + 1 < wr.heap.size := by have := HM.out; omega
        clear hj2 hown HS2 hsn
        by_cases hlt2 : j2 < f.ni
        · obtain ⟨bb, o, k, ea, hbb, hk, d0', d1', d2', hsl, hkN⟩ := HF.out.it.at_ hlt2
          have d0 := (hbel.cell (p := ⟨bb, o + j2 * 3, none⟩) hbb).trans d0'
          have d1 := (hbel.cell (p := ⟨bb, o + j2 * 3 + 1, none⟩) hbb).trans d1'
          have d2 := (hbel.cell (p := ⟨bb, o + j2 * 3 + 2, none⟩) hbb).trans d2'
          have hbz : bb < wr.heap.size := Nat.lt_of_lt_of_le hbb hbel.size
          have c9 : wr.cell? ⟨w.heap.size + 1 + 1, 8, none⟩ = some (.slice A2 n2 c2) := by rw [cell_of_row wr _ 8 _ _ _ hx2]; rfl
          have HK := Lib.hid hk
          have HOQ := Lib.hid ((HO2.out.alloc (.cells #[.int .u64 (k.N : Int), .int .i64 k.C, .slice k.q.A k.q.n k.q.c] 58)).alloc (.cells #[.int .u64 (k.N : Int), .int .i64 k.C, .slice k.q.A k.q.n k.q.c] 73))
          have HSQ : Hid (Sn ((wr.alloc (.cells #[.int .u64 (k.N : Int), .int .i64 k.C, .slice k.q.A k.q.n k.q.c] 58)).alloc (.cells #[.int .u64 (k.N : Int), .int .i64 k.C, .slice k.q.A k.q.n k.q.c] 73)) (wr.heap.size + 1 + 1) (some ⟨wr.heap.size + 1, 0, none⟩) 1 1 3 k.v) := by
            have hq := lit_sn (wr.alloc (.cells #[.int .u64 (k.N : Int), .int .i64 k.C, .slice k.q.A k.q.n k.q.c] 58)) 73 k.v 1 3 rfl (by unfold maxLen; omega)
            rw [World.size_alloc] at hq
            exact hq
          have HBQ : Hid (Below wr.heap.size wr ((wr.alloc (.cells #[.int .u64 (k.N : Int), .int .i64 k.C, .slice k.q.A k.q.n k.q.c] 58)).alloc (.cells #[.int .u64 (k.N : Int), .int .i64 k.C, .slice k.q.A k.q.n k.q.c] 73))) := (below_box wr _).alloc (by simp) _
          have hn1 : n2 + 1 ≤ 71 := by have := HNJ2.out; omega
          clear d0' d1' d2' hsl hkN hk hbb hbel hx2 hx0 hx1
          rw [ea]
          go_wp2_with (at_builtin; go_must (refine wpList_append_dstN _ rfl (.tmp 46) (.tmp 52) 31 31 rfl M 73 i1 _ 3 40 Tryd.underlying31 hi1 hy0 hy1 hy2 rfl A2 n2 c2 (itvs (f.ks.take j2)) rfl (.inr HOQ.out) _ 1 k.v rfl (HSQ.out.src Tryd.underlying31 (itv_one k)) (by omega) (by omega) (by simp; omega) ?_); intro A4 c4 w4 h1 h2 h3 h4 h5 h6; have hk4 := (h4.block (w.heap.size + 1 + 1) (by have := HM.out; omega)).trans ((HBQ.out.block _ hgz).trans HX22.out); have hc4 : w4.cell? ⟨w.heap.size + 1 + 1, 8, none⟩ = some (.slice A2 n2 c2) := (by rw [cell_of_row w4 _ 8 _ _ _ hk4]; rfl); have hf4 := frz_block (i := 8) hk4; have HK4 := Lib.hid hk4; have HO4 := Lib.hid (h3 HOQ.out); have HB4 := Lib.hid h4; clear h1 h2 h3 h4 h5 h6 hk4)
          rw [← ea]
          go_roundg (gk - 1)
          case measure => have := HJ2.out; have := HLI.out; omega
          case rel =>
            have hgb := HB2.out.size
            have hM := HM.out
            have hq4 : Below w.heap.size w w4 := (HB2.out.trans (HBQ.out.mono hgb)).trans (HB4.out.mono (by omega))
            have ho4 := HO4.out
            rw [← itvs_snoc HK.out] at ho4
            have hr4 := heap_setCell_same w4 (w.heap.size + 1 + 1) 8 _ _ (.slice A4 (n2 + 1) c4) HK4.out
            refine ⟨j2 + 1, A4, n2 + 1, c4, by have := HJ2.out; have := HLI.out; omega, by go_num, hr4, ?_, own_otherN _ ho4 (by show w.heap.size + 1 + 1 < _; omega), ?_, ?_, ?_, hq4.setCell (p := ⟨w.heap.size + 1 + 1, 8, none⟩) (by show _ ≤ w.heap.size + 1 + 1; omega) _⟩
            · exact (((HSN2.out.below HBQ.out hsz2).below HB4.out (Nat.le_refl _)).off (p := ⟨w.heap.size + 1 + 1, 8, none⟩) (fun b o e => by have := HLO.out b o e; show b ≠ w.heap.size + 1 + 1; omega) _)
            · exact (Below.heap_setCell w4 ⟨w.heap.size + 1 + 1, 8, none⟩ _ _ (by show w.heap.size ≠ w.heap.size + 1 + 1; omega)).trans ((HB4.out.block _ (by omega)).trans ((HBQ.out.block _ (by omega)).trans HX20.out))
            · exact (Below.heap_setCell w4 ⟨w.heap.size + 1 + 1, 8, none⟩ _ _ (by show w.heap.size + 1 ≠ w.heap.size + 1 + 1; omega)).trans ((HB4.out.block _ (by omega)).trans ((HBQ.out.block _ (by omega)).trans HX21.out))
            · rw [World.size_setCell]
              have := HB4.out.size
              have := HBQ.out.size
              omega
        · have HE2 : Hid (f.ks.take j2 = f.ks) := List.take_of_length_le (by have := HLI.out; omega)
          have q : ∀ i, wr.cell? ⟨w.heap.size + 1 + 1, i, none⟩ = (RCs f (.slice A n c) (.slice A2 n2 c2))[i]? := fun i => cell_of_row wr _ i _ _ _ hx2
          have q0 : wr.cell? ⟨w.heap.size + 1 + 1, 0, none⟩ = some (.int .i64 (f.kd : Int)) := q 0
          have q1 : wr.cell? ⟨w.heap.size + 1 + 1, 1, none⟩ = some (.int .i64 f.ag) := q 1
          have q2 : wr.cell? ⟨w.heap.size + 1 + 1, 2, none⟩ = some (.int .u64 (f.ep : Int)) := q 2
          have q3 : wr.cell? ⟨w.heap.size + 1 + 1, 3, none⟩ = some (.int .u64 (f.ic : Int)) := q 3
          have q4 : wr.cell? ⟨w.heap.size + 1 + 1, 4, none⟩ = some (.int .u64 (f.ba : Int)) := q 4
          have q5 : wr.cell? ⟨w.heap.size + 1 + 1, 5, none⟩ = some (.int .u64 (f.cu : Int)) := q 5
          have q6 : wr.cell? ⟨w.heap.size + 1 + 1, 6, none⟩ = some (.int .u64 (f.li : Int)) := q 6
          have q7 : wr.cell? ⟨w.heap.size + 1 + 1, 7, none⟩ = some (.slice A n c) := q 7
          have q8 : wr.cell? ⟨w.heap.size + 1 + 1, 8, none⟩ = some (.slice A2 n2 c2) := q 8
          clear hx2 hx0 hbel q
          have r : ∀ i, wr.cell? ⟨w.heap.size + 1, i, none⟩ = (#[Value.int .i64 0, .int .i64 0, .int .u64 0, .int .u64 0, .int .u64 0, .int .u64 0, .int .u64 0, .slice none 0 0, .slice none 0 0] : Array Value)[i]? := fun i => cell_of_row wr _ i _ _ _ hx1
          have r0 : wr.cell? ⟨w.heap.size + 1, 0, none⟩ = some (.int .i64 0) := r 0
          have f0 := frz_block (i := 0) hx1
          have r1 : wr.cell? ⟨w.heap.size + 1, 1, none⟩ = some (.int .i64 0) := r 1
          have f1 := frz_block (i := 1) hx1
          have r2 : wr.cell? ⟨w.heap.size + 1, 2, none⟩ = some (.int .u64 0) := r 2
          have f2 := frz_block (i := 2) hx1
          have r3 : wr.cell? ⟨w.heap.size + 1, 3, none⟩ = some (.int .u64 0) := r 3
          have f3 := frz_block (i := 3) hx1
          have r4 : wr.cell? ⟨w.heap.size + 1, 4, none⟩ = some (.int .u64 0) := r 4
          have f4 := frz_block (i := 4) hx1
          have r5 : wr.cell? ⟨w.heap.size + 1, 5, none⟩ = some (.int .u64 0) := r 5
          have f5 := frz_block (i := 5) hx1
          have r6 : wr.cell? ⟨w.heap.size + 1, 6, none⟩ = some (.int .u64 0) := r 6
          have f6 := frz_block (i := 6) hx1
          have r7 : wr.cell? ⟨w.heap.size + 1, 7, none⟩ = some (.slice none 0 0) := r 7
          have f7 := frz_block (i := 7) hx1
          have r8 : wr.cell? ⟨w.heap.size + 1, 8, none⟩ = some (.slice none 0 0) := r 8
          have f8 := frz_block (i := 8) hx1
          have HB9 := Lib.hid (set9_heap (.int .i64 (f.kd : Int)) (.int .i64 f.ag) (.int .u64 (f.ep : Int)) (.int .u64 (f.ic : Int)) (.int .u64 (f.ba : Int)) (.int .u64 (f.cu : Int)) (.int .u64 (f.li : Int)) (.slice A n c) (.slice A2 n2 c2) hx1)
          have HO9 := Lib.hid (set9_own (.int .i64 (f.kd : Int)) (.int .i64 f.ag) (.int .u64 (f.ep : Int)) (.int .u64 (f.ic : Int)) (.int .u64 (f.ba : Int)) (.int .u64 (f.cu : Int)) (.int .u64 (f.li : Int)) (.slice A n c) (.slice A2 n2 c2) HO2.out (show w.heap.size + 1 < M by have := HM.out; omega))
          have HN9 := Lib.hid (set9_sn (r := w.heap.size + 1) (.int .i64 (f.kd : Int)) (.int .i64 f.ag) (.int .u64 (f.ep : Int)) (.int .u64 (f.ic : Int)) (.int .u64 (f.ba : Int)) (.int .u64 (f.cu : Int)) (.int .u64 (f.li : Int)) (.slice A n c) (.slice A2 n2 c2) HSN2.out (fun b o e => by have := HLO.out b o e; omega))
          have HB29 := Lib.hid (set9_below (r := w.heap.size + 1) (.int .i64 (f.kd : Int)) (.int .i64 f.ag) (.int .u64 (f.ep : Int)) (.int .u64 (f.ic : Int)) (.int .u64 (f.ba : Int)) (.int .u64 (f.cu : Int)) (.int .u64 (f.li : Int)) (.slice A n c) (.slice A2 n2 c2) HB2.out (by omega))
          have HZ9 := Lib.hid (set9_size wr (w.heap.size + 1) (.int .i64 (f.kd : Int)) (.int .i64 f.ag) (.int .u64 (f.ep : Int)) (.int .u64 (f.ic : Int)) (.int .u64 (f.ba : Int)) (.int .u64 (f.cu : Int)) (.int .u64 (f.li : Int)) (.slice A n c) (.slice A2 n2 c2))
          clear hx1 r
          go_wp2
          have hr : ∀ i, (set9 wr (w.heap.size + 1) (.int .i64 (f.kd : Int)) (.int .i64 f.ag) (.int .u64 (f.ep : Int)) (.int .u64 (f.ic : Int)) (.int .u64 (f.ba : Int)) (.int .u64 (f.cu : Int)) (.int .u64 (f.li : Int)) (.slice A n c) (.slice A2 n2 c2)).cell? ⟨w.heap.size + 1, i, none⟩ = (#[Value.int .i64 (f.kd : Int), .int .i64 f.ag, .int .u64 (f.ep : Int), .int .u64 (f.ic : Int), .int .u64 (f.ba : Int), .int .u64 (f.cu : Int), .int .u64 (f.li : Int), .slice A n c, .slice A2 n2 c2] : Array Value)[i]? := fun i => cell_of_row _ _ i _ _ _ HB9.out
          change bodyPost _ _ _ _ _ (set9 wr (w.heap.size + 1) (.int .i64 (f.kd : Int)) (.int .i64 f.ag) (.int .u64 (f.ep : Int)) (.int .u64 (f.ic : Int)) (.int .u64 (f.ba : Int)) (.int .u64 (f.cu : Int)) (.int .u64 (f.li : Int)) (.slice A n c) (.slice A2 n2 c2))
          generalize set9 wr (w.heap.size + 1) (.int .i64 (f.kd : Int)) (.int .i64 f.ag) (.int .u64 (f.ep : Int)) (.int .u64 (f.ic : Int)) (.int .u64 (f.ba : Int)) (.int .u64 (f.cu : Int)) (.int .u64 (f.li : Int)) (.slice A n c) (.slice A2 n2 c2) = w9 at *
          refine bodyPost_ret (v := .agg #[Value.int .i64 (f.kd : Int), .int .i64 f.ag, .int .u64 (f.ep : Int), .int .u64 (f.ic : Int), .int .u64 (f.ba : Int), .int .u64 (f.cu : Int), .int .u64 (f.li : Int), .slice A n c, .slice A2 n2 c2]) (by simp [results, Tryd.results14, go_sem, hr]) rfl ?_
          have ho9 := HO9.out
          rw [HE2.out] at ho9
          have hM9 : M ≤ w9.heap.size := by rw [HZ9.out]; exact hsz2
          refine ⟨⟨f.kd, f.ag, f.ep, f.ic, f.ba, f.cu, f.li, A, n, c, f.L, A2, n2, c2, f.ks⟩, rfl, ?_, rfl, HNL.out, by have := HNJ2.out; have := HJ2.out; have := HLI.out; show n2 = f.ni; omega, HB29.out⟩
          have hf := HF.out
          exact ⟨⟨HN9.out.more hM9, hf.rs.lt⟩, Itms.of_own ho9 (fun k hk => ⟨((hf.it.sl k hk).1.below HB29.out (Nat.le_refl _)).more HB29.out.size, (hf.it.sl k hk).2⟩), hf.kd, hf.ag, hf.ep, hf.ic, hf.ba, hf.cu, hf.li⟩
end Go.Proofs.YtlkcnpmgafckoaaDoor
