/-
  CONTRACTS of layer 5: what a kind's frames are told with, written.
  No statement is proved here.
-/
import Derived.Test.YtlkcnpmgafckoaaDoorFrameOne
import Derived.Test.YtlkcnpmgafckoaaDoorFrameNums
namespace Go.Proofs.YtlkcnpmgafckoaaDoor
open Go.RowKit

theorem u64_lit1 (w : World) (t : TypeId) (x : Nat) : Sn (w.alloc (.cells #[.int .u64 (x : Int)] t)) (w.alloc (.cells #[.int .u64 (x : Int)] t)).heap.size (some ⟨w.heap.size, 0, none⟩) 1 1 1 (u64s [x]) := by
  have h := lit_sn w t (u64s [x]) 1 1 rfl (by unfold maxLen; omega)
  exact h.more (by simp)
theorem u64_lit2 (w : World) (t : TypeId) (x y : Nat) : Sn (w.alloc (.cells #[.int .u64 (x : Int), .int .u64 (y : Int)] t)) (w.alloc (.cells #[.int .u64 (x : Int), .int .u64 (y : Int)] t)).heap.size (some ⟨w.heap.size, 0, none⟩) 2 2 1 (u64s [x, y]) := by
  have h := lit_sn w t (u64s [x, y]) 2 1 rfl (by unfold maxLen; omega)
  exact h.more (by simp)
theorem u64_lit3 (w : World) (t : TypeId) (x y z : Nat) : Sn (w.alloc (.cells #[.int .u64 (x : Int), .int .u64 (y : Int), .int .u64 (z : Int)] t)) (w.alloc (.cells #[.int .u64 (x : Int), .int .u64 (y : Int), .int .u64 (z : Int)] t)).heap.size (some ⟨w.heap.size, 0, none⟩) 3 3 1 (u64s [x, y, z]) := by
  have h := lit_sn w t (u64s [x, y, z]) 3 1 rfl (by unfold maxLen; omega)
  exact h.more (by simp)
theorem u64_lit4 (w : World) (t : TypeId) (x y z u : Nat) : Sn (w.alloc (.cells #[.int .u64 (x : Int), .int .u64 (y : Int), .int .u64 (z : Int), .int .u64 (u : Int)] t)) (w.alloc (.cells #[.int .u64 (x : Int), .int .u64 (y : Int), .int .u64 (z : Int), .int .u64 (u : Int)] t)).heap.size (some ⟨w.heap.size, 0, none⟩) 4 4 1 (u64s [x, y, z, u]) := by
  have h := lit_sn w t (u64s [x, y, z, u]) 4 1 rfl (by unfold maxLen; omega)
  exact h.more (by simp)
theorem Fresh.from {w w1 : World} {l : List UInt8} {e : Ending} {w' : World} (hb : Below w.heap.size w w1) (h : Fresh w1 l e w') : Fresh w l e w' := by
  obtain ⟨A, n, c, rfl, ho, hb'⟩ := h
  exact ⟨A, n, c, rfl, own_lower ho hb.size, hb.trans (hb'.mono hb.size)⟩

def runsB (L : List Rn) : List UInt8 := L.flatMap fun r => numsB [r.1, r.2]
theorem runsB_snoc {L : List Rn} {j : Nat} {r : Rn} (h : L[j]? = some r) : runsB (L.take (j + 1)) = runsB (L.take j) ++ numsB [r.1, r.2] := by
  unfold runsB
  rw [List.take_add_one, h, List.flatMap_append]
  simp
theorem runsB_len (L : List Rn) (h : ∀ q ∈ L, q.1 < two64 ∧ q.2 < two64) : (runsB L).length ≤ 20 * L.length := by
  induction L with
  | nil => simp [runsB]
  | cons x t ih =>
    have h1 := ih (fun y hy => h y (List.mem_cons_of_mem _ hy))
    have hx := h x List.mem_cons_self
    have h2 := numsB_len [x.1, x.2] (fun y hy => by simp at hy; rcases hy with rfl | rfl; exact hx.1; exact hx.2)
    simp only [List.length_cons, List.length_nil] at h2
    unfold runsB at h1 ⊢
    rw [List.flatMap_cons, List.length_append, List.length_cons]
    omega
def helloB (m : Fm) : List UInt8 := numsB [m.ba]
def answerB (m : Fm) : List UInt8 := numsB [m.ic, m.cu, m.li, m.L.length] ++ runsB m.L
def batchB (m : Fm) : List UInt8 := numsB [m.ic, m.ba, m.its.length] ++ itsB m.its

set_option maxRecDepth 100000 in
set_option maxHeartbeats 800000 in
theorem putHello_any (w : World) (f : Fv) (h : FrAt w f) (A : Option Addr) (m c : Nat) (l : List UInt8) (hs : Sl w w.heap.size A m c l) (hb : l.length ≤ 1000) :
    Calls Tryd.prog 51 #[f.v, .slice A m c] w (Fresh w (l ++ helloB f.m)) := by
  have HF := Lib.hid h
  have HS := Lib.hid hs
  have HB := Lib.hid hb
  clear h hs hb
  unfold Fv.v
  go_enter Tryd.func51, Tryd.ntmps51
  go_wp2_with fail
  have hbx := below_box w f.box
  have hX : (w.alloc f.box).heap.size = w.heap.size + 1 := by simp
  have hs1 := HS.out.onA f.box
  generalize w.alloc f.box = wb at *
  rw [← hX]
  refine (nums_any _ A _ m c 1 1 l [f.ba] (hs1.onA _) (u64_lit1 wb _ f.ba) ?_ ?_ ?_).mono ?_
  · intro x hx
    simp at hx
    subst hx
    exact HF.out.ba
  · have := HB.out
    simp
    omega
  · simp
  rintro e w2 h2
  have h3 := Fresh.from (w := w) (hbx.alloc (by omega) _) h2
  obtain ⟨A2, n2, c2, rfl, hown, hbel⟩ := h3
  clear h2
  go_wp2
  go_ret
  exact ⟨A2, n2, c2, rfl, hown, hbel⟩

def AnsRel (w : World) (l : List UInt8) (L : List Rn) (gk : Nat) (p i : Value) (wr : World) : Prop :=
  ∃ (j : Nat) (A : Option Addr) (n c : Nat), gk + j = L.length ∧ i = .int .i64 (j : Int) ∧ p = .slice A n c ∧
    wr.ownsRow w.heap.size 5 1 (.slice A n c) n (cbs (l ++ runsB (L.take j))) ∧ Below w.heap.size w wr
set_option maxRecDepth 100000 in
set_option maxHeartbeats 800000 in
theorem putAnswer_any (w : World) (f : Fv) (h : FrAt w f) (A : Option Addr) (m c : Nat) (l : List UInt8) (hs : Sl w w.heap.size A m c l) (hb : l.length ≤ 1000) (hn : f.nr ≤ 32) :
    Calls Tryd.prog 54 #[f.v, .slice A m c] w (Fresh w (l ++ answerB f.m)) := by
  have HL : Hid (f.L.length = f.nr) := h.rs.len
  obtain ⟨tot, HT⟩ : ∃ tot, Hid (tot = l ++ answerB f.m) := ⟨_, rfl⟩
  rw [← HT.out]
  have HTE : Hid (tot = (l ++ numsB [f.ic, f.cu, f.li, f.nr]) ++ runsB f.L) := by
    show _ = _
    rw [HT.out]
    unfold answerB
    rw [← List.append_assoc, ← HL.out]
    rfl
  have hwn : IntKind.u64.wrap (f.nr : Int) = (f.nr : Int) := by rw [IntKind.wrap_u64]; omega
  have HWN := Lib.hid hwn
  have HF := Lib.hid h
  have HS := Lib.hid hs
  have HB := Lib.hid hb
  have hmx := h.rs.sn.max
  have hle := h.rs.sn.le
  unfold maxLen at hmx
  clear h hs hb HT hwn
  unfold Fv.v
  go_enter Tryd.func54, Tryd.ntmps54
  go_wp2_with fail
  have hbx := below_box w f.box
  have hX : (w.alloc f.box).heap.size = w.heap.size + 1 := by simp
  have hs1 := HS.out.onA f.box
  have hblk := heap_alloc_new w f.box
  generalize w.alloc f.box = wb at *
  rw [← hX]
  refine (nums_any _ A _ m c 4 4 l [f.ic, f.cu, f.li, f.nr] (hs1.onA _) (u64_lit4 wb _ f.ic f.cu f.li f.nr) ?_ ?_ ?_).mono ?_
  · intro x hx
    simp at hx
    rcases hx with rfl | rfl | rfl | rfl
    · exact HF.out.ic
    · exact HF.out.cu
    · exact HF.out.li
    · unfold two64; omega
  · have := HB.out
    simp
    omega
  · simp
  rintro e w2 h2
  have h3 := Fresh.from (w := wb) (below_box wb _) h2
  obtain ⟨A2, n2, c2, rfl, hown, hbel⟩ := h3
  have HO := Lib.hid (own_lower hown hbx.size)
  have hbw : Below w.heap.size w w2 := hbx.trans (hbel.mono hbx.size)
  have hblk2 := (hbel.block w.heap.size (by omega)).trans hblk
  have q7 : w2.cell? ⟨w.heap.size, 7, none⟩ = some (.slice f.Ar f.nr f.cr) := by rw [cell_of_row w2 _ 7 _ _ _ hblk2]; rfl
  have HBW := Lib.hid hbw
  have HL2 : Hid ((l ++ numsB [f.ic, f.cu, f.li, f.nr]).length ≤ 1040) := by
    have h1 := numsB_len [f.ic, f.cu, f.li, f.nr] (by
      intro x hx
      simp at hx
      rcases hx with rfl | rfl | rfl | rfl
      · exact HF.out.ic
      · exact HF.out.cu
      · exact HF.out.li
      · unfold two64; omega)
    have := HB.out
    show _ ≤ _
    rw [List.length_append]
    simp at h1
    omega
  have HRS := Lib.hid HF.out.rs
  obtain ⟨l0, HL0⟩ : ∃ l0, Hid (l0 = l ++ numsB [f.ic, f.cu, f.li, f.nr]) := ⟨_, rfl⟩
  rw [← HL0.out] at HO HTE HL2
  clear h2 hown hbel hblk hblk2 hbx hX hs1 hbw HL0
  go_wp2
  go_loopg [1, 23] f.nr (fun gk p i wr => AnsRel w l0 f.L gk p i wr)
  case atStart => exact ⟨0, A2, n2, c2, by have := HL.out; omega, rfl, rfl, by simpa [runsB] using HO.out, HBW.out⟩
  case round =>
    obtain ⟨j, A1, n1, c1, hj, rfl, rfl, hown, hbel⟩ := hrel
    have HJ := Lib.hid hj
    have HO1 := Lib.hid hown
    have HB1 := Lib.hid hbel
    clear hj hown
    by_cases hlt : j < f.nr
    · obtain ⟨bb, o, r, ea, hbb, hr, c0, c1', l0', l1'⟩ := HRS.out.at_ hlt
      have d0 := (hbel.cell (p := ⟨bb, o + j * 2, none⟩) hbb).trans c0
      have d1 := (hbel.cell (p := ⟨bb, o + j * 2 + 1, none⟩) hbb).trans c1'
      have HR := Lib.hid hr
      have HLR : Hid (r.1 < two64 ∧ r.2 < two64) := ⟨l0', l1'⟩
      clear c0 c1' l0' l1' hr hbel
      rw [ea]
      go_wp2_with fail
      have hbx := below_box wr (Obj.cells #[.int .u64 (r.1 : Int), .int .u64 (r.2 : Int)] 77)
      have hX : (wr.alloc (Obj.cells #[.int .u64 (r.1 : Int), .int .u64 (r.2 : Int)] 77)).heap.size = wr.heap.size + 1 := by simp
      have hs1 := (Sl.of_own HO1.out).onA (Obj.cells #[.int .u64 (r.1 : Int), .int .u64 (r.2 : Int)] 77)
      generalize wr.alloc (Obj.cells #[.int .u64 (r.1 : Int), .int .u64 (r.2 : Int)] 77) = wb at *
      rw [← hX]
      refine (nums_any _ A1 _ n1 c1 2 2 _ [r.1, r.2] (hs1.onA _) (u64_lit2 wb _ r.1 r.2) ?_ ?_ ?_).mono ?_
      · intro x hx
        simp at hx
        rcases hx with rfl | rfl
        · exact HLR.out.1
        · exact HLR.out.2
      · have h1 := runsB_len (f.L.take j) (fun q hq => HRS.out.lt q (List.mem_of_mem_take hq))
        rw [List.length_take] at h1
        have := HL2.out
        rw [List.length_append]
        simp
        omega
      · simp
      rintro e w3 h3
      have h4 := Fresh.from (w := wr) (hbx.alloc (by omega) _) h3
      obtain ⟨A3, n3, c3, rfl, hown3, hb3⟩ := h4
      rw [List.append_assoc, ← runsB_snoc HR.out] at hown3
      have HO3 := Lib.hid hown3
      have HB3 := Lib.hid hb3
      clear h3 hown3 hb3 hs1 hbx hX
      go_wp2
      rw [← ea]
      go_roundg (gk - 1)
      case measure => have := HJ.out; have := HL.out; omega
      case rel =>
        have hbz := HB1.out.size
        exact ⟨j + 1, A3, n3, c3, by have := HJ.out; have := HL.out; omega, by go_num, rfl, own_lower HO3.out hbz, HB1.out.trans (HB3.out.mono hbz)⟩
    · have HE : Hid (f.L.take j = f.L) := List.take_of_length_le (by have := HL.out; omega)
      clear hbel
      go_wp2
      go_ret
      have h1 := HO1.out
      rw [HE.out, ← HTE.out] at h1
      exact ⟨A1, n1, c1, rfl, h1, HB1.out⟩

def BatRel (w : World) (l : List UInt8) (its : List It) (gk : Nat) (p i : Value) (wr : World) : Prop :=
  ∃ (j : Nat) (A : Option Addr) (n c : Nat), gk + j = its.length ∧ i = .int .i64 (j : Int) ∧ p = .slice A n c ∧
    wr.ownsRow w.heap.size 5 1 (.slice A n c) n (cbs (l ++ itsB (its.take j))) ∧ Below w.heap.size w wr
theorem itsB_bound (xs : List It) (h : ∀ x ∈ xs, x.N < two64 ∧ x.b.length ≤ 4096) : (itsB xs).length ≤ 4200 * xs.length := by
  induction xs with
  | nil => simp [itsB]
  | cons x t ih =>
    have h1 := ih (fun y hy => h y (List.mem_cons_of_mem _ hy))
    have hx := h x List.mem_cons_self
    have h2 := num_len10 x.N hx.1
    have h3 := spanB_len x.C x.b (by omega)
    have h4 : (itB x).length = (num x.N).length + (spanB x.C x.b).length := by unfold itB itemB; rw [List.length_append]
    unfold itsB at h1 ⊢
    rw [List.flatMap_cons, List.length_append, List.length_cons]
    omega
set_option maxRecDepth 100000 in
set_option maxHeartbeats 800000 in
theorem putBatch_any (w : World) (f : Fv) (h : FrAt w f) (A : Option Addr) (m c : Nat) (l : List UInt8) (hs : Sl w w.heap.size A m c l) (hb : l.length ≤ 1000) (hn : f.ni ≤ 64) (hbd : ∀ k ∈ f.ks, k.q.l.length ≤ 4096) :
    Calls Tryd.prog 57 #[f.v, .slice A m c] w (Fresh w (l ++ batchB f.m)) := by
  have HL : Hid (f.ks.length = f.ni) := h.it.len
  obtain ⟨its, HIT⟩ : ∃ its, Hid (its = f.ks.map Ik.it) := ⟨_, rfl⟩
  have HIL : Hid (its.length = f.ni) := by show _ = _; rw [HIT.out, List.length_map]; exact HL.out
  obtain ⟨tot, HT⟩ : ∃ tot, Hid (tot = l ++ batchB f.m) := ⟨_, rfl⟩
  rw [← HT.out]
  have HTE : Hid (tot = (l ++ numsB [f.ic, f.ba, f.ni]) ++ itsB its) := by
    show _ = _
    rw [HT.out]
    unfold batchB
    have e : f.m.its = its := HIT.out.symm
    rw [← List.append_assoc, e, HIL.out]
    rfl
  obtain ⟨i0, hi0, hz0, hz1, hz2⟩ := info_parts u8_info
  have HBD : Hid (∀ x ∈ its, x.N < two64 ∧ x.b.length ≤ 4096) := by
    intro x hx
    rw [HIT.out] at hx
    obtain ⟨k, hk, rfl⟩ := List.mem_map.1 hx
    exact ⟨(h.it.sl k hk).2, hbd k hk⟩
  have HF := Lib.hid h
  have HS := Lib.hid hs
  have HB := Lib.hid hb
  have hmx := h.it.max
  have hle := h.it.le
  unfold maxLen at hmx
  clear h hs hb HT hbd
  unfold Fv.v
  go_enter Tryd.func57, Tryd.ntmps57
  go_wp2_with fail
  have hbx := below_box w f.box
  have hX : (w.alloc f.box).heap.size = w.heap.size + 1 := by simp
  have hs1 := HS.out.onA f.box
  have hblk := heap_alloc_new w f.box
  generalize w.alloc f.box = wb at *
  rw [← hX]
  have hlts : ∀ x ∈ [f.ic, f.ba, f.ni], x < two64 := by
    intro x hx
    simp at hx
    rcases hx with rfl | rfl | rfl
    · exact HF.out.ic
    · exact HF.out.ba
    · unfold two64; omega
  refine (nums_any _ A _ m c 3 3 l [f.ic, f.ba, f.ni] (hs1.onA _) (u64_lit3 wb _ f.ic f.ba f.ni) hlts ?_ ?_).mono ?_
  · have := HB.out
    simp
    omega
  · simp
  rintro e w2 h2
  have h3 := Fresh.from (w := wb) (below_box wb _) h2
  obtain ⟨A2, n2, c2, rfl, hown, hbel⟩ := h3
  have HO := Lib.hid (own_lower hown hbx.size)
  have hbw : Below w.heap.size w w2 := hbx.trans (hbel.mono hbx.size)
  have hblk2 := (hbel.block w.heap.size (by omega)).trans hblk
  have q8 : w2.cell? ⟨w.heap.size, 8, none⟩ = some (.slice f.Ai f.ni f.ci) := by rw [cell_of_row w2 _ 8 _ _ _ hblk2]; rfl
  have HBW := Lib.hid hbw
  have HL2 : Hid ((l ++ numsB [f.ic, f.ba, f.ni]).length ≤ 1040) := by
    have h1 := numsB_len [f.ic, f.ba, f.ni] hlts
    have := HB.out
    show _ ≤ _
    rw [List.length_append]
    simp at h1
    omega
  have HI := Lib.hid HF.out.it
  obtain ⟨l0, HL0⟩ : ∃ l0, Hid (l0 = l ++ numsB [f.ic, f.ba, f.ni]) := ⟨_, rfl⟩
  rw [← HL0.out] at HO HTE HL2
  clear h2 hown hbel hblk hblk2 hbx hX hs1 hbw HL0 hlts
  go_wp2
  go_loopg [1, 21] f.ni (fun gk p i wr => BatRel w l0 its gk p i wr)
  case atStart => exact ⟨0, A2, n2, c2, by have := HIL.out; omega, rfl, rfl, by simpa [itsB] using HO.out, HBW.out⟩
  case round =>
    obtain ⟨j, A1, n1, c1, hj, rfl, rfl, hown, hbel⟩ := hrel
    have HJ := Lib.hid hj
    have HO1 := Lib.hid hown
    have HB1 := Lib.hid hbel
    clear hj hown
    by_cases hlt : j < f.ni
    · obtain ⟨bb, o, k, ea, hbb, hk, c0, c1', c2', hsl, hkN⟩ := HI.out.at_ hlt
      have d0 := (hbel.cell (p := ⟨bb, o + j * 3, none⟩) hbb).trans c0
      have d1 := (hbel.cell (p := ⟨bb, o + j * 3 + 1, none⟩) hbb).trans c1'
      have d2 := (hbel.cell (p := ⟨bb, o + j * 3 + 2, none⟩) hbb).trans c2'
      have HX : Hid (its[j]? = some k.it) := by show _ = _; rw [HIT.out, List.getElem?_map, hk]; rfl
      have HK : Hid (k.N < two64 ∧ k.q.l.length ≤ 4096) := HBD.out _ (List.mem_of_getElem? HX.out)
      have HSL := Lib.hid ((hsl.below hbel (Nat.le_refl _)).more hbel.size)
      have HLEN : Hid ((l0 ++ itsB (its.take j)).length ≤ 300000) := by
        have h1 := itsB_bound (its.take j) (fun x hx => HBD.out x (List.mem_of_mem_take hx))
        rw [List.length_take] at h1
        have := HL2.out
        show _ ≤ _
        rw [List.length_append]
        omega
      have HLB : Hid ((itemB k.N k.C k.q.l).length ≤ 5000) := by
        have h1 := num_len10 k.N HK.out.1
        have h2 := spanB_len k.C k.q.l (by have := HK.out.2; omega)
        have := HK.out.2
        show _ ≤ _
        unfold itemB
        rw [List.length_append]
        omega
      clear c0 c1' c2' hk hsl hkN hbel
      rw [ea]
      go_wp2_with fail
      have hbx := below_box wr (Obj.cells #[.int .u64 (k.N : Int), .int .i64 k.C, .slice k.q.A k.q.n k.q.c] 58)
      have ho1 := HO1.out.alloc (Obj.cells #[.int .u64 (k.N : Int), .int .i64 k.C, .slice k.q.A k.q.n k.q.c] 58)
      have hs1 := HSL.out.onA (Obj.cells #[.int .u64 (k.N : Int), .int .i64 k.C, .slice k.q.A k.q.n k.q.c] 58)
      generalize wr.alloc (Obj.cells #[.int .u64 (k.N : Int), .int .i64 k.C, .slice k.q.A k.q.n k.q.c] 58) = wb at *
      have hput := itemPut_any wb k.N k.C none k.q.A 0 0 k.q.n k.q.c [] k.q.l HK.out.1 (Sl.nil_ _ _ _ _ (Nat.zero_le _)) hs1 (by have := HK.out.2; simp; omega)
      unfold itv at hput
      refine hput.mono ?_
      rintro e w3 ⟨A3, n3, c3, rfl, hown3, hb3⟩
      rw [List.nil_append] at hown3
      have hn3 : n3 = (itemB k.N k.C k.q.l).length := by have := (Sl.of_own hown3).len; omega
      have hn1 : n1 = (l0 ++ itsB (its.take j)).length := by have := (Sl.of_own HO1.out).len; omega
      have ho3 := own_on ho1 hb3
      have HBR : Hid (Below wr.heap.size wr w3) := hbx.trans (hb3.mono hbx.size)
      have HZ3 : Hid (w.heap.size ≤ w3.heap.size) := Nat.le_trans HB1.out.size HBR.out.size
      have HS3 := Lib.hid (Sl.of_own hown3)
      have HD : Hid (Dst w3 w.heap.size 5 A1 n1 c1 (l0 ++ itsB (its.take j))) := .inr ho3
      have HBDN : Hid (n1 + n3 ≤ 140737488355328) := by have := HLEN.out; have := HLB.out; show _ ≤ _; omega
      have HO3 := Lib.hid ho3
      clear hput hown3 hb3 hn3 hn1 ho1 ho3 hs1 hbx
      go_wp2_with (at_builtin; go_must (refine wpList_append_dst _ rfl (.tmp 25) (.tmp 27) 37 37 rfl w.heap.size 5 i0 Tryd.underlying37 hi0 hz0 hz1 hz2 A1 n1 c1 (l0 ++ itsB (its.take j)) rfl HD.out _ n3 (itemB k.N k.C k.q.l) rfl (Sl.src Tryd.underlying37 HS3.out) HBDN.out HZ3.out ?_); intro A4 c4 w4 h1 h2 h3 h4 h5)
      have ho4 := h3 HO3.out
      have e4 : l0 ++ itsB (its.take j) ++ itemB k.N k.C k.q.l = l0 ++ itsB (its.take (j + 1)) := by rw [itsB_snoc HX.out, List.append_assoc]; rfl
      rw [e4] at ho4
      have HO4 := Lib.hid ho4
      have HB4 := Lib.hid h4
      clear h1 h2 h3 h4 h5 e4 ho4
      rw [← ea]
      go_roundg (gk - 1)
      case measure => have := HJ.out; have := HIL.out; omega
      case rel => exact ⟨j + 1, A4, n1 + n3, c4, by have := HJ.out; have := HIL.out; omega, by go_num, rfl, HO4.out, (HB1.out.trans (HBR.out.mono HB1.out.size)).trans HB4.out⟩
    · have HE : Hid (its.take j = its) := List.take_of_length_le (by have := HIL.out; omega)
      clear hbel
      go_wp2
      go_ret
      have h1 := HO1.out
      rw [HE.out, ← HTE.out] at h1
      exact ⟨A1, n1, c1, rfl, h1, HB1.out⟩
end Go.Proofs.YtlkcnpmgafckoaaDoor
