/-
  CONTRACT of the reference's Right (layer 5).
  No statement is proved here.
-/
import Derived.Test.YtlkcnpmgafckoaaDoorFrameSame
import Derived.Test.YtlkcnpmgafckoaaDoorFrameItems
import Derived.LoopN
namespace Go.Proofs.YtlkcnpmgafckoaaDoor
open Go.RowKit

theorem canon_set_iff {L : List Rn} (h : ∀ q ∈ L, q.1 < two64 ∧ q.2 < two64) : Canon L ↔ L = setL L := by
  obtain ⟨h1, h2, _⟩ := set_spec L h
  constructor
  · exact fun hc => okl_ext ⟨hc, h⟩ h1 fun x => (h2 x).symm
  · intro he
    rw [he]
    exact h1.can
theorem canon_last {L : List Rn} (hc : Canon L) {t : Nat} {r q : Rn} (hr : L[t]? = some r) (hq : L[L.length - 1]? = some q) : r.2 ≤ q.2 := by
  obtain ⟨h1, rfl⟩ := List.getElem?_eq_some_iff.1 hr
  obtain ⟨h2, rfl⟩ := List.getElem?_eq_some_iff.1 hq
  rcases Nat.lt_or_ge t (L.length - 1) with h3 | h3
  · have h4 := List.pairwise_iff_getElem.1 hc.far t (L.length - 1) h1 h2 h3
    have h5 := hc.ok _ (List.getElem_mem h2)
    omega
  · have e : t = L.length - 1 := by omega
    subst e
    exact Nat.le_refl _
def RunOk (cu li t : Nat) (r : Rn) : Prop := r.2 ≤ li ∧ (t = 0 → cu + 2 ≤ r.1)
theorem runsP_all {m : Fm} (hl : m.L.length ≤ 32) (hc : Canon m.L) (h : ∀ t r, m.L[t]? = some r → RunOk m.cu m.li t r) : RunsP m :=
  .inr ⟨hl, hc, fun r hr => (h 0 r hr).2 rfl, fun r hr => (h _ r hr).1⟩
theorem runsP_one {m : Fm} (hp : RunsP m) {t : Nat} {r : Rn} (hr : m.L[t]? = some r) : RunOk m.cu m.li t r := by
  rcases hp with h | ⟨_, hc, h1, h2⟩
  · rw [h] at hr; simp at hr
  · refine ⟨?_, fun e => by subst e; exact h1 r hr⟩
    have hlt := (List.getElem?_eq_some_iff.1 hr).1
    have hq : m.L[m.L.length - 1]? = some m.L[m.L.length - 1] := List.getElem?_eq_getElem (by omega)
    exact Nat.le_trans (canon_last hc hr hq) (h2 _ hq)
def RunsRel (w0 : World) (cu li : Nat) (L : List Rn) (gk : Nat) (i : Value) (wr : World) : Prop :=
  ∃ j : Nat, gk + j = L.length ∧ i = .int .i64 (j : Int) ∧ (∀ t r, t < j → L[t]? = some r → RunOk cu li t r) ∧ Below w0.heap.size w0 wr
def lastN (ba : Nat) (its : List It) (j : Nat) : Nat := if j = 0 then ba else (its[j - 1]?.map It.N).getD 0
def ItRel (w0 : World) (ba : Nat) (its : List It) (gk : Nat) (la i : Value) (wr : World) : Prop :=
  ∃ j : Nat, gk + j = its.length ∧ i = .int .i64 (j : Int) ∧ la = .int .u64 (lastN ba its j : Int) ∧ (∀ t x, t < j → its[t]? = some x → ItemOk ba its t x) ∧ Below w0.heap.size w0 wr
theorem last_ge {ba : Nat} {its : List It} {j : Nat} (hj : j ≤ its.length) (h : ∀ t x, t < j → its[t]? = some x → ItemOk ba its t x) : ba ≤ lastN ba its j := by
  unfold lastN
  split
  · exact Nat.le_refl _
  · have e := List.getElem?_eq_getElem (l := its) (i := j - 1) (by omega)
    rw [e]
    exact (h (j - 1) _ (by omega) e).2.1
theorem item_ok_iff {ba : Nat} {its : List It} {j : Nat} {x : It} (hx : its[j]? = some x) (h : ∀ t x, t < j → its[t]? = some x → ItemOk ba its t x) :
    ItemOk ba its j x ↔ rightB x.C x.b.length = true ∧ ¬ x.N < lastN ba its j ∧ ¬ (0 < j ∧ x.N = lastN ba its j) := by
  have hjl := (List.getElem?_eq_some_iff.1 hx).1
  have hge := last_ge (Nat.le_of_lt hjl) h
  rcases Nat.eq_zero_or_pos j with h0 | h0
  · subst h0
    have el : lastN ba its 0 = ba := rfl
    unfold ItemOk
    rw [el]
    exact ⟨fun ⟨a, b, _⟩ => ⟨a, by omega, fun h => absurd h.1 (by omega)⟩, fun ⟨a, b, _⟩ => ⟨a, by omega, fun y h => absurd h (by omega)⟩⟩
  · have e := List.getElem?_eq_getElem (l := its) (i := j - 1) (by omega)
    have el : lastN ba its j = its[j - 1].N := by unfold lastN; rw [if_neg (by omega), e]; rfl
    unfold ItemOk
    constructor
    · rintro ⟨h1, h2, h3⟩
      have := h3 _ h0 e
      exact ⟨h1, by omega, by omega⟩
    · rintro ⟨h1, h2, h3⟩
      refine ⟨h1, by omega, fun y _ hy => ?_⟩
      rw [e] at hy
      injection hy with hy
      subst hy
      have : x.N ≠ lastN ba its j := fun e => h3 ⟨h0, e⟩
      omega
theorem last_next {ba : Nat} {its : List It} {j : Nat} {x : It} (hx : its[j]? = some x) : lastN ba its (j + 1) = x.N := by
  unfold lastN
  rw [if_neg (by omega), Nat.add_sub_cancel, hx]
  rfl

set_option maxRecDepth 100000 in
set_option maxHeartbeats 4000000 in
theorem refRight1_any (w : World) (f : Fv) (h : FrAt w f) (hk : f.kd = 1) (hsr : f.nr ≤ 40) (hsi : f.ni ≤ 70) :
    Calls Tryd.prog 13 #[f.r] w (Says w (.bool (decP (RightP f.m)))) := by
  have hN : RightP f.m ↔ 0 ≤ f.ag ∧ f.ag < 16 ∧ 1 ≤ f.ep ∧ 1 ≤ f.ba ∧ f.cu = 0 ∧ f.li = 0 ∧ f.nr = 0 ∧ f.ic = 0 ∧ f.ni = 0 := by
    have e : f.m.kd = 1 := hk
    have e0 : HelloP f.m ↔ 1 ≤ f.ba ∧ f.cu = 0 ∧ f.li = 0 ∧ f.nr = 0 ∧ f.ic = 0 ∧ f.ni = 0 := by
      unfold HelloP NoAnsP
      have e1 : f.m.its = [] ↔ f.ni = 0 := h.items0
      have e2 : f.m.L = [] ↔ f.nr = 0 := h.runs0
      rw [e1, e2]
      show _ ∧ f.ic = 0 ∧ _ ∧ f.cu = 0 ∧ f.li = 0 ∧ _ ↔ _
      exact ⟨fun ⟨a, b, c, d, e, g⟩ => ⟨a, d, e, g, b, c⟩, fun ⟨a, d, e, g, b, c⟩ => ⟨a, b, c, d, e, g⟩⟩
    rw [← e0]
    unfold RightP PartsP
    rw [e]
    constructor
    · rintro ⟨h1, h2, h3, h4⟩
      refine ⟨h1, h2, h3, ?_⟩
      rcases h4 with h4 | h4 | h4
      all_goals first | exact h4.2 | (exfalso; omega)
    · rintro ⟨h1, h2, h3, h4⟩
      exact ⟨h1, h2, h3, by first | exact .inl ⟨rfl, h4⟩ | exact .inr (.inl ⟨by omega, h4⟩) | exact .inr (.inr ⟨rfl, h4⟩)⟩
  obtain ⟨b, HB⟩ : ∃ b, Hid (b = decP (RightP f.m)) := ⟨_, rfl⟩
  rw [← HB.out]
  have HN0 := Lib.hid hN
  have HV : Hid (f.r = .agg #[.int .i64 1, .int .i64 f.ag, .int .u64 (f.ep : Int), .int .u64 (f.ic : Int), .int .u64 (f.ba : Int), .int .u64 (f.cu : Int), .int .u64 (f.li : Int), .slice f.Ar f.nr f.cr, .slice f.Ai f.ni f.ci]) := by show _ = _; unfold Fv.r; rw [hk]; rfl
  rw [HV.out]
  have HF := Lib.hid h
  have hmr := h.rs.sn.max
  have hmi := h.it.max
  have hlr := h.rs.sn.le
  have hli := h.it.le
  unfold maxLen at hmr hmi
  have HLR := Lib.hid h.rs.len
  have HLI := Lib.hid h.it.len
  have hb4 := h.ba
  have hb5 := h.cu
  have hb6 := h.li
  unfold two64 at hb4 hb5 hb6
  clear hN h hk
  by_cases h1 : (0 : Int) ≤ f.ag
  · have Hh1 := Lib.hid h1
    have h1y0 : ¬ f.ag < 0 := by omega
    clear h1
    by_cases h2 : f.ag < 16
    · have Hh2 := Lib.hid h2
      have h2y0 : ¬ (15 : Int) < f.ag := by omega
      clear h2
      by_cases h3 : 1 ≤ f.ep
      · have Hh3 := Lib.hid h3
        have h3y0 : ((f.ep : Int) == 0) = false := by simp; omega
        clear h3
        by_cases h4 : 1 ≤ f.ba
        · have Hh4 := Lib.hid h4
          have h4y0 : decide ((0 : Int) < (f.ba : Int)) = true := by simp; omega
          have h4y1 : decide (0 < f.ba) = true := by simp; omega
          clear h4
          by_cases h5 : f.cu = 0
          · have Hh5 := Lib.hid h5
            have h5y0 : decide ((0 : Int) < (f.cu : Int)) = false := by simp; omega
            have h5y1 : decide (0 < f.cu) = false := by simp; omega
            clear h5
            by_cases h6 : f.li = 0
            · have Hh6 := Lib.hid h6
              have h6y0 : decide ((0 : Int) < (f.li : Int)) = false := by simp; omega
              have h6y1 : decide (0 < f.li) = false := by simp; omega
              clear h6
              by_cases h7 : f.nr = 0
              · have Hh7 := Lib.hid h7
                have h7y0 : decide ((0 : Int) < (f.nr : Int)) = false := by simp; omega
                have h7y1 : decide (0 < f.nr) = false := by simp; omega
                clear h7
                by_cases h8 : f.ic = 0
                · have Hh8 := Lib.hid h8
                  have h8y0 : decide ((0 : Int) < (f.ic : Int)) = false := by simp; omega
                  have h8y1 : decide (0 < f.ic) = false := by simp; omega
                  clear h8
                  by_cases h9 : f.ni = 0
                  · have Hh9 := Lib.hid h9
                    have h9y0 : decide ((0 : Int) < (f.ni : Int)) = false := by simp; omega
                    have h9y1 : decide (0 < f.ni) = false := by simp; omega
                    clear h9
                    have HL0 : Hid (f.L = []) := List.eq_nil_of_length_eq_zero (by have := HLR.out; have := Hh7.out; omega)
                    have HCAN : Hid (sameR f.L (setL f.L) = true) := by show _ = _; rw [(sameR_iff _ _)]; exact (canon_set_iff HF.out.rs.lt).1 (by rw [HL0.out]; exact Canon.nil)
                    have n64 : decide (64 < f.ni) = false := by simp; have := Hh9.out; omega
                    have n64I : decide ((64 : Int) < (f.ni : Int)) = false := by simp; have := Hh9.out; omega
                    have n32 : decide (32 < f.nr) = false := by simp; have := Hh7.out; omega
                    have n32I : decide ((32 : Int) < (f.nr : Int)) = false := by simp; have := Hh7.out; omega
                    have nlc : decide (f.li < f.cu) = false := by simp; have := Hh5.out; have := Hh6.out; omega
                    go_enter Tryd.func13, Tryd.ntmps13
                    go_wp2_with fail
                    obtain ⟨g, hg⟩ : ∃ g, g = w.heap.size := ⟨_, rfl⟩
                    have hE : Ever (fun w' => (w'.cell? ⟨g, 4, none⟩ = some (.int .u64 (f.ba : Int)) ∧ w'.cell? ⟨g, 5, none⟩ = some (.int .u64 (f.cu : Int)) ∧ w'.cell? ⟨g, 6, none⟩ = some (.int .u64 (f.li : Int)) ∧ w'.cell? ⟨g, 7, none⟩ = some (.slice f.Ar f.nr f.cr) ∧ w'.cell? ⟨g, 8, none⟩ = some (.slice f.Ai f.ni f.ci)) ∧ Rs w' w'.heap.size f.Ar f.nr f.cr f.L ∧ Itms w' w'.heap.size f.Ai f.ni f.ci f.ks ∧ Below w.heap.size w w') (w.alloc (Obj.cells #[.int .i64 1, .int .i64 f.ag, .int .u64 (f.ep : Int), .int .u64 (f.ic : Int), .int .u64 (f.ba : Int), .int .u64 (f.cu : Int), .int .u64 (f.li : Int), .slice f.Ar f.nr f.cr, .slice f.Ai f.ni f.ci] 33)) := by
                      intro w' hw
                      have hb : Below w.heap.size w w' := (below_box w (Obj.cells #[.int .i64 1, .int .i64 f.ag, .int .u64 (f.ep : Int), .int .u64 (f.ic : Int), .int .u64 (f.ba : Int), .int .u64 (f.cu : Int), .int .u64 (f.li : Int), .slice f.Ar f.nr f.cr, .slice f.Ai f.ni f.ci] 33)).trans (hw.mono (by simp))
                      rw [hg]
                      exact ⟨⟨ever_cell (cell_last w _ _ _ 4 rfl) _ hw, ever_cell (cell_last w _ _ _ 5 rfl) _ hw, ever_cell (cell_last w _ _ _ 6 rfl) _ hw, ever_cell (cell_last w _ _ _ 7 rfl) _ hw, ever_cell (cell_last w _ _ _ 8 rfl) _ hw⟩, HF.out.rs.on hb (Nat.le_refl _), HF.out.it.on hb, hb⟩
                    rw [← hg]
                    have HG := Lib.hid hg
                    clear hg
                    obtain ⟨Ps, HP⟩ : ∃ Ps : World → Prop, Hid (Ps = fun w' => (w'.cell? ⟨g, 4, none⟩ = some (.int .u64 (f.ba : Int)) ∧ w'.cell? ⟨g, 5, none⟩ = some (.int .u64 (f.cu : Int)) ∧ w'.cell? ⟨g, 6, none⟩ = some (.int .u64 (f.li : Int)) ∧ w'.cell? ⟨g, 7, none⟩ = some (.slice f.Ar f.nr f.cr) ∧ w'.cell? ⟨g, 8, none⟩ = some (.slice f.Ai f.ni f.ci)) ∧ Rs w' w'.heap.size f.Ar f.nr f.cr f.L ∧ Itms w' w'.heap.size f.Ai f.ni f.ci f.ks ∧ Below w.heap.size w w') := ⟨_, rfl⟩
                    have HN : Hid (∀ w', Ps w' → (w'.cell? ⟨g, 4, none⟩ = some (.int .u64 (f.ba : Int)) ∧ w'.cell? ⟨g, 5, none⟩ = some (.int .u64 (f.cu : Int)) ∧ w'.cell? ⟨g, 6, none⟩ = some (.int .u64 (f.li : Int)) ∧ w'.cell? ⟨g, 7, none⟩ = some (.slice f.Ar f.nr f.cr) ∧ w'.cell? ⟨g, 8, none⟩ = some (.slice f.Ai f.ni f.ci)) ∧ Rs w' w'.heap.size f.Ar f.nr f.cr f.L ∧ Itms w' w'.heap.size f.Ai f.ni f.ci f.ks ∧ Below w.heap.size w w') := by rw [HP.out]; exact fun _ h => h
                    replace hE : Ever Ps (w.alloc (Obj.cells #[.int .i64 1, .int .i64 f.ag, .int .u64 (f.ep : Int), .int .u64 (f.ic : Int), .int .u64 (f.ba : Int), .int .u64 (f.cu : Int), .int .u64 (f.li : Int), .slice f.Ar f.nr f.cr, .slice f.Ai f.ni f.ci] 33)) := by rw [HP.out]; exact hE
                    clear HP
                    have hE2 := hE.drewN 1
                    clear hE
                    generalize w.alloc (Obj.cells #[.int .i64 1, .int .i64 f.ag, .int .u64 (f.ep : Int), .int .u64 (f.ic : Int), .int .u64 (f.ba : Int), .int .u64 (f.cu : Int), .int .u64 (f.li : Int), .slice f.Ar f.nr f.cr, .slice f.Ai f.ni f.ci] 33) = wc at *
                    refine wp_region_noPanic ?_
                    refine wp_region_held_drew (S := (fun w' => (w'.cell? ⟨g, 4, none⟩ = some (.int .u64 (f.ba : Int)) ∧ w'.cell? ⟨g, 5, none⟩ = some (.int .u64 (f.cu : Int)) ∧ w'.cell? ⟨g, 6, none⟩ = some (.int .u64 (f.li : Int)) ∧ w'.cell? ⟨g, 7, none⟩ = some (.slice f.Ar f.nr f.cr) ∧ w'.cell? ⟨g, 8, none⟩ = some (.slice f.Ai f.ni f.ci)) ∧ Ever Ps w')) (by kernel_rfl) ⟨(HN.out _ hE2.now).1, hE2⟩ (fun hHeld => ?_)
                    refine wpAnyH_take (i := 0) (oi := { dst := some 85, op := Op.fieldAddr 33 (Operand.tmp 1) 8, type := 0, pos := "ref.go:29", after := #[], guard := none }) (v := ?_) rfl (by kernel_rfl) (by kernel_rfl) (by kernel_rfl) (fun _ _ _ h => h) (Or.inl ⟨by rfl, ?_⟩) (by assumption) ?_
                    rotate_left
                    · intro w hSw; (try dsimp only at hSw); first | (go_simp; done) | (go_simp; with_reducible rfl)
                    try simp only [Act.put, List.setIfInBounds_toArray, List.set_cons_zero, List.set_cons_succ]
                    refine wpAnyH_take (i := 1) (oi := { dst := some 86, op := Op.load 31 (Operand.tmp 85), type := 31, pos := "ref.go:29", after := #[{ on := 0, ground := Ground.data }], guard := none }) (v := ?_) rfl (by kernel_rfl) (by kernel_rfl) (by kernel_rfl) (fun _ _ _ h => h) (Or.inl ⟨by rfl, ?_⟩) (by assumption) ?_
                    rotate_left
                    · intro w hSw; (try dsimp only at hSw); first | (go_simp; done) | (go_simp; with_reducible rfl)
                    try simp only [Act.put, List.setIfInBounds_toArray, List.set_cons_zero, List.set_cons_succ]
                    refine wpAnyH_take (i := 2) (oi := { dst := some 87, op := Op.call { callee := Callee.builtin Builtin.len, args := #[Operand.tmp 86], argTypes := #[31] }, type := 3, pos := "ref.go:29", after := #[{ on := 1, ground := Ground.data }], guard := none }) (v := ?_) rfl (by kernel_rfl) (by kernel_rfl) (by kernel_rfl) (fun _ _ _ h => h) (Or.inl ⟨by rfl, ?_⟩) (by assumption) ?_
                    rotate_left
                    · intro w hSw; (try dsimp only at hSw); first | (go_simp; done) | (go_simp; with_reducible rfl)
                    try simp only [Act.put, List.setIfInBounds_toArray, List.set_cons_zero, List.set_cons_succ]
                    refine wpAnyH_take (i := 3) (oi := { dst := some 88, op := Op.binOp BinOp.gtr 3 (Operand.tmp 87) (Operand.const (Value.int IntKind.i64 64)) 3, type := 4, pos := "ref.go:29", after := #[{ on := 2, ground := Ground.data }], guard := none }) (v := ?_) rfl (by kernel_rfl) (by kernel_rfl) (by kernel_rfl) (fun _ _ _ h => h) (Or.inl ⟨by rfl, ?_⟩) (by assumption) ?_
                    rotate_left
                    · intro w hSw; (try dsimp only at hSw); first | (go_simp; done) | (go_simp; with_reducible rfl)
                    try simp only [Act.put, List.setIfInBounds_toArray, List.set_cons_zero, List.set_cons_succ]
                    refine wpAnyH_take (i := 4) (oi := { dst := some 89, op := Op.move (Operand.tmp 88), type := 4, pos := "ref.go:29", after := #[{ on := 3, ground := Ground.data }], guard := none }) (v := ?_) rfl (by kernel_rfl) (by kernel_rfl) (by kernel_rfl) (fun _ _ _ h => h) (Or.inl ⟨by rfl, ?_⟩) (by assumption) ?_
                    rotate_left
                    · intro w hSw; (try dsimp only at hSw); first | (go_simp; done) | (go_simp; with_reducible rfl)
                    try simp only [Act.put, List.setIfInBounds_toArray, List.set_cons_zero, List.set_cons_succ]
                    refine wpAnyH_take (i := 5) (oi := { dst := some 90, op := Op.fieldAddr 33 (Operand.tmp 1) 7, type := 0, pos := "ref.go:29", after := #[{ on := 4, ground := Ground.guard }], guard := some (4, false) }) (v := ?_) rfl (by kernel_rfl) (by kernel_rfl) (by kernel_rfl) (fun _ _ _ h => h) (Or.inl ⟨by rfl, ?_⟩) (by assumption) ?_
                    rotate_left
                    · intro w hSw; (try dsimp only at hSw); first | (go_simp; done) | (go_simp; with_reducible rfl)
                    try simp only [Act.put, List.setIfInBounds_toArray, List.set_cons_zero, List.set_cons_succ]
                    refine wpAnyH_take (i := 6) (oi := { dst := some 91, op := Op.load 30 (Operand.tmp 90), type := 30, pos := "ref.go:29", after := #[{ on := 5, ground := Ground.data }, { on := 4, ground := Ground.guard }], guard := some (4, false) }) (v := ?_) rfl (by kernel_rfl) (by kernel_rfl) (by kernel_rfl) (fun _ _ _ h => h) (Or.inl ⟨by rfl, ?_⟩) (by assumption) ?_
                    rotate_left
                    · intro w hSw; (try dsimp only at hSw); first | (go_simp; done) | (go_simp; with_reducible rfl)
                    try simp only [Act.put, List.setIfInBounds_toArray, List.set_cons_zero, List.set_cons_succ]
                    refine wpAnyH_take (i := 7) (oi := { dst := some 92, op := Op.call { callee := Callee.builtin Builtin.len, args := #[Operand.tmp 91], argTypes := #[30] }, type := 3, pos := "ref.go:29", after := #[{ on := 6, ground := Ground.data }, { on := 4, ground := Ground.guard }], guard := some (4, false) }) (v := ?_) rfl (by kernel_rfl) (by kernel_rfl) (by kernel_rfl) (fun _ _ _ h => h) (Or.inl ⟨by rfl, ?_⟩) (by assumption) ?_
                    rotate_left
                    · intro w hSw; (try dsimp only at hSw); first | (go_simp; done) | (go_simp; with_reducible rfl)
                    try simp only [Act.put, List.setIfInBounds_toArray, List.set_cons_zero, List.set_cons_succ]
                    refine wpAnyH_take (i := 8) (oi := { dst := some 93, op := Op.binOp BinOp.gtr 3 (Operand.tmp 92) (Operand.const (Value.int IntKind.i64 32)) 3, type := 4, pos := "ref.go:29", after := #[{ on := 7, ground := Ground.data }, { on := 4, ground := Ground.guard }], guard := some (4, false) }) (v := ?_) rfl (by kernel_rfl) (by kernel_rfl) (by kernel_rfl) (fun _ _ _ h => h) (Or.inl ⟨by rfl, ?_⟩) (by assumption) ?_
                    rotate_left
                    · intro w hSw; (try dsimp only at hSw); first | (go_simp; done) | (go_simp; with_reducible rfl)
                    try simp only [Act.put, List.setIfInBounds_toArray, List.set_cons_zero, List.set_cons_succ]
                    refine wpAnyH_take (i := 9) (oi := { dst := some 94, op := Op.pick (Operand.tmp 89) (Operand.const (Value.bool true)) (Operand.tmp 93), type := 4, pos := "ref.go:29", after := #[{ on := 4, ground := Ground.data }, { on := 8, ground := Ground.data }], guard := none }) (v := ?_) rfl (by kernel_rfl) (by kernel_rfl) (by kernel_rfl) (fun _ _ _ h => h) (Or.inl ⟨by rfl, ?_⟩) (by assumption) ?_
                    rotate_left
                    · intro w hSw; (try dsimp only at hSw); first | (go_simp; done) | (go_simp; with_reducible rfl)
                    try simp only [Act.put, List.setIfInBounds_toArray, List.set_cons_zero, List.set_cons_succ]
                    refine wpAnyH_take (i := 10) (oi := { dst := some 95, op := Op.move (Operand.tmp 94), type := 4, pos := "ref.go:29", after := #[{ on := 9, ground := Ground.data }, { on := 4, ground := Ground.chain }], guard := none }) (v := ?_) rfl (by kernel_rfl) (by kernel_rfl) (by kernel_rfl) (fun _ _ _ h => h) (Or.inl ⟨by rfl, ?_⟩) (by assumption) ?_
                    rotate_left
                    · intro w hSw; (try dsimp only at hSw); first | (go_simp; done) | (go_simp; with_reducible rfl)
                    try simp only [Act.put, List.setIfInBounds_toArray, List.set_cons_zero, List.set_cons_succ]
                    refine wpAnyH_take (i := 11) (oi := { dst := some 96, op := Op.fieldAddr 33 (Operand.tmp 1) 6, type := 0, pos := "ref.go:29", after := #[{ on := 10, ground := Ground.guard }], guard := some (10, false) }) (v := ?_) rfl (by kernel_rfl) (by kernel_rfl) (by kernel_rfl) (fun _ _ _ h => h) (Or.inl ⟨by rfl, ?_⟩) (by assumption) ?_
                    rotate_left
                    · intro w hSw; (try dsimp only at hSw); first | (go_simp; done) | (go_simp; with_reducible rfl)
                    try simp only [Act.put, List.setIfInBounds_toArray, List.set_cons_zero, List.set_cons_succ]
                    refine wpAnyH_take (i := 12) (oi := { dst := some 97, op := Op.load 22 (Operand.tmp 96), type := 22, pos := "ref.go:29", after := #[{ on := 11, ground := Ground.data }, { on := 10, ground := Ground.guard }], guard := some (10, false) }) (v := ?_) rfl (by kernel_rfl) (by kernel_rfl) (by kernel_rfl) (fun _ _ _ h => h) (Or.inl ⟨by rfl, ?_⟩) (by assumption) ?_
                    rotate_left
                    · intro w hSw; (try dsimp only at hSw); first | (go_simp; done) | (go_simp; with_reducible rfl)
                    try simp only [Act.put, List.setIfInBounds_toArray, List.set_cons_zero, List.set_cons_succ]
                    refine wpAnyH_take (i := 13) (oi := { dst := some 98, op := Op.fieldAddr 33 (Operand.tmp 1) 5, type := 0, pos := "ref.go:29", after := #[{ on := 10, ground := Ground.guard }], guard := some (10, false) }) (v := ?_) rfl (by kernel_rfl) (by kernel_rfl) (by kernel_rfl) (fun _ _ _ h => h) (Or.inl ⟨by rfl, ?_⟩) (by assumption) ?_
                    rotate_left
                    · intro w hSw; (try dsimp only at hSw); first | (go_simp; done) | (go_simp; with_reducible rfl)
                    try simp only [Act.put, List.setIfInBounds_toArray, List.set_cons_zero, List.set_cons_succ]
                    refine wpAnyH_take (i := 14) (oi := { dst := some 99, op := Op.load 22 (Operand.tmp 98), type := 22, pos := "ref.go:29", after := #[{ on := 13, ground := Ground.data }, { on := 10, ground := Ground.guard }], guard := some (10, false) }) (v := ?_) rfl (by kernel_rfl) (by kernel_rfl) (by kernel_rfl) (fun _ _ _ h => h) (Or.inl ⟨by rfl, ?_⟩) (by assumption) ?_
                    rotate_left
                    · intro w hSw; (try dsimp only at hSw); first | (go_simp; done) | (go_simp; with_reducible rfl)
                    try simp only [Act.put, List.setIfInBounds_toArray, List.set_cons_zero, List.set_cons_succ]
                    refine wpAnyH_take (i := 15) (oi := { dst := some 100, op := Op.binOp BinOp.lss 22 (Operand.tmp 97) (Operand.tmp 99) 22, type := 4, pos := "ref.go:29", after := #[{ on := 12, ground := Ground.data }, { on := 14, ground := Ground.data }, { on := 10, ground := Ground.guard }], guard := some (10, false) }) (v := ?_) rfl (by kernel_rfl) (by kernel_rfl) (by kernel_rfl) (fun _ _ _ h => h) (Or.inl ⟨by rfl, ?_⟩) (by assumption) ?_
                    rotate_left
                    · intro w hSw; (try dsimp only at hSw); first | (go_simp; done) | (go_simp; with_reducible rfl)
                    try simp only [Act.put, List.setIfInBounds_toArray, List.set_cons_zero, List.set_cons_succ]
                    refine wpAnyH_take (i := 16) (oi := { dst := some 101, op := Op.pick (Operand.tmp 95) (Operand.const (Value.bool true)) (Operand.tmp 100), type := 4, pos := "ref.go:29", after := #[{ on := 10, ground := Ground.data }, { on := 15, ground := Ground.data }], guard := none }) (v := ?_) rfl (by kernel_rfl) (by kernel_rfl) (by kernel_rfl) (fun _ _ _ h => h) (Or.inl ⟨by rfl, ?_⟩) (by assumption) ?_
                    rotate_left
                    · intro w hSw; (try dsimp only at hSw); first | (go_simp; done) | (go_simp; with_reducible rfl)
                    try simp only [Act.put, List.setIfInBounds_toArray, List.set_cons_zero, List.set_cons_succ]
                    refine wpAnyH_take (i := 17) (oi := { dst := some 102, op := Op.move (Operand.tmp 101), type := 4, pos := "ref.go:29", after := #[{ on := 16, ground := Ground.data }, { on := 10, ground := Ground.chain }], guard := none }) (v := ?_) rfl (by kernel_rfl) (by kernel_rfl) (by kernel_rfl) (fun _ _ _ h => h) (Or.inl ⟨by rfl, ?_⟩) (by assumption) ?_
                    rotate_left
                    · intro w hSw; (try dsimp only at hSw); first | (go_simp; done) | (go_simp; with_reducible rfl)
                    try simp only [Act.put, List.setIfInBounds_toArray, List.set_cons_zero, List.set_cons_succ]
                    refine wpAnyH_take (i := 18) (oi := { dst := some 103, op := Op.fieldAddr 33 (Operand.tmp 1) 7, type := 0, pos := "ref.go:29", after := #[{ on := 17, ground := Ground.guard }], guard := some (17, false) }) (v := ?_) rfl (by kernel_rfl) (by kernel_rfl) (by kernel_rfl) (fun _ _ _ h => h) (Or.inl ⟨by rfl, ?_⟩) (by assumption) ?_
                    rotate_left
                    · intro w hSw; (try dsimp only at hSw); first | (go_simp; done) | (go_simp; with_reducible rfl)
                    try simp only [Act.put, List.setIfInBounds_toArray, List.set_cons_zero, List.set_cons_succ]
                    refine wpAnyH_take (i := 19) (oi := { dst := some 104, op := Op.load 30 (Operand.tmp 103), type := 30, pos := "ref.go:29", after := #[{ on := 18, ground := Ground.data }, { on := 17, ground := Ground.guard }], guard := some (17, false) }) (v := ?_) rfl (by kernel_rfl) (by kernel_rfl) (by kernel_rfl) (fun _ _ _ h => h) (Or.inl ⟨by rfl, ?_⟩) (by assumption) ?_
                    rotate_left
                    · intro w hSw; (try dsimp only at hSw); first | (go_simp; done) | (go_simp; with_reducible rfl)
                    try simp only [Act.put, List.setIfInBounds_toArray, List.set_cons_zero, List.set_cons_succ]
                    refine wpAnyH_take (i := 20) (oi := { dst := some 105, op := Op.fieldAddr 33 (Operand.tmp 1) 7, type := 0, pos := "ref.go:29", after := #[{ on := 17, ground := Ground.guard }], guard := some (17, false) }) (v := ?_) rfl (by kernel_rfl) (by kernel_rfl) (by kernel_rfl) (fun _ _ _ h => h) (Or.inl ⟨by rfl, ?_⟩) (by assumption) ?_
                    rotate_left
                    · intro w hSw; (try dsimp only at hSw); first | (go_simp; done) | (go_simp; with_reducible rfl)
                    try simp only [Act.put, List.setIfInBounds_toArray, List.set_cons_zero, List.set_cons_succ]
                    refine wpAnyH_take (i := 21) (oi := { dst := some 106, op := Op.load 30 (Operand.tmp 105), type := 30, pos := "ref.go:29", after := #[{ on := 20, ground := Ground.data }, { on := 17, ground := Ground.guard }], guard := some (17, false) }) (v := ?_) rfl (by kernel_rfl) (by kernel_rfl) (by kernel_rfl) (fun _ _ _ h => h) (Or.inl ⟨by rfl, ?_⟩) (by assumption) ?_
                    rotate_left
                    · intro w hSw; (try dsimp only at hSw); first | (go_simp; done) | (go_simp; with_reducible rfl)
                    try simp only [Act.put, List.setIfInBounds_toArray, List.set_cons_zero, List.set_cons_succ]
                    refine wpAnyH_ready (rs := [22]) (by kernel_rfl) (by simp) ?_
                    refine AllReadyH.cons (o := { dst := some 107, op := Op.call { callee := Callee.value (Operand.func 29), args := #[Operand.tmp 106], argTypes := #[30] }, type := 30, pos := "ref.go:29", after := #[{ on := 21, ground := Ground.data }, { on := 17, ground := Ground.chain }, { on := 17, ground := Ground.guard }], guard := some (17, false) }) rfl (fun K hK => ?_) AllReadyH.nil
                    go_simp
                    go_at_call 29
                    refine (plain_any _ f.Ar f.nr f.cr f.L (HN.out _ hE2.now).2.1 (by omega)).mono ?_
                    rintro e w2 ⟨A2, n2, c2, rfl, hr2, hb2⟩
                    replace hE2 := hE2.next hb2
                    clear hb2
                    go_wp2_with fail
                    clear hHeld
                    refine hK.out _ _ ⟨(HN.out _ hE2.now).1, hE2⟩ (fun hHeld => ?_)
                    clear hK K
                    try simp only [Act.put, List.setIfInBounds_toArray, List.set_cons_zero, List.set_cons_succ]
                    refine wpAnyH_ready (rs := [23]) (by kernel_rfl) (by simp) ?_
                    refine AllReadyH.cons (o := { dst := some 108, op := Op.call { callee := Callee.value (Operand.func 28), args := #[Operand.tmp 104, Operand.tmp 107], argTypes := #[30, 30] }, type := 4, pos := "ref.go:29", after := #[{ on := 19, ground := Ground.data }, { on := 22, ground := Ground.data }, { on := 22, ground := Ground.chain }, { on := 17, ground := Ground.guard }], guard := some (17, false) }) rfl (fun K hK => ?_) AllReadyH.nil
                    go_simp
                    go_at_call 28
                    refine (refSameR_says _ f.Ar A2 f.nr f.cr n2 c2 f.L (setL f.L) (HN.out _ hE2.now).2.1 hr2).mono ?_
                    rintro e w3 ⟨rfl, hb3⟩
                    replace hE2 := hE2.next hb3
                    clear hb3 hr2
                    rw [show sameR f.L (setL f.L) = true from HCAN.out]
                    go_wp2_with fail
                    clear hHeld
                    refine hK.out _ _ ⟨(HN.out _ hE2.now).1, hE2⟩ (fun hHeld => ?_)
                    clear hK K
                    try simp only [Act.put, List.setIfInBounds_toArray, List.set_cons_zero, List.set_cons_succ]
                    refine wpAnyH_take (i := 24) (oi := { dst := some 109, op := Op.unOp UnOp.not 4 (Operand.tmp 108), type := 4, pos := "ref.go:29", after := #[{ on := 23, ground := Ground.data }, { on := 17, ground := Ground.guard }], guard := some (17, false) }) (v := ?_) rfl (by kernel_rfl) (by kernel_rfl) (by kernel_rfl) (fun _ _ _ h => h) (Or.inl ⟨by rfl, ?_⟩) (by assumption) ?_
                    rotate_left
                    · intro w hSw; (try dsimp only at hSw); first | (go_simp; done) | (go_simp; with_reducible rfl)
                    try simp only [Act.put, List.setIfInBounds_toArray, List.set_cons_zero, List.set_cons_succ]
                    refine wpAnyH_take (i := 25) (oi := { dst := some 110, op := Op.pick (Operand.tmp 102) (Operand.const (Value.bool true)) (Operand.tmp 109), type := 4, pos := "ref.go:29", after := #[{ on := 17, ground := Ground.data }, { on := 24, ground := Ground.data }], guard := none }) (v := ?_) rfl (by kernel_rfl) (by kernel_rfl) (by kernel_rfl) (fun _ _ _ h => h) (Or.inl ⟨by rfl, ?_⟩) (by assumption) ?_
                    rotate_left
                    · intro w hSw; (try dsimp only at hSw); first | (go_simp; done) | (go_simp; with_reducible rfl)
                    try simp only [Act.put, List.setIfInBounds_toArray, List.set_cons_zero, List.set_cons_succ]
                    refine wpAnyH_done (by kernel_rfl) ?_ _
                    refine NoPanic.normal ?_
                    have HBB := Lib.hid (HN.out _ hE2.now).2.2.2
                    have HRS := Lib.hid (HN.out _ hE2.now).2.1
                    have HIT := Lib.hid (HN.out _ hE2.now).2.2.1
                    obtain ⟨⟨q4, q5, q6, q7, q8⟩, -⟩ := HN.out _ hE2.now
                    have HEV := Lib.hid hE2
                    clear hE2
                    go_wp2
                    refine wp_loop_rounds 1 ?_
                    rw [rounds_succ]
                    go_wp2
                    refine wp_loop_rounds 1 ?_
                    rw [rounds_succ]
                    go_wp2
                    go_ret
                    refine ⟨ret_b ?_, HBB.out⟩
                    rw [HB.out, decP_congr HN0.out, decP_yes]
                    exact ⟨Hh1.out, Hh2.out, Hh3.out, Hh4.out, Hh5.out, Hh6.out, Hh7.out, Hh8.out, Hh9.out⟩
                  · have Hh9 := Lib.hid h9
                    have h9n0 : decide ((0 : Int) < (f.ni : Int)) = true := by simp; omega
                    have h9n1 : decide (0 < f.ni) = true := by simp; omega
                    clear h9
                    go_enter Tryd.func13, Tryd.ntmps13
                    go_wp2
                    go_ret
                    refine ⟨ret_b ?_, below_box w _⟩
                    rw [HB.out, decP_congr HN0.out, decP_no]
                    intro x
                    have hx := Hh9.out
                    first | exact hx x.1 | exact hx x.2.1 | exact hx x.2.2.1 | exact hx x.2.2.2.1 | exact hx x.2.2.2.2.1 | exact hx x.2.2.2.2.2.1 | exact hx x.2.2.2.2.2.2.1 | exact hx x.2.2.2.2.2.2.2.1 | exact hx x.2.2.2.2.2.2.2.2 | omega
                · have Hh8 := Lib.hid h8
                  have h8n0 : decide ((0 : Int) < (f.ic : Int)) = true := by simp; omega
                  have h8n1 : decide (0 < f.ic) = true := by simp; omega
                  clear h8
                  go_enter Tryd.func13, Tryd.ntmps13
                  go_wp2
                  go_ret
                  refine ⟨ret_b ?_, below_box w _⟩
                  rw [HB.out, decP_congr HN0.out, decP_no]
                  intro x
                  have hx := Hh8.out
                  first | exact hx x.1 | exact hx x.2.1 | exact hx x.2.2.1 | exact hx x.2.2.2.1 | exact hx x.2.2.2.2.1 | exact hx x.2.2.2.2.2.1 | exact hx x.2.2.2.2.2.2.1 | exact hx x.2.2.2.2.2.2.2.1 | exact hx x.2.2.2.2.2.2.2.2 | omega
              · have Hh7 := Lib.hid h7
                have h7n0 : decide ((0 : Int) < (f.nr : Int)) = true := by simp; omega
                have h7n1 : decide (0 < f.nr) = true := by simp; omega
                clear h7
                go_enter Tryd.func13, Tryd.ntmps13
                go_wp2
                go_ret
                refine ⟨ret_b ?_, below_box w _⟩
                rw [HB.out, decP_congr HN0.out, decP_no]
                intro x
                have hx := Hh7.out
                first | exact hx x.1 | exact hx x.2.1 | exact hx x.2.2.1 | exact hx x.2.2.2.1 | exact hx x.2.2.2.2.1 | exact hx x.2.2.2.2.2.1 | exact hx x.2.2.2.2.2.2.1 | exact hx x.2.2.2.2.2.2.2.1 | exact hx x.2.2.2.2.2.2.2.2 | omega
            · have Hh6 := Lib.hid h6
              have h6n0 : decide ((0 : Int) < (f.li : Int)) = true := by simp; omega
              have h6n1 : decide (0 < f.li) = true := by simp; omega
              clear h6
              go_enter Tryd.func13, Tryd.ntmps13
              go_wp2
              go_ret
              refine ⟨ret_b ?_, below_box w _⟩
              rw [HB.out, decP_congr HN0.out, decP_no]
              intro x
              have hx := Hh6.out
              first | exact hx x.1 | exact hx x.2.1 | exact hx x.2.2.1 | exact hx x.2.2.2.1 | exact hx x.2.2.2.2.1 | exact hx x.2.2.2.2.2.1 | exact hx x.2.2.2.2.2.2.1 | exact hx x.2.2.2.2.2.2.2.1 | exact hx x.2.2.2.2.2.2.2.2 | omega
          · have Hh5 := Lib.hid h5
            have h5n0 : decide ((0 : Int) < (f.cu : Int)) = true := by simp; omega
            have h5n1 : decide (0 < f.cu) = true := by simp; omega
            clear h5
            go_enter Tryd.func13, Tryd.ntmps13
            go_wp2
            go_ret
            refine ⟨ret_b ?_, below_box w _⟩
            rw [HB.out, decP_congr HN0.out, decP_no]
            intro x
            have hx := Hh5.out
            first | exact hx x.1 | exact hx x.2.1 | exact hx x.2.2.1 | exact hx x.2.2.2.1 | exact hx x.2.2.2.2.1 | exact hx x.2.2.2.2.2.1 | exact hx x.2.2.2.2.2.2.1 | exact hx x.2.2.2.2.2.2.2.1 | exact hx x.2.2.2.2.2.2.2.2 | omega
        · have Hh4 := Lib.hid h4
          have h4n0 : decide ((0 : Int) < (f.ba : Int)) = false := by simp; omega
          have h4n1 : decide (0 < f.ba) = false := by simp; omega
          clear h4
          go_enter Tryd.func13, Tryd.ntmps13
          go_wp2
          go_ret
          refine ⟨ret_b ?_, below_box w _⟩
          rw [HB.out, decP_congr HN0.out, decP_no]
          intro x
          have hx := Hh4.out
          first | exact hx x.1 | exact hx x.2.1 | exact hx x.2.2.1 | exact hx x.2.2.2.1 | exact hx x.2.2.2.2.1 | exact hx x.2.2.2.2.2.1 | exact hx x.2.2.2.2.2.2.1 | exact hx x.2.2.2.2.2.2.2.1 | exact hx x.2.2.2.2.2.2.2.2 | omega
      · have Hh3 := Lib.hid h3
        have h3n0 : ((f.ep : Int) == 0) = true := by simp; omega
        clear h3
        go_enter Tryd.func13, Tryd.ntmps13
        go_wp2
        go_ret
        refine ⟨ret_b ?_, below_box w _⟩
        rw [HB.out, decP_congr HN0.out, decP_no]
        intro x
        have hx := Hh3.out
        first | exact hx x.1 | exact hx x.2.1 | exact hx x.2.2.1 | exact hx x.2.2.2.1 | exact hx x.2.2.2.2.1 | exact hx x.2.2.2.2.2.1 | exact hx x.2.2.2.2.2.2.1 | exact hx x.2.2.2.2.2.2.2.1 | exact hx x.2.2.2.2.2.2.2.2 | omega
    · have Hh2 := Lib.hid h2
      have h2n0 : (15 : Int) < f.ag := by omega
      clear h2
      go_enter Tryd.func13, Tryd.ntmps13
      go_wp2
      go_ret
      refine ⟨ret_b ?_, below_box w _⟩
      rw [HB.out, decP_congr HN0.out, decP_no]
      intro x
      have hx := Hh2.out
      first | exact hx x.1 | exact hx x.2.1 | exact hx x.2.2.1 | exact hx x.2.2.2.1 | exact hx x.2.2.2.2.1 | exact hx x.2.2.2.2.2.1 | exact hx x.2.2.2.2.2.2.1 | exact hx x.2.2.2.2.2.2.2.1 | exact hx x.2.2.2.2.2.2.2.2 | omega
  · have Hh1 := Lib.hid h1
    have h1n0 : f.ag < 0 := by omega
    clear h1
    go_enter Tryd.func13, Tryd.ntmps13
    go_wp2
    go_ret
    refine ⟨ret_b ?_, below_box w _⟩
    rw [HB.out, decP_congr HN0.out, decP_no]
    intro x
    have hx := Hh1.out
    first | exact hx x.1 | exact hx x.2.1 | exact hx x.2.2.1 | exact hx x.2.2.2.1 | exact hx x.2.2.2.2.1 | exact hx x.2.2.2.2.2.1 | exact hx x.2.2.2.2.2.2.1 | exact hx x.2.2.2.2.2.2.2.1 | exact hx x.2.2.2.2.2.2.2.2 | omega

set_option maxRecDepth 100000 in
set_option maxHeartbeats 4000000 in
theorem refRight3_any (w : World) (f : Fv) (h : FrAt w f) (hk : f.kd = 3) (hsr : f.nr ≤ 40) (hsi : f.ni ≤ 70) :
    Calls Tryd.prog 13 #[f.r] w (Says w (.bool (decP (RightP f.m)))) := by
  have hN : RightP f.m ↔ 0 ≤ f.ag ∧ f.ag < 16 ∧ 1 ≤ f.ep ∧ 1 ≤ f.ba ∧ f.cu = 0 ∧ f.li = 0 ∧ f.nr = 0 ∧ ItemsP f.m := by
    have e : f.m.kd = 3 := hk
    have e0 : BatchP f.m ↔ 1 ≤ f.ba ∧ f.cu = 0 ∧ f.li = 0 ∧ f.nr = 0 ∧ ItemsP f.m := by
      unfold BatchP NoAnsP
      have e2 : f.m.L = [] ↔ f.nr = 0 := h.runs0
      rw [e2]
      show _ ∧ (f.cu = 0 ∧ f.li = 0 ∧ _) ∧ _ ↔ _
      exact ⟨fun ⟨a, ⟨d, e, g⟩, b⟩ => ⟨a, d, e, g, b⟩, fun ⟨a, d, e, g, b⟩ => ⟨a, ⟨d, e, g⟩, b⟩⟩
    rw [← e0]
    unfold RightP PartsP
    rw [e]
    constructor
    · rintro ⟨h1, h2, h3, h4⟩
      refine ⟨h1, h2, h3, ?_⟩
      rcases h4 with h4 | h4 | h4
      all_goals first | exact h4.2 | (exfalso; omega)
    · rintro ⟨h1, h2, h3, h4⟩
      exact ⟨h1, h2, h3, by first | exact .inl ⟨rfl, h4⟩ | exact .inr (.inl ⟨by omega, h4⟩) | exact .inr (.inr ⟨rfl, h4⟩)⟩
  obtain ⟨b, HB⟩ : ∃ b, Hid (b = decP (RightP f.m)) := ⟨_, rfl⟩
  rw [← HB.out]
  have HN0 := Lib.hid hN
  have HV : Hid (f.r = .agg #[.int .i64 3, .int .i64 f.ag, .int .u64 (f.ep : Int), .int .u64 (f.ic : Int), .int .u64 (f.ba : Int), .int .u64 (f.cu : Int), .int .u64 (f.li : Int), .slice f.Ar f.nr f.cr, .slice f.Ai f.ni f.ci]) := by show _ = _; unfold Fv.r; rw [hk]; rfl
  rw [HV.out]
  have HF := Lib.hid h
  have hmr := h.rs.sn.max
  have hmi := h.it.max
  have hlr := h.rs.sn.le
  have hli := h.it.le
  unfold maxLen at hmr hmi
  have HLR := Lib.hid h.rs.len
  have HLI := Lib.hid h.it.len
  have hb4 := h.ba
  have hb5 := h.cu
  have hb6 := h.li
  unfold two64 at hb4 hb5 hb6
  clear hN h hk
  by_cases h1 : (0 : Int) ≤ f.ag
  · have Hh1 := Lib.hid h1
    have h1y0 : ¬ f.ag < 0 := by omega
    clear h1
    by_cases h2 : f.ag < 16
    · have Hh2 := Lib.hid h2
      have h2y0 : ¬ (15 : Int) < f.ag := by omega
      clear h2
      by_cases h3 : 1 ≤ f.ep
      · have Hh3 := Lib.hid h3
        have h3y0 : ((f.ep : Int) == 0) = false := by simp; omega
        clear h3
        by_cases h4 : 1 ≤ f.ba
        · have Hh4 := Lib.hid h4
          have h4y0 : decide ((0 : Int) < (f.ba : Int)) = true := by simp; omega
          have h4y1 : decide (0 < f.ba) = true := by simp; omega
          clear h4
          by_cases h5 : f.cu = 0
          · have Hh5 := Lib.hid h5
            have h5y0 : decide ((0 : Int) < (f.cu : Int)) = false := by simp; omega
            have h5y1 : decide (0 < f.cu) = false := by simp; omega
            clear h5
            by_cases h6 : f.li = 0
            · have Hh6 := Lib.hid h6
              have h6y0 : decide ((0 : Int) < (f.li : Int)) = false := by simp; omega
              have h6y1 : decide (0 < f.li) = false := by simp; omega
              clear h6
              by_cases h7 : f.nr = 0
              · have Hh7 := Lib.hid h7
                have h7y0 : decide ((0 : Int) < (f.nr : Int)) = false := by simp; omega
                have h7y1 : decide (0 < f.nr) = false := by simp; omega
                clear h7
                have HL0 : Hid (f.L = []) := List.eq_nil_of_length_eq_zero (by have := HLR.out; have := Hh7.out; omega)
                have HCAN : Hid (sameR f.L (setL f.L) = true) := by show _ = _; rw [(sameR_iff _ _)]; exact (canon_set_iff HF.out.rs.lt).1 (by rw [HL0.out]; exact Canon.nil)
                have n32 : decide (32 < f.nr) = false := by simp; have := Hh7.out; omega
                have n32I : decide ((32 : Int) < (f.nr : Int)) = false := by simp; have := Hh7.out; omega
                have nlc : decide (f.li < f.cu) = false := by simp; have := Hh5.out; have := Hh6.out; omega
                obtain ⟨its, hits⟩ : ∃ its, its = f.ks.map Ik.it := ⟨_, rfl⟩
                have HIE := Lib.hid hits
                have HM : Hid (f.m.its = its ∧ f.m.ba = f.ba) := ⟨hits.symm, rfl⟩
                have HIL : Hid (its.length = f.ni) := by show _ = _; rw [hits, List.length_map, HLI.out]
                clear hits
                by_cases h64 : 64 < f.ni
                · have n64 : decide (64 < f.ni) = true := by simp; omega
                  have n64I : decide ((64 : Int) < (f.ni : Int)) = true := by simp; omega
                  have HNO : Hid (¬ (0 ≤ f.ag ∧ f.ag < 16 ∧ 1 ≤ f.ep ∧ 1 ≤ f.ba ∧ f.cu = 0 ∧ f.li = 0 ∧ f.nr = 0 ∧ ItemsP f.m)) := by
                    rintro ⟨_, _, _, _, _, _, _, hp⟩
                    have h1 := hp.1
                    rw [HM.out.1, HIL.out] at h1
                    omega
                  clear h64
                  go_enter Tryd.func13, Tryd.ntmps13
                  go_wp2_with fail
                  obtain ⟨g, hg⟩ : ∃ g, g = w.heap.size := ⟨_, rfl⟩
                  have hE : Ever (fun w' => (w'.cell? ⟨g, 4, none⟩ = some (.int .u64 (f.ba : Int)) ∧ w'.cell? ⟨g, 5, none⟩ = some (.int .u64 (f.cu : Int)) ∧ w'.cell? ⟨g, 6, none⟩ = some (.int .u64 (f.li : Int)) ∧ w'.cell? ⟨g, 7, none⟩ = some (.slice f.Ar f.nr f.cr) ∧ w'.cell? ⟨g, 8, none⟩ = some (.slice f.Ai f.ni f.ci)) ∧ Rs w' w'.heap.size f.Ar f.nr f.cr f.L ∧ Itms w' w'.heap.size f.Ai f.ni f.ci f.ks ∧ Below w.heap.size w w') (w.alloc (Obj.cells #[.int .i64 3, .int .i64 f.ag, .int .u64 (f.ep : Int), .int .u64 (f.ic : Int), .int .u64 (f.ba : Int), .int .u64 (f.cu : Int), .int .u64 (f.li : Int), .slice f.Ar f.nr f.cr, .slice f.Ai f.ni f.ci] 33)) := by
                    intro w' hw
                    have hb : Below w.heap.size w w' := (below_box w (Obj.cells #[.int .i64 3, .int .i64 f.ag, .int .u64 (f.ep : Int), .int .u64 (f.ic : Int), .int .u64 (f.ba : Int), .int .u64 (f.cu : Int), .int .u64 (f.li : Int), .slice f.Ar f.nr f.cr, .slice f.Ai f.ni f.ci] 33)).trans (hw.mono (by simp))
                    rw [hg]
                    exact ⟨⟨ever_cell (cell_last w _ _ _ 4 rfl) _ hw, ever_cell (cell_last w _ _ _ 5 rfl) _ hw, ever_cell (cell_last w _ _ _ 6 rfl) _ hw, ever_cell (cell_last w _ _ _ 7 rfl) _ hw, ever_cell (cell_last w _ _ _ 8 rfl) _ hw⟩, HF.out.rs.on hb (Nat.le_refl _), HF.out.it.on hb, hb⟩
                  rw [← hg]
                  have HG := Lib.hid hg
                  clear hg
                  obtain ⟨Ps, HP⟩ : ∃ Ps : World → Prop, Hid (Ps = fun w' => (w'.cell? ⟨g, 4, none⟩ = some (.int .u64 (f.ba : Int)) ∧ w'.cell? ⟨g, 5, none⟩ = some (.int .u64 (f.cu : Int)) ∧ w'.cell? ⟨g, 6, none⟩ = some (.int .u64 (f.li : Int)) ∧ w'.cell? ⟨g, 7, none⟩ = some (.slice f.Ar f.nr f.cr) ∧ w'.cell? ⟨g, 8, none⟩ = some (.slice f.Ai f.ni f.ci)) ∧ Rs w' w'.heap.size f.Ar f.nr f.cr f.L ∧ Itms w' w'.heap.size f.Ai f.ni f.ci f.ks ∧ Below w.heap.size w w') := ⟨_, rfl⟩
                  have HN : Hid (∀ w', Ps w' → (w'.cell? ⟨g, 4, none⟩ = some (.int .u64 (f.ba : Int)) ∧ w'.cell? ⟨g, 5, none⟩ = some (.int .u64 (f.cu : Int)) ∧ w'.cell? ⟨g, 6, none⟩ = some (.int .u64 (f.li : Int)) ∧ w'.cell? ⟨g, 7, none⟩ = some (.slice f.Ar f.nr f.cr) ∧ w'.cell? ⟨g, 8, none⟩ = some (.slice f.Ai f.ni f.ci)) ∧ Rs w' w'.heap.size f.Ar f.nr f.cr f.L ∧ Itms w' w'.heap.size f.Ai f.ni f.ci f.ks ∧ Below w.heap.size w w') := by rw [HP.out]; exact fun _ h => h
                  replace hE : Ever Ps (w.alloc (Obj.cells #[.int .i64 3, .int .i64 f.ag, .int .u64 (f.ep : Int), .int .u64 (f.ic : Int), .int .u64 (f.ba : Int), .int .u64 (f.cu : Int), .int .u64 (f.li : Int), .slice f.Ar f.nr f.cr, .slice f.Ai f.ni f.ci] 33)) := by rw [HP.out]; exact hE
                  clear HP
                  have hE2 := hE.drewN 1
                  clear hE
                  generalize w.alloc (Obj.cells #[.int .i64 3, .int .i64 f.ag, .int .u64 (f.ep : Int), .int .u64 (f.ic : Int), .int .u64 (f.ba : Int), .int .u64 (f.cu : Int), .int .u64 (f.li : Int), .slice f.Ar f.nr f.cr, .slice f.Ai f.ni f.ci] 33) = wc at *
                  refine wp_region_noPanic ?_
                  refine wp_region_held_drew (S := (fun w' => (w'.cell? ⟨g, 4, none⟩ = some (.int .u64 (f.ba : Int)) ∧ w'.cell? ⟨g, 5, none⟩ = some (.int .u64 (f.cu : Int)) ∧ w'.cell? ⟨g, 6, none⟩ = some (.int .u64 (f.li : Int)) ∧ w'.cell? ⟨g, 7, none⟩ = some (.slice f.Ar f.nr f.cr) ∧ w'.cell? ⟨g, 8, none⟩ = some (.slice f.Ai f.ni f.ci)) ∧ Ever Ps w')) (by kernel_rfl) ⟨(HN.out _ hE2.now).1, hE2⟩ (fun hHeld => ?_)
                  refine wpAnyH_take (i := 0) (oi := { dst := some 85, op := Op.fieldAddr 33 (Operand.tmp 1) 8, type := 0, pos := "ref.go:29", after := #[], guard := none }) (v := ?_) rfl (by kernel_rfl) (by kernel_rfl) (by kernel_rfl) (fun _ _ _ h => h) (Or.inl ⟨by rfl, ?_⟩) (by assumption) ?_
                  rotate_left
                  · intro w hSw; (try dsimp only at hSw); first | (go_simp; done) | (go_simp; with_reducible rfl)
                  try simp only [Act.put, List.setIfInBounds_toArray, List.set_cons_zero, List.set_cons_succ]
                  refine wpAnyH_take (i := 1) (oi := { dst := some 86, op := Op.load 31 (Operand.tmp 85), type := 31, pos := "ref.go:29", after := #[{ on := 0, ground := Ground.data }], guard := none }) (v := ?_) rfl (by kernel_rfl) (by kernel_rfl) (by kernel_rfl) (fun _ _ _ h => h) (Or.inl ⟨by rfl, ?_⟩) (by assumption) ?_
                  rotate_left
                  · intro w hSw; (try dsimp only at hSw); first | (go_simp; done) | (go_simp; with_reducible rfl)
                  try simp only [Act.put, List.setIfInBounds_toArray, List.set_cons_zero, List.set_cons_succ]
                  refine wpAnyH_take (i := 2) (oi := { dst := some 87, op := Op.call { callee := Callee.builtin Builtin.len, args := #[Operand.tmp 86], argTypes := #[31] }, type := 3, pos := "ref.go:29", after := #[{ on := 1, ground := Ground.data }], guard := none }) (v := ?_) rfl (by kernel_rfl) (by kernel_rfl) (by kernel_rfl) (fun _ _ _ h => h) (Or.inl ⟨by rfl, ?_⟩) (by assumption) ?_
                  rotate_left
                  · intro w hSw; (try dsimp only at hSw); first | (go_simp; done) | (go_simp; with_reducible rfl)
                  try simp only [Act.put, List.setIfInBounds_toArray, List.set_cons_zero, List.set_cons_succ]
                  refine wpAnyH_take (i := 3) (oi := { dst := some 88, op := Op.binOp BinOp.gtr 3 (Operand.tmp 87) (Operand.const (Value.int IntKind.i64 64)) 3, type := 4, pos := "ref.go:29", after := #[{ on := 2, ground := Ground.data }], guard := none }) (v := ?_) rfl (by kernel_rfl) (by kernel_rfl) (by kernel_rfl) (fun _ _ _ h => h) (Or.inl ⟨by rfl, ?_⟩) (by assumption) ?_
                  rotate_left
                  · intro w hSw; (try dsimp only at hSw); first | (go_simp; done) | (go_simp; with_reducible rfl)
                  try simp only [Act.put, List.setIfInBounds_toArray, List.set_cons_zero, List.set_cons_succ]
                  refine wpAnyH_take (i := 4) (oi := { dst := some 89, op := Op.move (Operand.tmp 88), type := 4, pos := "ref.go:29", after := #[{ on := 3, ground := Ground.data }], guard := none }) (v := ?_) rfl (by kernel_rfl) (by kernel_rfl) (by kernel_rfl) (fun _ _ _ h => h) (Or.inl ⟨by rfl, ?_⟩) (by assumption) ?_
                  rotate_left
                  · intro w hSw; (try dsimp only at hSw); first | (go_simp; done) | (go_simp; with_reducible rfl)
                  try simp only [Act.put, List.setIfInBounds_toArray, List.set_cons_zero, List.set_cons_succ]
                  refine wpAnyH_take (i := 5) (oi := { dst := some 90, op := Op.fieldAddr 33 (Operand.tmp 1) 7, type := 0, pos := "ref.go:29", after := #[{ on := 4, ground := Ground.guard }], guard := some (4, false) }) (v := undef) rfl (by kernel_rfl) (by kernel_rfl) (by kernel_rfl) (fun _ _ _ h => h) (Or.inr ⟨by rfl, rfl⟩) (by assumption) ?_
                  try simp only [Act.put, List.setIfInBounds_toArray, List.set_cons_zero, List.set_cons_succ]
                  refine wpAnyH_take (i := 6) (oi := { dst := some 91, op := Op.load 30 (Operand.tmp 90), type := 30, pos := "ref.go:29", after := #[{ on := 5, ground := Ground.data }, { on := 4, ground := Ground.guard }], guard := some (4, false) }) (v := undef) rfl (by kernel_rfl) (by kernel_rfl) (by kernel_rfl) (fun _ _ _ h => h) (Or.inr ⟨by rfl, rfl⟩) (by assumption) ?_
                  try simp only [Act.put, List.setIfInBounds_toArray, List.set_cons_zero, List.set_cons_succ]
                  refine wpAnyH_take (i := 7) (oi := { dst := some 92, op := Op.call { callee := Callee.builtin Builtin.len, args := #[Operand.tmp 91], argTypes := #[30] }, type := 3, pos := "ref.go:29", after := #[{ on := 6, ground := Ground.data }, { on := 4, ground := Ground.guard }], guard := some (4, false) }) (v := undef) rfl (by kernel_rfl) (by kernel_rfl) (by kernel_rfl) (fun _ _ _ h => h) (Or.inr ⟨by rfl, rfl⟩) (by assumption) ?_
                  try simp only [Act.put, List.setIfInBounds_toArray, List.set_cons_zero, List.set_cons_succ]
                  refine wpAnyH_take (i := 8) (oi := { dst := some 93, op := Op.binOp BinOp.gtr 3 (Operand.tmp 92) (Operand.const (Value.int IntKind.i64 32)) 3, type := 4, pos := "ref.go:29", after := #[{ on := 7, ground := Ground.data }, { on := 4, ground := Ground.guard }], guard := some (4, false) }) (v := undef) rfl (by kernel_rfl) (by kernel_rfl) (by kernel_rfl) (fun _ _ _ h => h) (Or.inr ⟨by rfl, rfl⟩) (by assumption) ?_
                  try simp only [Act.put, List.setIfInBounds_toArray, List.set_cons_zero, List.set_cons_succ]
                  refine wpAnyH_take (i := 9) (oi := { dst := some 94, op := Op.pick (Operand.tmp 89) (Operand.const (Value.bool true)) (Operand.tmp 93), type := 4, pos := "ref.go:29", after := #[{ on := 4, ground := Ground.data }, { on := 8, ground := Ground.data }], guard := none }) (v := ?_) rfl (by kernel_rfl) (by kernel_rfl) (by kernel_rfl) (fun _ _ _ h => h) (Or.inl ⟨by rfl, ?_⟩) (by assumption) ?_
                  rotate_left
                  · intro w hSw; (try dsimp only at hSw); first | (go_simp; done) | (go_simp; with_reducible rfl)
                  try simp only [Act.put, List.setIfInBounds_toArray, List.set_cons_zero, List.set_cons_succ]
                  refine wpAnyH_take (i := 10) (oi := { dst := some 95, op := Op.move (Operand.tmp 94), type := 4, pos := "ref.go:29", after := #[{ on := 9, ground := Ground.data }, { on := 4, ground := Ground.chain }], guard := none }) (v := ?_) rfl (by kernel_rfl) (by kernel_rfl) (by kernel_rfl) (fun _ _ _ h => h) (Or.inl ⟨by rfl, ?_⟩) (by assumption) ?_
                  rotate_left
                  · intro w hSw; (try dsimp only at hSw); first | (go_simp; done) | (go_simp; with_reducible rfl)
                  try simp only [Act.put, List.setIfInBounds_toArray, List.set_cons_zero, List.set_cons_succ]
                  refine wpAnyH_take (i := 11) (oi := { dst := some 96, op := Op.fieldAddr 33 (Operand.tmp 1) 6, type := 0, pos := "ref.go:29", after := #[{ on := 10, ground := Ground.guard }], guard := some (10, false) }) (v := undef) rfl (by kernel_rfl) (by kernel_rfl) (by kernel_rfl) (fun _ _ _ h => h) (Or.inr ⟨by rfl, rfl⟩) (by assumption) ?_
                  try simp only [Act.put, List.setIfInBounds_toArray, List.set_cons_zero, List.set_cons_succ]
                  refine wpAnyH_take (i := 12) (oi := { dst := some 97, op := Op.load 22 (Operand.tmp 96), type := 22, pos := "ref.go:29", after := #[{ on := 11, ground := Ground.data }, { on := 10, ground := Ground.guard }], guard := some (10, false) }) (v := undef) rfl (by kernel_rfl) (by kernel_rfl) (by kernel_rfl) (fun _ _ _ h => h) (Or.inr ⟨by rfl, rfl⟩) (by assumption) ?_
                  try simp only [Act.put, List.setIfInBounds_toArray, List.set_cons_zero, List.set_cons_succ]
                  refine wpAnyH_take (i := 13) (oi := { dst := some 98, op := Op.fieldAddr 33 (Operand.tmp 1) 5, type := 0, pos := "ref.go:29", after := #[{ on := 10, ground := Ground.guard }], guard := some (10, false) }) (v := undef) rfl (by kernel_rfl) (by kernel_rfl) (by kernel_rfl) (fun _ _ _ h => h) (Or.inr ⟨by rfl, rfl⟩) (by assumption) ?_
                  try simp only [Act.put, List.setIfInBounds_toArray, List.set_cons_zero, List.set_cons_succ]
                  refine wpAnyH_take (i := 14) (oi := { dst := some 99, op := Op.load 22 (Operand.tmp 98), type := 22, pos := "ref.go:29", after := #[{ on := 13, ground := Ground.data }, { on := 10, ground := Ground.guard }], guard := some (10, false) }) (v := undef) rfl (by kernel_rfl) (by kernel_rfl) (by kernel_rfl) (fun _ _ _ h => h) (Or.inr ⟨by rfl, rfl⟩) (by assumption) ?_
                  try simp only [Act.put, List.setIfInBounds_toArray, List.set_cons_zero, List.set_cons_succ]
                  refine wpAnyH_take (i := 15) (oi := { dst := some 100, op := Op.binOp BinOp.lss 22 (Operand.tmp 97) (Operand.tmp 99) 22, type := 4, pos := "ref.go:29", after := #[{ on := 12, ground := Ground.data }, { on := 14, ground := Ground.data }, { on := 10, ground := Ground.guard }], guard := some (10, false) }) (v := undef) rfl (by kernel_rfl) (by kernel_rfl) (by kernel_rfl) (fun _ _ _ h => h) (Or.inr ⟨by rfl, rfl⟩) (by assumption) ?_
                  try simp only [Act.put, List.setIfInBounds_toArray, List.set_cons_zero, List.set_cons_succ]
                  refine wpAnyH_take (i := 16) (oi := { dst := some 101, op := Op.pick (Operand.tmp 95) (Operand.const (Value.bool true)) (Operand.tmp 100), type := 4, pos := "ref.go:29", after := #[{ on := 10, ground := Ground.data }, { on := 15, ground := Ground.data }], guard := none }) (v := ?_) rfl (by kernel_rfl) (by kernel_rfl) (by kernel_rfl) (fun _ _ _ h => h) (Or.inl ⟨by rfl, ?_⟩) (by assumption) ?_
                  rotate_left
                  · intro w hSw; (try dsimp only at hSw); first | (go_simp; done) | (go_simp; with_reducible rfl)
                  try simp only [Act.put, List.setIfInBounds_toArray, List.set_cons_zero, List.set_cons_succ]
                  refine wpAnyH_take (i := 17) (oi := { dst := some 102, op := Op.move (Operand.tmp 101), type := 4, pos := "ref.go:29", after := #[{ on := 16, ground := Ground.data }, { on := 10, ground := Ground.chain }], guard := none }) (v := ?_) rfl (by kernel_rfl) (by kernel_rfl) (by kernel_rfl) (fun _ _ _ h => h) (Or.inl ⟨by rfl, ?_⟩) (by assumption) ?_
                  rotate_left
                  · intro w hSw; (try dsimp only at hSw); first | (go_simp; done) | (go_simp; with_reducible rfl)
                  try simp only [Act.put, List.setIfInBounds_toArray, List.set_cons_zero, List.set_cons_succ]
                  refine wpAnyH_take (i := 18) (oi := { dst := some 103, op := Op.fieldAddr 33 (Operand.tmp 1) 7, type := 0, pos := "ref.go:29", after := #[{ on := 17, ground := Ground.guard }], guard := some (17, false) }) (v := undef) rfl (by kernel_rfl) (by kernel_rfl) (by kernel_rfl) (fun _ _ _ h => h) (Or.inr ⟨by rfl, rfl⟩) (by assumption) ?_
                  try simp only [Act.put, List.setIfInBounds_toArray, List.set_cons_zero, List.set_cons_succ]
                  refine wpAnyH_take (i := 19) (oi := { dst := some 104, op := Op.load 30 (Operand.tmp 103), type := 30, pos := "ref.go:29", after := #[{ on := 18, ground := Ground.data }, { on := 17, ground := Ground.guard }], guard := some (17, false) }) (v := undef) rfl (by kernel_rfl) (by kernel_rfl) (by kernel_rfl) (fun _ _ _ h => h) (Or.inr ⟨by rfl, rfl⟩) (by assumption) ?_
                  try simp only [Act.put, List.setIfInBounds_toArray, List.set_cons_zero, List.set_cons_succ]
                  refine wpAnyH_take (i := 20) (oi := { dst := some 105, op := Op.fieldAddr 33 (Operand.tmp 1) 7, type := 0, pos := "ref.go:29", after := #[{ on := 17, ground := Ground.guard }], guard := some (17, false) }) (v := undef) rfl (by kernel_rfl) (by kernel_rfl) (by kernel_rfl) (fun _ _ _ h => h) (Or.inr ⟨by rfl, rfl⟩) (by assumption) ?_
                  try simp only [Act.put, List.setIfInBounds_toArray, List.set_cons_zero, List.set_cons_succ]
                  refine wpAnyH_take (i := 21) (oi := { dst := some 106, op := Op.load 30 (Operand.tmp 105), type := 30, pos := "ref.go:29", after := #[{ on := 20, ground := Ground.data }, { on := 17, ground := Ground.guard }], guard := some (17, false) }) (v := undef) rfl (by kernel_rfl) (by kernel_rfl) (by kernel_rfl) (fun _ _ _ h => h) (Or.inr ⟨by rfl, rfl⟩) (by assumption) ?_
                  try simp only [Act.put, List.setIfInBounds_toArray, List.set_cons_zero, List.set_cons_succ]
                  refine wpAnyH_ready (rs := [22]) (by kernel_rfl) (by simp) ?_
                  refine AllReadyH.cons (o := { dst := some 107, op := Op.call { callee := Callee.value (Operand.func 29), args := #[Operand.tmp 106], argTypes := #[30] }, type := 30, pos := "ref.go:29", after := #[{ on := 21, ground := Ground.data }, { on := 17, ground := Ground.chain }, { on := 17, ground := Ground.guard }], guard := some (17, false) }) rfl (fun K hK => ?_) AllReadyH.nil
                  refine not_wanted (by rfl) ?_
                  clear hHeld
                  refine hK.out _ _ ⟨(HN.out _ hE2.now).1, hE2⟩ (fun hHeld => ?_)
                  clear hK K
                  try simp only [Act.put, List.setIfInBounds_toArray, List.set_cons_zero, List.set_cons_succ]
                  refine wpAnyH_ready (rs := [23]) (by kernel_rfl) (by simp) ?_
                  refine AllReadyH.cons (o := { dst := some 108, op := Op.call { callee := Callee.value (Operand.func 28), args := #[Operand.tmp 104, Operand.tmp 107], argTypes := #[30, 30] }, type := 4, pos := "ref.go:29", after := #[{ on := 19, ground := Ground.data }, { on := 22, ground := Ground.data }, { on := 22, ground := Ground.chain }, { on := 17, ground := Ground.guard }], guard := some (17, false) }) rfl (fun K hK => ?_) AllReadyH.nil
                  refine not_wanted (by rfl) ?_
                  clear hHeld
                  refine hK.out _ _ ⟨(HN.out _ hE2.now).1, hE2⟩ (fun hHeld => ?_)
                  clear hK K
                  try simp only [Act.put, List.setIfInBounds_toArray, List.set_cons_zero, List.set_cons_succ]
                  refine wpAnyH_take (i := 24) (oi := { dst := some 109, op := Op.unOp UnOp.not 4 (Operand.tmp 108), type := 4, pos := "ref.go:29", after := #[{ on := 23, ground := Ground.data }, { on := 17, ground := Ground.guard }], guard := some (17, false) }) (v := undef) rfl (by kernel_rfl) (by kernel_rfl) (by kernel_rfl) (fun _ _ _ h => h) (Or.inr ⟨by rfl, rfl⟩) (by assumption) ?_
                  try simp only [Act.put, List.setIfInBounds_toArray, List.set_cons_zero, List.set_cons_succ]
                  refine wpAnyH_take (i := 25) (oi := { dst := some 110, op := Op.pick (Operand.tmp 102) (Operand.const (Value.bool true)) (Operand.tmp 109), type := 4, pos := "ref.go:29", after := #[{ on := 17, ground := Ground.data }, { on := 24, ground := Ground.data }], guard := none }) (v := ?_) rfl (by kernel_rfl) (by kernel_rfl) (by kernel_rfl) (fun _ _ _ h => h) (Or.inl ⟨by rfl, ?_⟩) (by assumption) ?_
                  rotate_left
                  · intro w hSw; (try dsimp only at hSw); first | (go_simp; done) | (go_simp; with_reducible rfl)
                  try simp only [Act.put, List.setIfInBounds_toArray, List.set_cons_zero, List.set_cons_succ]
                  refine wpAnyH_done (by kernel_rfl) ?_ _
                  refine NoPanic.normal ?_
                  have HBB := Lib.hid (HN.out _ hE2.now).2.2.2
                  clear hE2
                  go_wp2
                  go_ret
                  refine ⟨ret_b ?_, HBB.out⟩
                  rw [HB.out, decP_congr HN0.out, decP_no HNO.out]
                have n64 : decide (64 < f.ni) = false := by simp; omega
                have n64I : decide ((64 : Int) < (f.ni : Int)) = false := by simp; omega
                have H64 := Lib.hid h64
                clear h64
                go_enter Tryd.func13, Tryd.ntmps13
                go_wp2_with fail
                obtain ⟨g, hg⟩ : ∃ g, g = w.heap.size := ⟨_, rfl⟩
                have hE : Ever (fun w' => (w'.cell? ⟨g, 4, none⟩ = some (.int .u64 (f.ba : Int)) ∧ w'.cell? ⟨g, 5, none⟩ = some (.int .u64 (f.cu : Int)) ∧ w'.cell? ⟨g, 6, none⟩ = some (.int .u64 (f.li : Int)) ∧ w'.cell? ⟨g, 7, none⟩ = some (.slice f.Ar f.nr f.cr) ∧ w'.cell? ⟨g, 8, none⟩ = some (.slice f.Ai f.ni f.ci)) ∧ Rs w' w'.heap.size f.Ar f.nr f.cr f.L ∧ Itms w' w'.heap.size f.Ai f.ni f.ci f.ks ∧ Below w.heap.size w w') (w.alloc (Obj.cells #[.int .i64 3, .int .i64 f.ag, .int .u64 (f.ep : Int), .int .u64 (f.ic : Int), .int .u64 (f.ba : Int), .int .u64 (f.cu : Int), .int .u64 (f.li : Int), .slice f.Ar f.nr f.cr, .slice f.Ai f.ni f.ci] 33)) := by
                  intro w' hw
                  have hb : Below w.heap.size w w' := (below_box w (Obj.cells #[.int .i64 3, .int .i64 f.ag, .int .u64 (f.ep : Int), .int .u64 (f.ic : Int), .int .u64 (f.ba : Int), .int .u64 (f.cu : Int), .int .u64 (f.li : Int), .slice f.Ar f.nr f.cr, .slice f.Ai f.ni f.ci] 33)).trans (hw.mono (by simp))
                  rw [hg]
                  exact ⟨⟨ever_cell (cell_last w _ _ _ 4 rfl) _ hw, ever_cell (cell_last w _ _ _ 5 rfl) _ hw, ever_cell (cell_last w _ _ _ 6 rfl) _ hw, ever_cell (cell_last w _ _ _ 7 rfl) _ hw, ever_cell (cell_last w _ _ _ 8 rfl) _ hw⟩, HF.out.rs.on hb (Nat.le_refl _), HF.out.it.on hb, hb⟩
                rw [← hg]
                have HG := Lib.hid hg
                clear hg
                obtain ⟨Ps, HP⟩ : ∃ Ps : World → Prop, Hid (Ps = fun w' => (w'.cell? ⟨g, 4, none⟩ = some (.int .u64 (f.ba : Int)) ∧ w'.cell? ⟨g, 5, none⟩ = some (.int .u64 (f.cu : Int)) ∧ w'.cell? ⟨g, 6, none⟩ = some (.int .u64 (f.li : Int)) ∧ w'.cell? ⟨g, 7, none⟩ = some (.slice f.Ar f.nr f.cr) ∧ w'.cell? ⟨g, 8, none⟩ = some (.slice f.Ai f.ni f.ci)) ∧ Rs w' w'.heap.size f.Ar f.nr f.cr f.L ∧ Itms w' w'.heap.size f.Ai f.ni f.ci f.ks ∧ Below w.heap.size w w') := ⟨_, rfl⟩
                have HN : Hid (∀ w', Ps w' → (w'.cell? ⟨g, 4, none⟩ = some (.int .u64 (f.ba : Int)) ∧ w'.cell? ⟨g, 5, none⟩ = some (.int .u64 (f.cu : Int)) ∧ w'.cell? ⟨g, 6, none⟩ = some (.int .u64 (f.li : Int)) ∧ w'.cell? ⟨g, 7, none⟩ = some (.slice f.Ar f.nr f.cr) ∧ w'.cell? ⟨g, 8, none⟩ = some (.slice f.Ai f.ni f.ci)) ∧ Rs w' w'.heap.size f.Ar f.nr f.cr f.L ∧ Itms w' w'.heap.size f.Ai f.ni f.ci f.ks ∧ Below w.heap.size w w') := by rw [HP.out]; exact fun _ h => h
                replace hE : Ever Ps (w.alloc (Obj.cells #[.int .i64 3, .int .i64 f.ag, .int .u64 (f.ep : Int), .int .u64 (f.ic : Int), .int .u64 (f.ba : Int), .int .u64 (f.cu : Int), .int .u64 (f.li : Int), .slice f.Ar f.nr f.cr, .slice f.Ai f.ni f.ci] 33)) := by rw [HP.out]; exact hE
                clear HP
                have hE2 := hE.drewN 1
                clear hE
                generalize w.alloc (Obj.cells #[.int .i64 3, .int .i64 f.ag, .int .u64 (f.ep : Int), .int .u64 (f.ic : Int), .int .u64 (f.ba : Int), .int .u64 (f.cu : Int), .int .u64 (f.li : Int), .slice f.Ar f.nr f.cr, .slice f.Ai f.ni f.ci] 33) = wc at *
                refine wp_region_noPanic ?_
                refine wp_region_held_drew (S := (fun w' => (w'.cell? ⟨g, 4, none⟩ = some (.int .u64 (f.ba : Int)) ∧ w'.cell? ⟨g, 5, none⟩ = some (.int .u64 (f.cu : Int)) ∧ w'.cell? ⟨g, 6, none⟩ = some (.int .u64 (f.li : Int)) ∧ w'.cell? ⟨g, 7, none⟩ = some (.slice f.Ar f.nr f.cr) ∧ w'.cell? ⟨g, 8, none⟩ = some (.slice f.Ai f.ni f.ci)) ∧ Ever Ps w')) (by kernel_rfl) ⟨(HN.out _ hE2.now).1, hE2⟩ (fun hHeld => ?_)
                refine wpAnyH_take (i := 0) (oi := { dst := some 85, op := Op.fieldAddr 33 (Operand.tmp 1) 8, type := 0, pos := "ref.go:29", after := #[], guard := none }) (v := ?_) rfl (by kernel_rfl) (by kernel_rfl) (by kernel_rfl) (fun _ _ _ h => h) (Or.inl ⟨by rfl, ?_⟩) (by assumption) ?_
                rotate_left
                · intro w hSw; (try dsimp only at hSw); first | (go_simp; done) | (go_simp; with_reducible rfl)
                try simp only [Act.put, List.setIfInBounds_toArray, List.set_cons_zero, List.set_cons_succ]
                refine wpAnyH_take (i := 1) (oi := { dst := some 86, op := Op.load 31 (Operand.tmp 85), type := 31, pos := "ref.go:29", after := #[{ on := 0, ground := Ground.data }], guard := none }) (v := ?_) rfl (by kernel_rfl) (by kernel_rfl) (by kernel_rfl) (fun _ _ _ h => h) (Or.inl ⟨by rfl, ?_⟩) (by assumption) ?_
                rotate_left
                · intro w hSw; (try dsimp only at hSw); first | (go_simp; done) | (go_simp; with_reducible rfl)
                try simp only [Act.put, List.setIfInBounds_toArray, List.set_cons_zero, List.set_cons_succ]
                refine wpAnyH_take (i := 2) (oi := { dst := some 87, op := Op.call { callee := Callee.builtin Builtin.len, args := #[Operand.tmp 86], argTypes := #[31] }, type := 3, pos := "ref.go:29", after := #[{ on := 1, ground := Ground.data }], guard := none }) (v := ?_) rfl (by kernel_rfl) (by kernel_rfl) (by kernel_rfl) (fun _ _ _ h => h) (Or.inl ⟨by rfl, ?_⟩) (by assumption) ?_
                rotate_left
                · intro w hSw; (try dsimp only at hSw); first | (go_simp; done) | (go_simp; with_reducible rfl)
                try simp only [Act.put, List.setIfInBounds_toArray, List.set_cons_zero, List.set_cons_succ]
                refine wpAnyH_take (i := 3) (oi := { dst := some 88, op := Op.binOp BinOp.gtr 3 (Operand.tmp 87) (Operand.const (Value.int IntKind.i64 64)) 3, type := 4, pos := "ref.go:29", after := #[{ on := 2, ground := Ground.data }], guard := none }) (v := ?_) rfl (by kernel_rfl) (by kernel_rfl) (by kernel_rfl) (fun _ _ _ h => h) (Or.inl ⟨by rfl, ?_⟩) (by assumption) ?_
                rotate_left
                · intro w hSw; (try dsimp only at hSw); first | (go_simp; done) | (go_simp; with_reducible rfl)
                try simp only [Act.put, List.setIfInBounds_toArray, List.set_cons_zero, List.set_cons_succ]
                refine wpAnyH_take (i := 4) (oi := { dst := some 89, op := Op.move (Operand.tmp 88), type := 4, pos := "ref.go:29", after := #[{ on := 3, ground := Ground.data }], guard := none }) (v := ?_) rfl (by kernel_rfl) (by kernel_rfl) (by kernel_rfl) (fun _ _ _ h => h) (Or.inl ⟨by rfl, ?_⟩) (by assumption) ?_
                rotate_left
                · intro w hSw; (try dsimp only at hSw); first | (go_simp; done) | (go_simp; with_reducible rfl)
                try simp only [Act.put, List.setIfInBounds_toArray, List.set_cons_zero, List.set_cons_succ]
                refine wpAnyH_take (i := 5) (oi := { dst := some 90, op := Op.fieldAddr 33 (Operand.tmp 1) 7, type := 0, pos := "ref.go:29", after := #[{ on := 4, ground := Ground.guard }], guard := some (4, false) }) (v := ?_) rfl (by kernel_rfl) (by kernel_rfl) (by kernel_rfl) (fun _ _ _ h => h) (Or.inl ⟨by rfl, ?_⟩) (by assumption) ?_
                rotate_left
                · intro w hSw; (try dsimp only at hSw); first | (go_simp; done) | (go_simp; with_reducible rfl)
                try simp only [Act.put, List.setIfInBounds_toArray, List.set_cons_zero, List.set_cons_succ]
                refine wpAnyH_take (i := 6) (oi := { dst := some 91, op := Op.load 30 (Operand.tmp 90), type := 30, pos := "ref.go:29", after := #[{ on := 5, ground := Ground.data }, { on := 4, ground := Ground.guard }], guard := some (4, false) }) (v := ?_) rfl (by kernel_rfl) (by kernel_rfl) (by kernel_rfl) (fun _ _ _ h => h) (Or.inl ⟨by rfl, ?_⟩) (by assumption) ?_
                rotate_left
                · intro w hSw; (try dsimp only at hSw); first | (go_simp; done) | (go_simp; with_reducible rfl)
                try simp only [Act.put, List.setIfInBounds_toArray, List.set_cons_zero, List.set_cons_succ]
                refine wpAnyH_take (i := 7) (oi := { dst := some 92, op := Op.call { callee := Callee.builtin Builtin.len, args := #[Operand.tmp 91], argTypes := #[30] }, type := 3, pos := "ref.go:29", after := #[{ on := 6, ground := Ground.data }, { on := 4, ground := Ground.guard }], guard := some (4, false) }) (v := ?_) rfl (by kernel_rfl) (by kernel_rfl) (by kernel_rfl) (fun _ _ _ h => h) (Or.inl ⟨by rfl, ?_⟩) (by assumption) ?_
                rotate_left
                · intro w hSw; (try dsimp only at hSw); first | (go_simp; done) | (go_simp; with_reducible rfl)
                try simp only [Act.put, List.setIfInBounds_toArray, List.set_cons_zero, List.set_cons_succ]
                refine wpAnyH_take (i := 8) (oi := { dst := some 93, op := Op.binOp BinOp.gtr 3 (Operand.tmp 92) (Operand.const (Value.int IntKind.i64 32)) 3, type := 4, pos := "ref.go:29", after := #[{ on := 7, ground := Ground.data }, { on := 4, ground := Ground.guard }], guard := some (4, false) }) (v := ?_) rfl (by kernel_rfl) (by kernel_rfl) (by kernel_rfl) (fun _ _ _ h => h) (Or.inl ⟨by rfl, ?_⟩) (by assumption) ?_
                rotate_left
                · intro w hSw; (try dsimp only at hSw); first | (go_simp; done) | (go_simp; with_reducible rfl)
                try simp only [Act.put, List.setIfInBounds_toArray, List.set_cons_zero, List.set_cons_succ]
                refine wpAnyH_take (i := 9) (oi := { dst := some 94, op := Op.pick (Operand.tmp 89) (Operand.const (Value.bool true)) (Operand.tmp 93), type := 4, pos := "ref.go:29", after := #[{ on := 4, ground := Ground.data }, { on := 8, ground := Ground.data }], guard := none }) (v := ?_) rfl (by kernel_rfl) (by kernel_rfl) (by kernel_rfl) (fun _ _ _ h => h) (Or.inl ⟨by rfl, ?_⟩) (by assumption) ?_
                rotate_left
                · intro w hSw; (try dsimp only at hSw); first | (go_simp; done) | (go_simp; with_reducible rfl)
                try simp only [Act.put, List.setIfInBounds_toArray, List.set_cons_zero, List.set_cons_succ]
                refine wpAnyH_take (i := 10) (oi := { dst := some 95, op := Op.move (Operand.tmp 94), type := 4, pos := "ref.go:29", after := #[{ on := 9, ground := Ground.data }, { on := 4, ground := Ground.chain }], guard := none }) (v := ?_) rfl (by kernel_rfl) (by kernel_rfl) (by kernel_rfl) (fun _ _ _ h => h) (Or.inl ⟨by rfl, ?_⟩) (by assumption) ?_
                rotate_left
                · intro w hSw; (try dsimp only at hSw); first | (go_simp; done) | (go_simp; with_reducible rfl)
                try simp only [Act.put, List.setIfInBounds_toArray, List.set_cons_zero, List.set_cons_succ]
                refine wpAnyH_take (i := 11) (oi := { dst := some 96, op := Op.fieldAddr 33 (Operand.tmp 1) 6, type := 0, pos := "ref.go:29", after := #[{ on := 10, ground := Ground.guard }], guard := some (10, false) }) (v := ?_) rfl (by kernel_rfl) (by kernel_rfl) (by kernel_rfl) (fun _ _ _ h => h) (Or.inl ⟨by rfl, ?_⟩) (by assumption) ?_
                rotate_left
                · intro w hSw; (try dsimp only at hSw); first | (go_simp; done) | (go_simp; with_reducible rfl)
                try simp only [Act.put, List.setIfInBounds_toArray, List.set_cons_zero, List.set_cons_succ]
                refine wpAnyH_take (i := 12) (oi := { dst := some 97, op := Op.load 22 (Operand.tmp 96), type := 22, pos := "ref.go:29", after := #[{ on := 11, ground := Ground.data }, { on := 10, ground := Ground.guard }], guard := some (10, false) }) (v := ?_) rfl (by kernel_rfl) (by kernel_rfl) (by kernel_rfl) (fun _ _ _ h => h) (Or.inl ⟨by rfl, ?_⟩) (by assumption) ?_
                rotate_left
                · intro w hSw; (try dsimp only at hSw); first | (go_simp; done) | (go_simp; with_reducible rfl)
                try simp only [Act.put, List.setIfInBounds_toArray, List.set_cons_zero, List.set_cons_succ]
                refine wpAnyH_take (i := 13) (oi := { dst := some 98, op := Op.fieldAddr 33 (Operand.tmp 1) 5, type := 0, pos := "ref.go:29", after := #[{ on := 10, ground := Ground.guard }], guard := some (10, false) }) (v := ?_) rfl (by kernel_rfl) (by kernel_rfl) (by kernel_rfl) (fun _ _ _ h => h) (Or.inl ⟨by rfl, ?_⟩) (by assumption) ?_
                rotate_left
                · intro w hSw; (try dsimp only at hSw); first | (go_simp; done) | (go_simp; with_reducible rfl)
                try simp only [Act.put, List.setIfInBounds_toArray, List.set_cons_zero, List.set_cons_succ]
                refine wpAnyH_take (i := 14) (oi := { dst := some 99, op := Op.load 22 (Operand.tmp 98), type := 22, pos := "ref.go:29", after := #[{ on := 13, ground := Ground.data }, { on := 10, ground := Ground.guard }], guard := some (10, false) }) (v := ?_) rfl (by kernel_rfl) (by kernel_rfl) (by kernel_rfl) (fun _ _ _ h => h) (Or.inl ⟨by rfl, ?_⟩) (by assumption) ?_
                rotate_left
                · intro w hSw; (try dsimp only at hSw); first | (go_simp; done) | (go_simp; with_reducible rfl)
                try simp only [Act.put, List.setIfInBounds_toArray, List.set_cons_zero, List.set_cons_succ]
                refine wpAnyH_take (i := 15) (oi := { dst := some 100, op := Op.binOp BinOp.lss 22 (Operand.tmp 97) (Operand.tmp 99) 22, type := 4, pos := "ref.go:29", after := #[{ on := 12, ground := Ground.data }, { on := 14, ground := Ground.data }, { on := 10, ground := Ground.guard }], guard := some (10, false) }) (v := ?_) rfl (by kernel_rfl) (by kernel_rfl) (by kernel_rfl) (fun _ _ _ h => h) (Or.inl ⟨by rfl, ?_⟩) (by assumption) ?_
                rotate_left
                · intro w hSw; (try dsimp only at hSw); first | (go_simp; done) | (go_simp; with_reducible rfl)
                try simp only [Act.put, List.setIfInBounds_toArray, List.set_cons_zero, List.set_cons_succ]
                refine wpAnyH_take (i := 16) (oi := { dst := some 101, op := Op.pick (Operand.tmp 95) (Operand.const (Value.bool true)) (Operand.tmp 100), type := 4, pos := "ref.go:29", after := #[{ on := 10, ground := Ground.data }, { on := 15, ground := Ground.data }], guard := none }) (v := ?_) rfl (by kernel_rfl) (by kernel_rfl) (by kernel_rfl) (fun _ _ _ h => h) (Or.inl ⟨by rfl, ?_⟩) (by assumption) ?_
                rotate_left
                · intro w hSw; (try dsimp only at hSw); first | (go_simp; done) | (go_simp; with_reducible rfl)
                try simp only [Act.put, List.setIfInBounds_toArray, List.set_cons_zero, List.set_cons_succ]
                refine wpAnyH_take (i := 17) (oi := { dst := some 102, op := Op.move (Operand.tmp 101), type := 4, pos := "ref.go:29", after := #[{ on := 16, ground := Ground.data }, { on := 10, ground := Ground.chain }], guard := none }) (v := ?_) rfl (by kernel_rfl) (by kernel_rfl) (by kernel_rfl) (fun _ _ _ h => h) (Or.inl ⟨by rfl, ?_⟩) (by assumption) ?_
                rotate_left
                · intro w hSw; (try dsimp only at hSw); first | (go_simp; done) | (go_simp; with_reducible rfl)
                try simp only [Act.put, List.setIfInBounds_toArray, List.set_cons_zero, List.set_cons_succ]
                refine wpAnyH_take (i := 18) (oi := { dst := some 103, op := Op.fieldAddr 33 (Operand.tmp 1) 7, type := 0, pos := "ref.go:29", after := #[{ on := 17, ground := Ground.guard }], guard := some (17, false) }) (v := ?_) rfl (by kernel_rfl) (by kernel_rfl) (by kernel_rfl) (fun _ _ _ h => h) (Or.inl ⟨by rfl, ?_⟩) (by assumption) ?_
                rotate_left
                · intro w hSw; (try dsimp only at hSw); first | (go_simp; done) | (go_simp; with_reducible rfl)
                try simp only [Act.put, List.setIfInBounds_toArray, List.set_cons_zero, List.set_cons_succ]
                refine wpAnyH_take (i := 19) (oi := { dst := some 104, op := Op.load 30 (Operand.tmp 103), type := 30, pos := "ref.go:29", after := #[{ on := 18, ground := Ground.data }, { on := 17, ground := Ground.guard }], guard := some (17, false) }) (v := ?_) rfl (by kernel_rfl) (by kernel_rfl) (by kernel_rfl) (fun _ _ _ h => h) (Or.inl ⟨by rfl, ?_⟩) (by assumption) ?_
                rotate_left
                · intro w hSw; (try dsimp only at hSw); first | (go_simp; done) | (go_simp; with_reducible rfl)
                try simp only [Act.put, List.setIfInBounds_toArray, List.set_cons_zero, List.set_cons_succ]
                refine wpAnyH_take (i := 20) (oi := { dst := some 105, op := Op.fieldAddr 33 (Operand.tmp 1) 7, type := 0, pos := "ref.go:29", after := #[{ on := 17, ground := Ground.guard }], guard := some (17, false) }) (v := ?_) rfl (by kernel_rfl) (by kernel_rfl) (by kernel_rfl) (fun _ _ _ h => h) (Or.inl ⟨by rfl, ?_⟩) (by assumption) ?_
                rotate_left
                · intro w hSw; (try dsimp only at hSw); first | (go_simp; done) | (go_simp; with_reducible rfl)
                try simp only [Act.put, List.setIfInBounds_toArray, List.set_cons_zero, List.set_cons_succ]
                refine wpAnyH_take (i := 21) (oi := { dst := some 106, op := Op.load 30 (Operand.tmp 105), type := 30, pos := "ref.go:29", after := #[{ on := 20, ground := Ground.data }, { on := 17, ground := Ground.guard }], guard := some (17, false) }) (v := ?_) rfl (by kernel_rfl) (by kernel_rfl) (by kernel_rfl) (fun _ _ _ h => h) (Or.inl ⟨by rfl, ?_⟩) (by assumption) ?_
                rotate_left
                · intro w hSw; (try dsimp only at hSw); first | (go_simp; done) | (go_simp; with_reducible rfl)
                try simp only [Act.put, List.setIfInBounds_toArray, List.set_cons_zero, List.set_cons_succ]
                refine wpAnyH_ready (rs := [22]) (by kernel_rfl) (by simp) ?_
                refine AllReadyH.cons (o := { dst := some 107, op := Op.call { callee := Callee.value (Operand.func 29), args := #[Operand.tmp 106], argTypes := #[30] }, type := 30, pos := "ref.go:29", after := #[{ on := 21, ground := Ground.data }, { on := 17, ground := Ground.chain }, { on := 17, ground := Ground.guard }], guard := some (17, false) }) rfl (fun K hK => ?_) AllReadyH.nil
                go_simp
                go_at_call 29
                refine (plain_any _ f.Ar f.nr f.cr f.L (HN.out _ hE2.now).2.1 (by omega)).mono ?_
                rintro e w2 ⟨A2, n2, c2, rfl, hr2, hb2⟩
                replace hE2 := hE2.next hb2
                clear hb2
                go_wp2_with fail
                clear hHeld
                refine hK.out _ _ ⟨(HN.out _ hE2.now).1, hE2⟩ (fun hHeld => ?_)
                clear hK K
                try simp only [Act.put, List.setIfInBounds_toArray, List.set_cons_zero, List.set_cons_succ]
                refine wpAnyH_ready (rs := [23]) (by kernel_rfl) (by simp) ?_
                refine AllReadyH.cons (o := { dst := some 108, op := Op.call { callee := Callee.value (Operand.func 28), args := #[Operand.tmp 104, Operand.tmp 107], argTypes := #[30, 30] }, type := 4, pos := "ref.go:29", after := #[{ on := 19, ground := Ground.data }, { on := 22, ground := Ground.data }, { on := 22, ground := Ground.chain }, { on := 17, ground := Ground.guard }], guard := some (17, false) }) rfl (fun K hK => ?_) AllReadyH.nil
                go_simp
                go_at_call 28
                refine (refSameR_says _ f.Ar A2 f.nr f.cr n2 c2 f.L (setL f.L) (HN.out _ hE2.now).2.1 hr2).mono ?_
                rintro e w3 ⟨rfl, hb3⟩
                replace hE2 := hE2.next hb3
                clear hb3 hr2
                rw [show sameR f.L (setL f.L) = true from HCAN.out]
                go_wp2_with fail
                clear hHeld
                refine hK.out _ _ ⟨(HN.out _ hE2.now).1, hE2⟩ (fun hHeld => ?_)
                clear hK K
                try simp only [Act.put, List.setIfInBounds_toArray, List.set_cons_zero, List.set_cons_succ]
                refine wpAnyH_take (i := 24) (oi := { dst := some 109, op := Op.unOp UnOp.not 4 (Operand.tmp 108), type := 4, pos := "ref.go:29", after := #[{ on := 23, ground := Ground.data }, { on := 17, ground := Ground.guard }], guard := some (17, false) }) (v := ?_) rfl (by kernel_rfl) (by kernel_rfl) (by kernel_rfl) (fun _ _ _ h => h) (Or.inl ⟨by rfl, ?_⟩) (by assumption) ?_
                rotate_left
                · intro w hSw; (try dsimp only at hSw); first | (go_simp; done) | (go_simp; with_reducible rfl)
                try simp only [Act.put, List.setIfInBounds_toArray, List.set_cons_zero, List.set_cons_succ]
                refine wpAnyH_take (i := 25) (oi := { dst := some 110, op := Op.pick (Operand.tmp 102) (Operand.const (Value.bool true)) (Operand.tmp 109), type := 4, pos := "ref.go:29", after := #[{ on := 17, ground := Ground.data }, { on := 24, ground := Ground.data }], guard := none }) (v := ?_) rfl (by kernel_rfl) (by kernel_rfl) (by kernel_rfl) (fun _ _ _ h => h) (Or.inl ⟨by rfl, ?_⟩) (by assumption) ?_
                rotate_left
                · intro w hSw; (try dsimp only at hSw); first | (go_simp; done) | (go_simp; with_reducible rfl)
                try simp only [Act.put, List.setIfInBounds_toArray, List.set_cons_zero, List.set_cons_succ]
                refine wpAnyH_done (by kernel_rfl) ?_ _
                refine NoPanic.normal ?_
                have HBB := Lib.hid (HN.out _ hE2.now).2.2.2
                have HRS := Lib.hid (HN.out _ hE2.now).2.1
                have HIT := Lib.hid (HN.out _ hE2.now).2.2.1
                obtain ⟨⟨q4, q5, q6, q7, q8⟩, -⟩ := HN.out _ hE2.now
                have HEV := Lib.hid hE2
                clear hE2
                go_wp2
                go_loopg [4, 116] f.ni (fun gk la i wr => ItRel w3 f.ba its gk la i wr)
                case atStart => exact ⟨0, by have := HIL.out; omega, rfl, rfl, fun t r ht => absurd ht (by omega), Below.refl _ _⟩
                case round =>
                  obtain ⟨j, hj, rfl, rfl, hok, hbr⟩ := hrel
                  have HJ := Lib.hid hj
                  have HOK := Lib.hid hok
                  have HBR := Lib.hid hbr
                  have hgz : g < w3.heap.size := World.block_lt_of_cell? w3 _ q5
                  have hgr : g < wr.heap.size := Nat.lt_of_lt_of_le hgz hbr.size
                  have e7 := (hbr.cell (p := ⟨g, 7, none⟩) hgz).trans q7
                  by_cases hlt : j < f.ni
                  · obtain ⟨bb, o, k, ea, hbb, hk, c0, c1, c2, hsl, hkN⟩ := HIT.out.at_ hlt
                    have d0 := (hbr.cell (p := ⟨bb, o + j * 3, none⟩) hbb).trans c0
                    have d1 := (hbr.cell (p := ⟨bb, o + j * 3 + 1, none⟩) hbb).trans c1
                    have d2 := (hbr.cell (p := ⟨bb, o + j * 3 + 2, none⟩) hbb).trans c2
                    have hbz : bb < wr.heap.size := Nat.lt_of_lt_of_le hbb hbr.size
                    have HX : Hid (its[j]? = some k.it) := by show _ = _; rw [HIE.out, List.getElem?_map, hk]; rfl
                    have HSL : Hid (k.q.l.length = k.q.n) := hsl.len
                    have HIO := Lib.hid (item_ok_iff HX.out HOK.out)
                    have HLN := Lib.hid (last_next (ba := f.ba) HX.out)
                    have hno : ¬ ItemOk f.ba its j k.it → ¬ (0 ≤ f.ag ∧ f.ag < 16 ∧ 1 ≤ f.ep ∧ 1 ≤ f.ba ∧ f.cu = 0 ∧ f.li = 0 ∧ f.nr = 0 ∧ ItemsP f.m) := fun hn hx => items_no HM.out HX.out hn hx.2.2.2.2.2.2.2
                    have HNO := Lib.hid hno
                    have hla : lastN f.ba its j < 18446744073709551616 := by
                      unfold lastN
                      split
                      · exact hb4
                      · cases e : its[j - 1]? with
                        | none => simp
                        | some y =>
                          have hy := List.mem_of_getElem? e
                          rw [HIE.out] at hy
                          obtain ⟨z, hz, rfl⟩ := List.mem_map.1 hy
                          have := (HF.out.it.sl z hz).2
                          unfold two64 at this
                          exact this
                    clear c0 c1 c2 hsl hk hbb hbr hj hok q4 q5 q6 q7 q8 hno
                    obtain ⟨kN, kC, kA, kn, kc, kl⟩ := k
                    unfold two64 at hkN
                    dsimp only at d0 d1 d2 hkN HSL
                    have HIT2 : Hid (ItemOk f.ba its j (Ik.it ⟨kN, kC, ⟨kA, kn, kc, kl⟩⟩) ↔ rightB kC kn = true ∧ ¬ kN < lastN f.ba its j ∧ ¬ (0 < j ∧ kN = lastN f.ba its j)) := by rw [← HSL.out]; exact HIO.out
                    have HLN2 : Hid (lastN f.ba its (j + 1) = kN) := HLN.out
                    clear HIO HLN
                    generalize lastN f.ba its j = la at *
                    rw [ea]
                    go_wp2_with fail
                    have hbx : Below w3.heap.size w3 (wr.alloc (.cells #[.int .u64 (kN : Int), .int .i64 kC, .slice kA kn kc] 73)) := HBR.out.alloc HBR.out.size _
                    have hblk := heap_alloc_new wr (.cells #[.int .u64 (kN : Int), .int .i64 kC, .slice kA kn kc] 73)
                    have hzx : wr.heap.size < (wr.alloc (.cells #[.int .u64 (kN : Int), .int .i64 kC, .slice kA kn kc] 73)).heap.size := by simp
                    generalize wr.alloc (.cells #[.int .u64 (kN : Int), .int .i64 kC, .slice kA kn kc] 73) = wx at *
                    have hcall := refRight_any wx kC kA kn kc
                    unfold spv at hcall
                    refine hcall.mono ?_
                    rintro e w4 ⟨rfl, hb4'⟩
                    have hq0 : w4.cell? ⟨wr.heap.size, 0, none⟩ = some (.int .u64 (kN : Int)) := by rw [cell_of_row w4 _ 0 _ _ _ ((hb4'.block _ hzx).trans hblk)]; rfl
                    have HB4 : Hid (Below w3.heap.size w3 w4) := hbx.trans (hb4'.mono hbx.size)
                    have hstep : ItemOk f.ba its j (Ik.it ⟨kN, kC, ⟨kA, kn, kc, kl⟩⟩) → ItRel w3 f.ba its (gk - 1) (.int .u64 (kN : Int)) (.int .i64 ((j : Int) + 1)) w4 := fun hr => by
                      refine ⟨j + 1, by have := HJ.out; have := HIL.out; omega, by simp, by rw [HLN2.out], fun t q ht hq => ?_, HB4.out⟩
                      rcases Nat.lt_or_ge t j with h1 | h1
                      · exact HOK.out t q h1 hq
                      · have e : t = j := by omega
                        subst e
                        rw [HX.out] at hq
                        injection hq with hq
                        subst hq
                        exact hr
                    have HST := Lib.hid hstep
                    clear hcall hb4' hblk hzx hbx hstep d0 d1 d2
                    by_cases hr : rightB kC kn = true
                    · rw [hr]
                      have HRT := Lib.hid hr
                      clear hr
                      by_cases hlo : kN < la
                      · have nlo : decide ((kN : Int) < (la : Int)) = true := by simp; omega
                        have nloI : decide (kN < la) = true := by simp; omega
                        have HLO := Lib.hid hlo
                        clear hlo
                        go_wp2
                        go_ret
                        refine ⟨ret_b ?_, HBB.out.trans (HB4.out.mono HBB.out.size)⟩
                        rw [HB.out, decP_congr HN0.out, decP_no (HNO.out (fun h => (HIT2.out.1 h).2.1 HLO.out))]
                      · have nlo : decide ((kN : Int) < (la : Int)) = false := by simp; omega
                        have nloI : decide (kN < la) = false := by simp; omega
                        have HLO := Lib.hid hlo
                        clear hlo
                        by_cases hj0 : 0 < j
                        · have nj : decide ((0 : Int) < (j : Int)) = true := by simp; omega
                          have njI : decide (0 < j) = true := by simp; omega
                          have HJ0 := Lib.hid hj0
                          clear hj0
                          by_cases heq : kN = la
                          · have neq : ((kN : Int) == (la : Int)) = true := by simp; omega
                            have HEQ := Lib.hid heq
                            clear heq
                            go_wp2
                            go_ret
                            refine ⟨ret_b ?_, HBB.out.trans (HB4.out.mono HBB.out.size)⟩
                            rw [HB.out, decP_congr HN0.out, decP_no (HNO.out (fun h => (HIT2.out.1 h).2.2 ⟨HJ0.out, HEQ.out⟩))]
                          · have neq : ((kN : Int) == (la : Int)) = false := by simp; omega
                            have HEQ := Lib.hid heq
                            clear heq
                            go_wp2
                            rw [← ea]
                            go_roundg (gk - 1)
                            case measure => have := HJ.out; have := HIL.out; omega
                            case rel => exact HST.out (HIT2.out.2 ⟨HRT.out, HLO.out, fun h => HEQ.out h.2⟩)
                        · have nj : decide ((0 : Int) < (j : Int)) = false := by simp; omega
                          have njI : decide (0 < j) = false := by simp; omega
                          have HJ0 := Lib.hid hj0
                          clear hj0
                          go_wp2
                          rw [← ea]
                          go_roundg (gk - 1)
                          case measure => have := HJ.out; have := HIL.out; omega
                          case rel => exact HST.out (HIT2.out.2 ⟨HRT.out, HLO.out, fun h => HJ0.out h.1⟩)
                    · have hrf : rightB kC kn = false := by simpa using hr
                      rw [hrf]
                      have HRT := Lib.hid hr
                      clear hr hrf
                      go_wp2
                      go_ret
                      refine ⟨ret_b ?_, HBB.out.trans (HB4.out.mono HBB.out.size)⟩
                      rw [HB.out, decP_congr HN0.out, decP_no (HNO.out (fun h => HRT.out (HIT2.out.1 h).1))]
                  · have n7 : decide ((0 : Int) < (f.nr : Int)) = false := by simp; have := Hh7.out; omega
                    clear hbr
                    go_wp2
                    refine wp_loop_rounds 1 ?_
                    rw [rounds_succ]
                    go_wp2
                    go_ret
                    refine ⟨ret_b ?_, HBB.out.trans (HBR.out.mono HBB.out.size)⟩
                    rw [HB.out, decP_congr HN0.out, decP_yes]
                    refine ⟨Hh1.out, Hh2.out, Hh3.out, Hh4.out, Hh5.out, Hh6.out, Hh7.out, by rw [HM.out.1, HIL.out]; have := H64.out; omega, fun t x hx => ?_⟩
                    rw [HM.out.1] at hx ⊢
                    rw [HM.out.2]
                    have := (List.getElem?_eq_some_iff.1 hx).1
                    have := HIL.out
                    exact HOK.out t x (by omega) hx
              · have Hh7 := Lib.hid h7
                have h7n0 : decide ((0 : Int) < (f.nr : Int)) = true := by simp; omega
                have h7n1 : decide (0 < f.nr) = true := by simp; omega
                clear h7
                go_enter Tryd.func13, Tryd.ntmps13
                go_wp2
                go_ret
                refine ⟨ret_b ?_, below_box w _⟩
                rw [HB.out, decP_congr HN0.out, decP_no]
                intro x
                have hx := Hh7.out
                first | exact hx x.1 | exact hx x.2.1 | exact hx x.2.2.1 | exact hx x.2.2.2.1 | exact hx x.2.2.2.2.1 | exact hx x.2.2.2.2.2.1 | exact hx x.2.2.2.2.2.2.1 | exact hx x.2.2.2.2.2.2.2.1 | exact hx x.2.2.2.2.2.2.2.2 | omega
            · have Hh6 := Lib.hid h6
              have h6n0 : decide ((0 : Int) < (f.li : Int)) = true := by simp; omega
              have h6n1 : decide (0 < f.li) = true := by simp; omega
              clear h6
              go_enter Tryd.func13, Tryd.ntmps13
              go_wp2
              go_ret
              refine ⟨ret_b ?_, below_box w _⟩
              rw [HB.out, decP_congr HN0.out, decP_no]
              intro x
              have hx := Hh6.out
              first | exact hx x.1 | exact hx x.2.1 | exact hx x.2.2.1 | exact hx x.2.2.2.1 | exact hx x.2.2.2.2.1 | exact hx x.2.2.2.2.2.1 | exact hx x.2.2.2.2.2.2.1 | exact hx x.2.2.2.2.2.2.2.1 | exact hx x.2.2.2.2.2.2.2.2 | omega
          · have Hh5 := Lib.hid h5
            have h5n0 : decide ((0 : Int) < (f.cu : Int)) = true := by simp; omega
            have h5n1 : decide (0 < f.cu) = true := by simp; omega
            clear h5
            go_enter Tryd.func13, Tryd.ntmps13
            go_wp2
            go_ret
            refine ⟨ret_b ?_, below_box w _⟩
            rw [HB.out, decP_congr HN0.out, decP_no]
            intro x
            have hx := Hh5.out
            first | exact hx x.1 | exact hx x.2.1 | exact hx x.2.2.1 | exact hx x.2.2.2.1 | exact hx x.2.2.2.2.1 | exact hx x.2.2.2.2.2.1 | exact hx x.2.2.2.2.2.2.1 | exact hx x.2.2.2.2.2.2.2.1 | exact hx x.2.2.2.2.2.2.2.2 | omega
        · have Hh4 := Lib.hid h4
          have h4n0 : decide ((0 : Int) < (f.ba : Int)) = false := by simp; omega
          have h4n1 : decide (0 < f.ba) = false := by simp; omega
          clear h4
          go_enter Tryd.func13, Tryd.ntmps13
          go_wp2
          go_ret
          refine ⟨ret_b ?_, below_box w _⟩
          rw [HB.out, decP_congr HN0.out, decP_no]
          intro x
          have hx := Hh4.out
          first | exact hx x.1 | exact hx x.2.1 | exact hx x.2.2.1 | exact hx x.2.2.2.1 | exact hx x.2.2.2.2.1 | exact hx x.2.2.2.2.2.1 | exact hx x.2.2.2.2.2.2.1 | exact hx x.2.2.2.2.2.2.2.1 | exact hx x.2.2.2.2.2.2.2.2 | omega
      · have Hh3 := Lib.hid h3
        have h3n0 : ((f.ep : Int) == 0) = true := by simp; omega
        clear h3
        go_enter Tryd.func13, Tryd.ntmps13
        go_wp2
        go_ret
        refine ⟨ret_b ?_, below_box w _⟩
        rw [HB.out, decP_congr HN0.out, decP_no]
        intro x
        have hx := Hh3.out
        first | exact hx x.1 | exact hx x.2.1 | exact hx x.2.2.1 | exact hx x.2.2.2.1 | exact hx x.2.2.2.2.1 | exact hx x.2.2.2.2.2.1 | exact hx x.2.2.2.2.2.2.1 | exact hx x.2.2.2.2.2.2.2.1 | exact hx x.2.2.2.2.2.2.2.2 | omega
    · have Hh2 := Lib.hid h2
      have h2n0 : (15 : Int) < f.ag := by omega
      clear h2
      go_enter Tryd.func13, Tryd.ntmps13
      go_wp2
      go_ret
      refine ⟨ret_b ?_, below_box w _⟩
      rw [HB.out, decP_congr HN0.out, decP_no]
      intro x
      have hx := Hh2.out
      first | exact hx x.1 | exact hx x.2.1 | exact hx x.2.2.1 | exact hx x.2.2.2.1 | exact hx x.2.2.2.2.1 | exact hx x.2.2.2.2.2.1 | exact hx x.2.2.2.2.2.2.1 | exact hx x.2.2.2.2.2.2.2.1 | exact hx x.2.2.2.2.2.2.2.2 | omega
  · have Hh1 := Lib.hid h1
    have h1n0 : f.ag < 0 := by omega
    clear h1
    go_enter Tryd.func13, Tryd.ntmps13
    go_wp2
    go_ret
    refine ⟨ret_b ?_, below_box w _⟩
    rw [HB.out, decP_congr HN0.out, decP_no]
    intro x
    have hx := Hh1.out
    first | exact hx x.1 | exact hx x.2.1 | exact hx x.2.2.1 | exact hx x.2.2.2.1 | exact hx x.2.2.2.2.1 | exact hx x.2.2.2.2.2.1 | exact hx x.2.2.2.2.2.2.1 | exact hx x.2.2.2.2.2.2.2.1 | exact hx x.2.2.2.2.2.2.2.2 | omega

end Go.Proofs.YtlkcnpmgafckoaaDoor
