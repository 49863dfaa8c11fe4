/-
  CONTRACTS of share.Plan, and of the statements' own awake.
  No statement is proved here.
-/
import Derived.Test.YtfmfamnngfanfaaSharePlan
import Derived.Laws.StructEq
namespace Go.Proofs.Ytfmfamnngfanfaa
open Go.RowKit Go.Sort

/-- A plan that can be asked for. -/
structure Asks (w : World) (cap : Int) (Aw : Option Addr) (nw cw : Nat) (W : List Int) (Aq : Option Addr) (nq cq : Nat) (Q : List Ic) (cls : Nat) (size : Int) : Prop where
  wi : Is w w.heap.size Aw nw cw W
  qi : Iss w w.heap.size Aq nq cq Q
  rw_ : rightW W = true
  len : nq = nw
  cls : cls < nw
  sz : 0 ≤ size ∧ size ≤ 1048576
  cp : size ≤ cap ∧ cap ≤ 1099511627776
  bnd : bndQ Q = true
  few : qcnt Q ≤ 4611686018427387904
theorem bnd_each {Q : List Ic} (h : bndQ Q = true) : ∀ x ∈ Q, (∀ s ∈ x.L, 0 ≤ s ∧ s ≤ 1048576) ∧ x.n ≤ 65536 := by
  unfold bndQ at h
  simp only [Bool.and_eq_true, List.all_eq_true, decide_eq_true_eq] at h
  have hc : ∀ {R : List Ic} {x : Ic}, x ∈ R → x.n ≤ qcnt R := by
    intro R
    induction R with
    | nil => intro x hx; cases hx
    | cons y R ih =>
      intro x hx
      rcases List.mem_cons.1 hx with rfl | hx
      · simp only [qcnt]; omega
      · have := ih hx; simp only [qcnt]; omega
  intro x hx
  refine ⟨fun s hs => ?_, Nat.le_trans (hc hx) h.2⟩
  have := h.1 x hx s hs
  unfold okS at this
  simpa using this
theorem Asks.can {w : World} {cap : Int} {Aw : Option Addr} {nw cw : Nat} {W : List Int} {Aq : Option Addr} {nq cq : Nat} {Q : List Ic} {cls : Nat} {size : Int} (h : Asks w cap Aw nw cw W Aq nq cq Q cls size) : Can w cap Aw nw cw W Aq nq cq Q cls size :=
  ⟨h.wi, h.qi, by have := h.cp; have := h.sz; omega, h.sz, by have := h.cls; have := h.len; omega, by have := (right_facts h.rw_).2.1; have := h.wi.len; have := h.len; omega, bnd_each h.bnd⟩
/-- Who goes, handed back. -/
def Planned (w : World) (cap : Int) (W : List Int) (st : List Cs) (e : Ending) (w' : World) : Prop :=
  ∃ out A n c, Goes cap W st (ssum st - cap) out ∧ e = .returned (.tuple #[.slice A n c, .bool true]) ∧ w'.ownsRow w.heap.size 34 2 (.slice A n c) n (vvs out) ∧ RowKit.Below w.heap.size w w'
set_option maxRecDepth 100000 in
set_option maxHeartbeats 4000000 in
theorem plan_ok (w : World) (cap : Int) (Aw : Option Addr) (nw cw : Nat) (W : List Int) (Aq : Option Addr) (nq cq : Nat) (Q : List Ic) (cls : Nat) (size : Int) (h : Asks w cap Aw nw cw W Aq nq cq Q cls size) :
    Calls Try.prog 15 #[.int .i64 cap, .slice Aw nw cw, .slice Aq nq cq, .int .i64 cls, .int .i64 size] w (Planned w cap W (stTo Q cls size nq)) := by
  have H := Lib.hid h
  have hsz := h.sz
  have hcp := h.cp
  have hcl := h.cls
  have hln := h.len
  have HR := Lib.hid h.rw_
  have HB := Lib.hid h.bnd
  have HC := Lib.hid h.can
  have HH : Hid ((decide (0 ≤ (cls : Int)) && decide ((cls : Int) < (nw : Int))) = true) := by show _ = _; simp; omega
  have d1 : ((nq : Int) != (nw : Int)) = false := by simp; omega
  have d2 : decide (size < 0) = false := by simp; omega
  have d3 : decide (1048576 < size) = false := by simp; omega
  have d4 : decide (cap < size) = false := by simp; omega
  have d5 : decide (1099511627776 < cap) = false := by simp; omega
  have hL : nw ≤ 8 := by have := (right_facts h.rw_).2.1; have := h.wi.len; omega
  clear h hln hcl
  go_enter Try.func15, Try.ntmps15
  go_wp2_with fail
  refine (shRight_any w Aw nw cw W H.out.wi).mono ?_
  rintro e w1 ⟨rfl, rfl⟩
  rw [HR.out]
  go_wp2_with fail
  refine (has_any w Aw nw cw cls).mono ?_
  rintro e w1 ⟨rfl, rfl⟩
  rw [HH.out]
  go_wp2_with fail
  refine (bounded_any w Aq nq cq Q H.out.qi H.out.few).mono ?_
  rintro e w1 ⟨rfl, rfl⟩
  rw [HB.out]
  go_wp2_with fail
  refine (plan_any w cap Aw nw cw W Aq nq cq Q cls size HC.out).mono ?_
  rintro e w2 ⟨out, hgo, A, n, c, rfl, hown, hbel⟩
  have HGO := Lib.hid hgo
  have HOWN := Lib.hid hown
  have HBEL := Lib.hid hbel
  clear hgo hown hbel
  go_wp2_with fail
  go_ret2
  exact ⟨out, A, n, c, HGO.out, rfl, HOWN.out, HBEL.out⟩
def exQ (A : Option Addr) : List Ic := [⟨A, 2, 2, [4, 4]⟩, ⟨none, 0, 0, []⟩]
theorem ex_goes {A : Option Addr} {out : List (Nat × Nat)} (h : Goes 10 [1, 1] (stTo (exQ A) 1 4 2) (ssum (stTo (exQ A) 1 4 2) - 10) out) : out = [(0, 0)] := by
  have e : stTo (exQ A) 1 4 2 = [(0, [4, 4]), (0, [4])] := rfl
  rw [e] at h
  refine h.uniq (Goes.step (by decide) ⟨⟨0, [4, 4], rfl, by simp⟩, fun p S h1 j q T h2 h3 => ?_⟩ rfl (Goes.done (by decide)))
  simp at h1
  obtain ⟨rfl, rfl⟩ := h1
  rcases j with _ | _ | j
  · simp at h2
    obtain ⟨rfl, rfl⟩ := h2
    exact .inr ⟨rfl, Nat.le_refl _⟩
  · simp at h2
    obtain ⟨rfl, rfl⟩ := h2
    exact .inl (by decide)
  · simp at h2
theorem ex_asks (w : World) (t1 t2 t3 : TypeId) : Asks (((w.alloc (.cells #[.int .i64 1, .int .i64 1] t1)).alloc (.cells #[.int .i64 4, .int .i64 4] t2)).alloc (.cells #[.slice (some ⟨w.heap.size + 1, 0, none⟩) 2 2, .slice none 0 0] t3)) 10 (some ⟨w.heap.size, 0, none⟩) 2 2 [1, 1] (some ⟨w.heap.size + 1 + 1, 0, none⟩) 2 2 (exQ (some ⟨w.heap.size + 1, 0, none⟩)) 1 4 := by
  have s1 : (w.alloc (.cells #[.int .i64 1, .int .i64 1] t1)).heap.size = w.heap.size + 1 := by simp
  have s2 : ((w.alloc (.cells #[.int .i64 1, .int .i64 1] t1)).alloc (.cells #[.int .i64 4, .int .i64 4] t2)).heap.size = w.heap.size + 1 + 1 := by simp
  have l1 := lit_sn w t1 (ivs [1, 1]) 2 1 rfl (by unfold maxLen; omega)
  have l2 := lit_sn (w.alloc (.cells #[.int .i64 1, .int .i64 1] t1)) t2 (ivs [4, 4]) 2 1 rfl (by unfold maxLen; omega)
  have l3 := lit_sn ((w.alloc (.cells #[.int .i64 1, .int .i64 1] t1)).alloc (.cells #[.int .i64 4, .int .i64 4] t2)) t3 [.slice (some ⟨w.heap.size + 1, 0, none⟩) 2 2, .slice none 0 0] 2 1 rfl (by unfold maxLen; omega)
  rw [s1] at l2
  rw [s2] at l3
  have k1 := ((l1.more (B' := (w.alloc (.cells #[.int .i64 1, .int .i64 1] t1)).heap.size) (by rw [s1]; exact Nat.le_refl _)).onA (.cells #[.int .i64 4, .int .i64 4] t2)).onA (.cells #[.slice (some ⟨w.heap.size + 1, 0, none⟩) 2 2, .slice none 0 0] t3)
  have k2 := (l2.more (B' := ((w.alloc (.cells #[.int .i64 1, .int .i64 1] t1)).alloc (.cells #[.int .i64 4, .int .i64 4] t2)).heap.size) (by rw [s2]; exact Nat.le_refl _)).onA (.cells #[.slice (some ⟨w.heap.size + 1, 0, none⟩) 2 2, .slice none 0 0] t3)
  refine ⟨⟨k1, fun x hx => by simp at hx; subst hx; unfold I64; omega⟩, ⟨l3.more (by simp), fun x hx => ?_⟩, by decide, rfl, by omega, by omega, by omega, rfl, by show 2 + (0 + 0) ≤ _; omega⟩
  unfold exQ at hx
  simp at hx
  rcases hx with rfl | rfl
  · exact ⟨k2, fun x hx => by simp at hx; subst hx; unfold I64; omega⟩
  · exact Is.nil_ _ _ _ _ (Nat.zero_le _)
set_option maxRecDepth 100000 in
set_option maxHeartbeats 4000000 in
theorem awake8_any (w : World) : Calls Try.prog 13 #[] w (Says w (.bool true)) := by
  go_enter Try.func13, Try.ntmps13
  go_wp2_with fail
  have hpl := plan_ok _ 10 _ 2 2 [1, 1] _ 2 2 _ 1 4 (ex_asks w 3 3 22)
  have HPL := Lib.hid hpl
  clear hpl
  refine (HPL.out).mono ?_
  rintro e w2 ⟨out, A, n, c, hgo, rfl, hown, hbel⟩
  obtain rfl := ex_goes hgo
  have hn := hown.1
  obtain rfl : n = 1 := by have h2 : (vvs [(0, 0)]).length = 2 := rfl; omega
  obtain ⟨g, rfl⟩ : ∃ g, A = some ⟨g, 0, none⟩ := by
    rcases hown.2 with ⟨_, h0⟩ | ⟨g, cap, cur, hv, _⟩
    · omega
    · injection hv with h1 _ _; exact ⟨g, h1⟩
  have hc0 : w2.cell? ⟨g, 0, none⟩ = some (.int .i64 0) := hown.cellAt 0 (by omega)
  have hc1 : w2.cell? ⟨g, 1, none⟩ = some (.int .i64 0) := hown.cellAt 1 (by omega)
  have HB : Hid (RowKit.Below w.heap.size w w2) := (((RowKit.Below.refl _ w).alloc (Nat.le_refl _) _).alloc (by simp) _ |>.alloc (by simp; omega) _).trans (hbel.mono (by simp; omega))
  clear hn hgo hown hbel
  go_wp2_with fail
  go_ret
  exact ⟨rfl, HB.out⟩
end Go.Proofs.Ytfmfamnngfanfaa
