/-
  CONTRACTS of line's Push, Pop; of container/heap's Push, Fix, Remove over an alarm's line.
  No statement is proved here.
-/
import Derived.Test.YtfmfamnngfanfaaAlarmDown
import Derived.WalkSmall
namespace Go.Proofs.Ytfmfamnngfanfaa
open Go.RowKit Go.Sort

theorem sleeper_info : (Try.prog.info? 141).map (fun i => (i.zero, i.size, i.bytes)) = some (some (.pointer none), 1, 8) := by kernel_rfl
theorem assert_sl (x : Value) (w : World) (hx : ∃ p, x = .pointer p) : (Instr.typeAssert (.iface 141 x) 20 141 false).run Try.prog w = .ok x w := by
  obtain ⟨p, rfl⟩ := hx
  kernel_rfl
theorem push_get {d : Array Slp} (x : Slp) {k n : Nat} (hs : d.size = n) (hk : k < n) : (d.push x)[k]! = d[k]! := by
  rw [getElem!_pos (d.push x) k (by simp; omega), getElem!_pos d k (by omega), Array.getElem_push_lt (by omega)]
theorem push_last {d : Array Slp} (x : Slp) {n : Nat} (hs : d.size = n) : (d.push x)[n]! = x := by
  subst hs
  rw [getElem!_pos (d.push x) d.size (by simp)]
  simp
theorem pop_get {d : Array Slp} {k m : Nat} (hs : d.size = m + 1) (hk : k < m) : d.pop[k]! = d[k]! := by
  rw [getElem!_pos d.pop k (by simp; omega), getElem!_pos d k (by omega)]
  simp
/-- The line's variable is set anew. -/
theorem Hq.set {w : World} {base a n' c' : Nat} {A' : Option Addr} {d' : Array Slp} {v : Value} (hc : w.cell? ⟨a, 1, none⟩ = some v) (hf : w.frozen? ⟨a, 1, none⟩ = false)
    (ho : w.ownsRow base 141 1 (.slice A' n' c') n' (pvs d'.toList)) (hoff : (Value.slice A' n' c').ownBlock ≠ some a) (hs : ∀ i, i < n' → Ha w d'[i]! i) (hap : ∀ i j, i < n' → j < n' → d'[i]!.b = d'[j]!.b → i = j) (hout : ∀ i, i < n' → d'[i]!.b ≠ a ∧ (Value.slice A' n' c').ownBlock ≠ some d'[i]!.b) :
    Hq (w.setCell ⟨a, 1, none⟩ (.slice A' n' c')) base a A' n' c' d' := by
  have kp : ∀ k, k ≠ a → (w.setCell ⟨a, 1, none⟩ (.slice A' n' c')).heap[k]? = w.heap[k]? := fun k hk => RowKit.Below.heap_setCell w ⟨a, 1, none⟩ _ k hk
  exact ⟨World.cell?_setCell_same _ _ _ hc, by rw [World.frozen?_setCell]; exact hf, own_same ho (fun b hb => kp b (fun e => hoff (by rw [hb, e]))), hoff, fun i hi => (hs i hi).kept (kp _ (hout i hi).1), hap, hout⟩
/-- The first cell of the alarm stays. -/
def Keep0 (a : Nat) (w w' : World) : Prop := w'.cell? ⟨a, 0, none⟩ = w.cell? ⟨a, 0, none⟩
theorem Keep0.trans {a : Nat} {w w2 w3 : World} (h : Keep0 a w w2) (k : Keep0 a w2 w3) : Keep0 a w w3 := Eq.trans k h
theorem Hq.noFt {w : World} {base a n c : Nat} {A : Option Addr} {d : Array Slp} (h : Hq w base a A n c d) : ¬ Ft A n c d a := fun k => by
  rcases k with k | ⟨s, hs, e⟩
  · exact h.off k
  · obtain ⟨i, hi, rfl⟩ := mem_get hs
    exact (h.out i (by rw [← h.size]; exact hi)).1 e
theorem Hq.keep0 {w w' : World} {base a n c : Nat} {A : Option Addr} {d : Array Slp} (h : Hq w base a A n c d) (ho : Only (Ft A n c d) w w') : Keep0 a w w' := World.cell?_of_block (a := ⟨a, 0, none⟩) (ho.block a h.lt h.noFt)
theorem apush_end {w1 w9 : World} {o : Obj} {base a n c c9 : Nat} {A A9 : Option Addr} {d : Array Slp} {x : Slp} (H : Hq w1 base a A n c d) (hx : Ha w1 x n) (hxa : x.b ≠ a) (hxf : ¬ Ft A n c d x.b) (ho : w9.ownsRow base 141 1 (.slice A9 (n + 1) c9) (n + 1) (pvs d.toList ++ pvs [x]))
    (h5 : (w1.alloc o).grownBy w9 (if n = c then none else (Value.slice A n c).ownBlock)) (h6 : A9 = A ∨ ∃ b, A9 = some ⟨b, 0, none⟩ ∧ (w1.alloc o).heap.size ≤ b) :
    w9.cell? ⟨a, 1, none⟩ = some (.slice A n c) ∧ w9.frozen? ⟨a, 1, none⟩ = false ∧ Hq (w9.setCell ⟨a, 1, none⟩ (.slice A9 (n + 1) c9)) base a A9 (n + 1) c9 (d.push x) ∧ Only (fun k => k = a ∨ Ft A n c d k) w1 (w9.setCell ⟨a, 1, none⟩ (.slice A9 (n + 1) c9)) ∧ Keep0 a w1 (w9.setCell ⟨a, 1, none⟩ (.slice A9 (n + 1) c9)) := by
  have hb := below_box w1 o
  have hz := hb.size
  have kp : ∀ k, k < w1.heap.size → (Value.slice A n c).ownBlock ≠ some k → w9.heap[k]? = w1.heap[k]? := fun k hk hne =>
    (h5.block k (Nat.lt_of_lt_of_le hk hz) (by split; simp; exact fun e => hne e.symm)).trans (hb.block k hk)
  have hs := H.size
  have hc9 := (World.cell?_of_block (a := ⟨a, 1, none⟩) (kp a H.lt H.off)).trans H.cell
  have hf9 := (World.frozen?_of_block (a := ⟨a, 1, none⟩) (kp a H.lt H.off)).trans H.frz
  have hnew : ∀ k, k < w1.heap.size → (Value.slice A n c).ownBlock ≠ some k → (Value.slice A9 (n + 1) c9).ownBlock ≠ some k := fun k hk hne => by
    rcases h6 with rfl | ⟨b, rfl, hb9⟩
    · rw [own_block _ _ _ n c]; exact hne
    · intro e
      simp [Value.ownBlock] at e
      omega
  have hsl : ∀ i, i < n + 1 → Ha w9 (d.push x)[i]! i ∧ (d.push x)[i]!.b < w1.heap.size ∧ (d.push x)[i]!.b ≠ a ∧ (Value.slice A n c).ownBlock ≠ some (d.push x)[i]!.b := fun i hi => by
    by_cases e : i = n
    · subst e
      rw [push_last x hs]
      have h1 : (Value.slice A i c).ownBlock ≠ some x.b := fun e => hxf (.inl e)
      exact ⟨hx.kept (kp _ hx.lt h1), hx.lt, hxa, h1⟩
    · rw [push_get x hs (by omega)]
      have h1 := H.out i (by omega)
      have h2 := H.sl i (by omega)
      exact ⟨h2.kept (kp _ h2.lt h1.2), h2.lt, h1⟩
  refine ⟨hc9, hf9, Hq.set hc9 hf9 ?_ (hnew a H.lt H.off) (fun i hi => (hsl i hi).1) (fun i j hi hj e => ?_) (fun i hi => ⟨(hsl i hi).2.2.1, hnew _ (hsl i hi).2.1 (hsl i hi).2.2.2⟩), ?_, (World.cell?_setCell_other _ _ _ _ (by simp)).trans (World.cell?_of_block (a := ⟨a, 0, none⟩) (kp a H.lt H.off))⟩
  · rw [Array.toList_push, pvs_app]; exact ho
  · by_cases e1 : i = n
    · by_cases e2 : j = n
      · omega
      · rw [e1, push_last x hs, push_get x hs (by omega)] at e
        exact absurd (e ▸ H.ft (show j < n by omega)) hxf
    · by_cases e2 : j = n
      · rw [e2, push_last x hs, push_get x hs (by omega)] at e
        exact absurd (e ▸ H.ft (show i < n by omega)) hxf
      · rw [push_get x hs (by omega), push_get x hs (by omega)] at e
        exact H.apart i j (by omega) (by omega) e
  · refine ((Only.of_below hb).trans (Only.of_grown h5 (S := fun k => k = a ∨ Ft A n c d k) (fun k e => ?_)) (fun _ _ k => k)).trans (Only.setCell w9 a 1 _) (fun i _ e => .inl e)
    split at e
    · cases e
    · exact .inr (.inl e.symm)
def APushed (w : World) (base a : Nat) (A : Option Addr) (n c : Nat) (d : Array Slp) (x : Slp) (e : Ending) (w' : World) : Prop :=
  e = .returned (.tuple #[]) ∧ ∃ A' c', Hq w' base a A' (n + 1) c' (d.push x) ∧ Near w A A' ∧ Only (fun k => k = a ∨ k = x.b ∨ Ft A n c d k) w w' ∧ Keep0 a w w'
set_option maxRecDepth 100000 in
set_option maxHeartbeats 4000000 in
theorem apush_any (w : World) (base a : Nat) (A : Option Addr) (n c p : Nat) (d : Array Slp) (x : Slp) (h : Hq w base a A n c d) (hx : Ha w x p) (hxa : x.b ≠ a) (hxf : ¬ Ft A n c d x.b) (hb0 : base ≤ w.heap.size) (hn : n ≤ 1000000) :
    Calls Try.prog 143 #[.pointer (some ⟨a, 1, none⟩), .iface 141 (.pointer (some ⟨x.b, 0, none⟩))] w (APushed w base a A n c d x) := by
  obtain ⟨i0, hi0, hz0, hz1, hz2⟩ := info_parts sleeper_info
  have H := Lib.hid h
  have HX := Lib.hid hx
  have HF : Hid (¬ Ft A n c d x.b) := hxf
  have hc := h.cell
  have hf := h.frz
  have hx2 := hx.c2
  have hxz := hx.fz 2
  have hax : a ≠ x.b := fun e => hxa e.symm
  have hta := assert_sl (.pointer (some ⟨x.b, 0, none⟩)) w ⟨_, rfl⟩
  have H1 : Hid (Hq (w.setCell ⟨x.b, 2, none⟩ (.int .i64 (n : Int))) base a A n c d) := h.only (Only.setCell w x.b 2 (.int .i64 (n : Int))) (fun k _ e => by subst e; exact ⟨hxa, hxf⟩)
  have HX1 : Hid (Ha (w.setCell ⟨x.b, 2, none⟩ (.int .i64 (n : Int))) x n) := hx.place n
  have HO1 := Lib.hid (Only.setCell w x.b 2 (.int .i64 (n : Int)))
  have hz1b : base ≤ (w.setCell ⟨x.b, 2, none⟩ (.int .i64 (n : Int))).heap.size := by simp; exact hb0
  have HLIT : Hid (Sn ((w.setCell ⟨x.b, 2, none⟩ (.int .i64 (n : Int))).alloc (.cells #[.pointer (some ⟨x.b, 0, none⟩)] 141)) (w.heap.size + 1) (some ⟨w.heap.size, 0, none⟩) 1 1 1 (pvs [x])) := by
    have hl := lit_sn (w.setCell ⟨x.b, 2, none⟩ (.int .i64 (n : Int))) 141 (pvs [x]) 1 1 rfl (by unfold maxLen; omega)
    have hs : (w.setCell ⟨x.b, 2, none⟩ (.int .i64 (n : Int))).heap.size = w.heap.size := by simp
    rw [hs] at hl
    exact hl
  clear h hx hxf
  go_enter Try.func143, Try.ntmps143
  go_wp2_with (at_builtin; refine wpList_append_dstN _ rfl (.tmp 17) (.tmp 19) 138 138 rfl base 141 i0 _ 1 8 Try.underlying138 hi0 hz0 hz1 hz2 rfl A n c (pvs d.toList) rfl (.inr (H1.out.own.alloc _)) _ 1 (pvs [x]) rfl (HLIT.out.src Try.underlying138 (pvs_one [x])) (by omega) (by omega) (by simp; omega) ?_; intro A9 c9 w9 h1 h2 h3 h4 h5 h6; obtain ⟨hc9, hf9, hp9, hon, hk0⟩ := apush_end H1.out HX1.out hxa HF.out (h2 (by omega)) h5 h6; have HP9 := Lib.hid hp9; have HON := Lib.hid hon; have HK0 := Lib.hid hk0; have HN9 := Lib.hid h6; clear h1 h2 h3 h4 h5 h6 hp9 hon hk0 hc hf hx2 hxz)
  go_end0
  refine ⟨rfl, A9, c9, HP9.out, ?_, (HO1.out.mono (fun k _ e => .inr (.inl e))).trans HON.out (fun k _ e => ?_), Keep0.trans (show Keep0 a w (w.setCell ⟨x.b, 2, none⟩ (.int .i64 (n : Int))) from World.cell?_setCell_other w ⟨x.b, 2, none⟩ ⟨a, 0, none⟩ _ (by intro e; injection e with e; exact hxa e)) HK0.out⟩
  · rcases HN9.out with k | ⟨b, k1, k2⟩
    · exact .inl k
    · refine .inr ⟨b, k1, ?_⟩
      simp at k2
      omega
  · rcases e with e | e
    · exact .inl e
    · exact .inr (.inr e)
/-- One is taken off the end. -/
theorem pop_listA {d : Array Slp} {m : Nat} (h : d.size = m + 1) : d.toList = d.pop.toList ++ [d[m]!] := by
  have h1 : d.toList ≠ [] := by intro e; rw [← Array.length_toList, e] at h; simp at h
  have h2 := List.dropLast_concat_getLast h1
  have h3 : d.toList.getLast h1 = d[m]! := by
    rw [List.getLast_eq_getElem, getElem!_pos d m (by omega)]
    simp [h]
  rw [Array.toList_pop, ← h3]
  exact h2.symm
def APopped (w : World) (base a rb m c : Nat) (d : Array Slp) (e : Ending) (w' : World) : Prop :=
  e = .returned (.iface 141 (.pointer (some ⟨d[m]!.b, 0, none⟩))) ∧ Hq w' base a (some ⟨rb, 0, none⟩) m c d.pop ∧ Only (fun k => k = a ∨ k = rb) w w' ∧ Keep0 a w w'
theorem apop_end {w : World} {base a rb m c : Nat} {d : Array Slp} (H : Hq w base a (some ⟨rb, 0, none⟩) (m + 1) c d) :
    Hq ((w.setCell ⟨rb, m, none⟩ (.pointer none)).setCell ⟨a, 1, none⟩ (.slice (some ⟨rb, 0, none⟩) m c)) base a (some ⟨rb, 0, none⟩) m c d.pop := by
  have hs := H.size
  have hra : rb ≠ a := fun e => H.off (by rw [← e]; rfl)
  have kp : ∀ k, k ≠ rb → (w.setCell ⟨rb, m, none⟩ (.pointer none)).heap[k]? = w.heap[k]? := fun k hk => RowKit.Below.heap_setCell w ⟨rb, m, none⟩ _ k hk
  have s1 := (H.own.stored m (.pointer none)).1
  rw [pop_listA hs, pvs_app] at s1
  have hl : (pvs d.pop.toList).length = m := by rw [pvs_len]; simp [hs]
  rw [List.set_append_right _ _ (by omega), hl, Nat.sub_self] at s1
  refine Hq.set ((World.cell?_of_block (a := ⟨a, 1, none⟩) (kp a (fun e => hra e.symm))).trans H.cell) ((World.frozen?_of_block (a := ⟨a, 1, none⟩) (kp a (fun e => hra e.symm))).trans H.frz) ?_ (by rw [own_block _ _ _ (m + 1) c]; exact H.off) (fun i hi => ?_) (fun i j hi hj e => ?_) (fun i hi => ?_)
  · exact ownsRow_pop (by omega) s1
  · rw [pop_get hs hi]
    exact (H.sl i (by omega)).kept (kp _ (fun e => (H.out i (by omega)).2 (by rw [e]; rfl)))
  · rw [pop_get hs hi, pop_get hs hj] at e
    exact H.apart i j (by omega) (by omega) e
  · rw [pop_get hs hi, own_block _ _ _ (m + 1) c]
    exact H.out i (by omega)
set_option maxRecDepth 100000 in
set_option maxHeartbeats 4000000 in
theorem apop_any (w : World) (base a rb m c : Nat) (d : Array Slp) (h : Hq w base a (some ⟨rb, 0, none⟩) (m + 1) c d) (hn : m ≤ 1000000) :
    Calls Try.prog 142 #[.pointer (some ⟨a, 1, none⟩)] w (APopped w base a rb m c d) := by
  have H := Lib.hid h
  have hc := h.cell
  have hf := h.frz
  have hat := h.at_ (show m < m + 1 by omega)
  have hfr := h.own.frozenAt m
  have hra : rb ≠ a := fun e => h.off (by rw [← e]; rfl)
  have har : a ≠ rb := fun e => hra e.symm
  have hle : m + 1 ≤ c := by
    rcases h.own.2 with ⟨h0, _⟩ | ⟨_, _, _, hv, _, _, hle, _⟩
    · cases h0
    · injection hv with _ _ e3; omega
  have hleI : (m : Int) ≤ (c : Int) := by omega
  have e1 : ((m + 1 : Nat) : Int) - 1 = (m : Int) := by omega
  have HE := Lib.hid (apop_end h)
  have HO : Hid (Only (fun k => k = a ∨ k = rb) w ((w.setCell ⟨rb, m, none⟩ (.pointer none)).setCell ⟨a, 1, none⟩ (.slice (some ⟨rb, 0, none⟩) m c))) :=
    ((Only.setCell w rb m _).mono (fun k _ e => .inr e)).trans (Only.setCell _ a 1 _) (fun k _ e => .inl e)
  have HK : Hid (Keep0 a w ((w.setCell ⟨rb, m, none⟩ (.pointer none)).setCell ⟨a, 1, none⟩ (.slice (some ⟨rb, 0, none⟩) m c))) := (World.cell?_setCell_other _ _ _ _ (by simp)).trans (World.cell?_setCell_other _ _ _ _ (by intro e; injection e with e; exact hra e))
  clear h hle
  generalize hx : d[m]!.b = xb at *
  unfold APopped
  rw [hx]
  go_enter Try.func142, Try.ntmps142
  go_wp2_with fail
  go_ret
  exact ⟨rfl, HE.out, HO.out, HK.out⟩
end Go.Proofs.Ytfmfamnngfanfaa
