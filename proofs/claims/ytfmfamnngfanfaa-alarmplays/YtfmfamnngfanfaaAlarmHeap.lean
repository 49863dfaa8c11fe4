/-
  CONTRACTS of container/heap's Push, Fix, Remove over an alarm's line.
  No statement is proved here.
-/
import Derived.Test.YtfmfamnngfanfaaAlarmPush
namespace Go.Proofs.Ytfmfamnngfanfaa
open Go.RowKit Go.Sort

/-- What a call on the heap may turn. -/
def Fa (a : Nat) (A : Option Addr) (n c : Nat) (d : Array Slp) (k : Nat) : Prop := k = a ∨ Ft A n c d k
theorem ft_push {A : Option Addr} {n c n' c' : Nat} {d : Array Slp} {x : Slp} {k : Nat} (h : Ft A n' c' (d.push x) k) : Ft A n c d k ∨ k = x.b := by
  rcases h with h | ⟨s, hs, e⟩
  · exact .inl (.inl (by rw [own_block A n c n' c']; exact h))
  · rw [Array.toList_push, List.mem_append] at hs
    rcases hs with hs | hs
    · exact .inl (.inr ⟨s, hs, e⟩)
    · simp at hs; subst hs; exact .inr e.symm
theorem ft_near {w : World} {A A' : Option Addr} {n c n' c' : Nat} {d : Array Slp} {k : Nat} (hn : Near w A A') (hk : k < w.heap.size) (h : Ft A' n' c' d k) : Ft A n c d k := by
  rcases h with h | h
  · rcases hn with rfl | ⟨b, rfl, hb⟩
    · exact .inl (by rw [own_block _ n c n' c']; exact h)
    · simp [Value.ownBlock] at h
      omega
  · exact .inr h
def AHPushed (w : World) (base a : Nat) (A : Option Addr) (n c : Nat) (d : Array Slp) (x : Slp) (e : Ending) (w' : World) : Prop :=
  e = .returned (.tuple #[]) ∧ ∃ A' c' d', Hq w' base a A' (n + 1) c' d' ∧ Heap lessA d' (n + 1) ∧ d'.toList.Perm (x :: d.toList) ∧ Near w A A' ∧ Only (fun k => k = x.b ∨ Fa a A n c d k) w w' ∧ Keep0 a w w'
set_option maxRecDepth 100000 in
set_option maxHeartbeats 4000000 in
theorem ahpush_any (w : World) (base a : Nat) (A : Option Addr) (n c p : Nat) (d : Array Slp) (x : Slp) (h : Hq w base a A n c d) (hh : Heap lessA d n) (hx : Ha w x p) (hxa : x.b ≠ a) (hxf : ¬ Ft A n c d x.b) (hb0 : base ≤ w.heap.size) (hn : n ≤ 100000) :
    Calls Try.prog 76 #[hva a, .iface 141 (.pointer (some ⟨x.b, 0, none⟩))] w (AHPushed w base a A n c d x) := by
  have H := Lib.hid h
  have HH := Lib.hid hh
  have HX := Lib.hid hx
  have HXF : Hid (x.b ≠ a ∧ ¬ Ft A n c d x.b) := ⟨hxa, hxf⟩
  have HS := Lib.hid h.size
  have hm := fun w => ameth_push ⟨a, 1, none⟩ w
  clear h hh hx hxa hxf
  unfold hva
  go_enter Try.func76, Try.ntmps76
  go_wp2_with fail
  refine (apush_any w base a A n c p d x H.out HX.out HXF.out.1 HXF.out.2 hb0 (by omega)).mono ?_
  rintro e w2 ⟨rfl, A2, c2, h2, hnear, honly, hk0⟩
  obtain ⟨rb, rfl⟩ := h2.row (by omega)
  have H2 := Lib.hid h2
  have HN := Lib.hid hnear
  have HO := Lib.hid honly
  have HK0 := Lib.hid hk0
  have hml := ameth_len h2.cell
  have e1 : ((n + 1 : Nat) : Int) - 1 = (n : Int) := by omega
  clear h2 hnear honly hm hk0
  go_wp2_with fail
  refine (alen_any w2 _ (n + 1) c2).mono ?_
  rintro e w3 ⟨rfl, rfl⟩
  go_wp2_with fail
  refine (aup_any w2 base a rb (n + 1) c2 (n + 1) n (d.push x) H2.out (by omega) (Nat.le_refl _) (push_start x HH.out HS.out) (by omega)).mono ?_
  rintro e w4 ⟨rfl, d', h4, hh4, hp4, hk4, hg4⟩
  have H4 := Lib.hid h4
  have HH4 := Lib.hid hh4
  have HP4 := Lib.hid hp4
  have HG4 := Lib.hid hg4
  clear h4 hh4 hp4 hg4 hk4 hml
  go_wp2
  go_end0
  refine ⟨rfl, _, c2, d', H4.out, HH4.out, HP4.out.trans ?_, HN.out, (HO.out.mono (fun k _ e => ?_)).trans HG4.out (fun i hi hs => ?_), HK0.out.trans (H2.out.keep0 HG4.out)⟩
  · rw [Array.toList_push]
    exact List.perm_append_singleton x d.toList
  · rcases e with e | e | e
    · exact .inr (.inl e)
    · exact .inl e
    · exact .inr (.inr e)
  · rcases ft_push (n := n) (c := c) hs with k | k
    · exact .inr (.inr (ft_near HN.out hi k))
    · exact .inl k
theorem fix_after {d d2 : Array Slp} {m i : Nat} {b : Bool} (h : FixInv lessA d m i) (hi : i < m) (h1 : Kids lessA d m i → b = false) (h2 : DownInv lessA d m i → Heap lessA d2 m) (h3 : Kids lessA d m i → d2 = d) :
    (b = true → Heap lessA d2 m) ∧ (b = false → UpInv lessA d2 m i) := by
  rcases fix_cases lessA_wk h with k | ⟨k1, k2⟩
  · exact ⟨fun _ => h2 k, fun _ => up_of_heap lessA_wk (h2 k) hi⟩
  · exact ⟨fun e => (by rw [h1 k2] at e; cases e), fun _ => (by rw [h3 k2]; exact k1)⟩
/-- The heap is one again. -/
def AFixed (w : World) (base a rb n c : Nat) (d : Array Slp) (e : Ending) (w' : World) : Prop :=
  e = .returned (.tuple #[]) ∧ ∃ d', Hq w' base a (some ⟨rb, 0, none⟩) n c d' ∧ Heap lessA d' n ∧ d'.toList.Perm d.toList ∧ Only (Ft (some ⟨rb, 0, none⟩) n c d) w w'
set_option maxRecDepth 100000 in
set_option maxHeartbeats 4000000 in
theorem afix_any (w : World) (base a rb n c i : Nat) (d : Array Slp) (h : Hq w base a (some ⟨rb, 0, none⟩) n c d) (hf : FixInv lessA d n i) (hi : i < n) (hn : n ≤ 100000) :
    Calls Try.prog 75 #[hva a, .int .i64 i] w (AFixed w base a rb n c d) := by
  have H := Lib.hid h
  have HF := Lib.hid hf
  have hml := ameth_len h.cell
  clear h hf
  unfold hva
  go_enter Try.func75, Try.ntmps75
  go_wp2_with fail
  refine (alen_any w _ n c).mono ?_
  rintro e w3 ⟨rfl, rfl⟩
  go_wp2_with fail
  refine (adown_any w base a rb n c n i d H.out (by omega) (Nat.le_refl _) (by omega)).mono ?_
  rintro e w4 ⟨b, rfl, hb1, d2, h4, hh4, hd4, hp4, hk4, hg4⟩
  have H4 := Lib.hid h4
  have HA := Lib.hid (fix_after HF.out hi hb1 hh4 hd4)
  have HP4 := Lib.hid hp4
  have HG4 := Lib.hid hg4
  clear h4 hh4 hp4 hg4 hk4 hd4 hb1 hml
  cases b
  · go_wp2_with fail
    refine (aup_any w4 base a rb n c n i d2 H4.out hi (Nat.le_refl _) (HA.out.2 (by simp)) (by omega)).mono ?_
    rintro e w5 ⟨rfl, d3, h5, hh5, hp5, hk5, hg5⟩
    have H5 := Lib.hid h5
    have HH5 := Lib.hid hh5
    have HP5 := Lib.hid (hp5.trans HP4.out)
    have HG5 := Lib.hid (HG4.out.trans hg5 (fun _ _ k => Ft.perm HP4.out k))
    clear h5 hh5 hp5 hg5 hk5
    go_wp2_with fail
    go_end0
    exact ⟨rfl, d3, H5.out, HH5.out, HP5.out, HG5.out⟩
  · have HH4 := Lib.hid (HA.out.1 (by simp))
    go_wp2_with fail
    go_end0
    exact ⟨rfl, d2, H4.out, HH4.out, HP4.out, HG4.out⟩
def ARemoved (w : World) (base a rb m c i : Nat) (d : Array Slp) (e : Ending) (w' : World) : Prop :=
  e = .returned (.iface 141 (.pointer (some ⟨d[i]!.b, 0, none⟩))) ∧ ∃ d', Hq w' base a (some ⟨rb, 0, none⟩) m c d' ∧ Heap lessA d' m ∧ d.toList.Perm (d[i]! :: d'.toList) ∧ Only (Fa a (some ⟨rb, 0, none⟩) (m + 1) c d) w w' ∧ Keep0 a w w'
theorem heap_pop {d : Array Slp} {m : Nat} (hs : d.size = m + 1) (h : Heap lessA d m) : Heap lessA d.pop m := fun k h0 hk => by
  rw [pop_get hs hk, pop_get hs (by omega)]
  exact h k h0 hk
theorem removed_end {w w4 w5 : World} {base a rb m c i : Nat} {d d3 : Array Slp} (h4 : Hq w4 base a (some ⟨rb, 0, none⟩) (m + 1) c d3) (hh4 : Heap lessA d3 m) (hp : d3.toList.Perm d.toList) (hl : d3[m]! = d[i]!) (hg : Only (Ft (some ⟨rb, 0, none⟩) (m + 1) c d) w w4)
    (h5 : Hq w5 base a (some ⟨rb, 0, none⟩) m c d3.pop) (hg5 : Only (fun k => k = a ∨ k = rb) w4 w5) (hk : Keep0 a w w4) (hk5 : Keep0 a w4 w5) : ∃ d', Hq w5 base a (some ⟨rb, 0, none⟩) m c d' ∧ Heap lessA d' m ∧ d.toList.Perm (d[i]! :: d'.toList) ∧ Only (Fa a (some ⟨rb, 0, none⟩) (m + 1) c d) w w5 ∧ Keep0 a w w5 := by
  have hs3 := h4.size
  refine ⟨d3.pop, h5, heap_pop hs3 hh4, ?_, (hg.mono (fun k _ e => .inr e)).trans hg5 (fun k _ e => ?_), hk.trans hk5⟩
  · refine hp.symm.trans ?_
    rw [pop_listA hs3, hl]
    simp only [Array.toList_pop]
    exact List.perm_append_singleton _ _
  · rcases e with e | e
    · exact .inl e
    · exact .inr (.inl (by rw [e]; rfl))
set_option maxRecDepth 100000 in
set_option maxHeartbeats 4000000 in
theorem aremove_any (w : World) (base a rb m c i : Nat) (d : Array Slp) (h : Hq w base a (some ⟨rb, 0, none⟩) (m + 1) c d) (hh : Heap lessA d (m + 1)) (hi : i ≤ m) (hn : m ≤ 100000) :
    Calls Try.prog 93 #[hva a, .int .i64 i] w (ARemoved w base a rb m c i d) := by
  have H := Lib.hid h
  have HH := Lib.hid hh
  have HS := Lib.hid h.size
  have hml := ameth_len h.cell
  have hmp := fun w => ameth_pop ⟨a, 1, none⟩ w
  have e1 : ((m + 1 : Nat) : Int) - 1 = (m : Int) := by omega
  clear hh
  unfold hva
  by_cases him : i = m
  · subst him
    have hne : ((i : Int) != (i : Int)) = false := by simp
    clear h
    go_enter Try.func93, Try.ntmps93
    go_wp2_with fail
    refine (alen_any w _ (i + 1) c).mono ?_
    rintro e w3 ⟨rfl, rfl⟩
    go_wp2_with fail
    refine (apop_any w base a rb i c d H.out (by omega)).mono ?_
    rintro e w5 ⟨rfl, h5, ho5, hk5⟩
    have H5 := Lib.hid h5
    have HO5 := Lib.hid ho5
    have HK5 := Lib.hid hk5
    clear h5 ho5 hk5
    go_wp2_with fail
    go_ret
    exact ⟨rfl, removed_end H.out (fun k h0 hk => HH.out k h0 (by omega)) (List.Perm.refl _) rfl (Only.refl _ _) H5.out HO5.out rfl HK5.out⟩
  · have hne : ((m : Int) != (i : Int)) = true := by simp; omega
    have hms := ameth_swap h.cell
    have hiI : (i : Int) < (m : Int) := by omega
    have HIM : Hid (i < m) := by show i < m; omega
    clear h
    go_enter Try.func93, Try.ntmps93
    go_wp2_with fail
    refine (alen_any w _ (m + 1) c).mono ?_
    rintro e w3 ⟨rfl, rfl⟩
    go_wp2_with fail
    refine (aswap_own w base a rb (m + 1) c i m d H.out (by omega) (by omega) him).mono ?_
    rintro e w2 ⟨rfl, h2, hg2⟩
    have H2 := Lib.hid h2
    have HG2 := Lib.hid hg2
    have HP2 : Hid ((swp d i m).toList.Perm d.toList) := swp_perm (by rw [HS.out]; omega) (by rw [HS.out]; omega)
    have HF2 : Hid (FixInv lessA (swp d i m) m i) := fix_of lessA_wk HH.out (by omega) (fun k hk hki => by rw [swp_at (by rw [HS.out]; omega) (by rw [HS.out]; omega), if_neg (by omega), if_neg hki])
    have HL2 : Hid ((swp d i m)[m]! = d[i]!) := by show _ = _; rw [swp_at (by rw [HS.out]; omega) (by rw [HS.out]; omega), if_pos rfl]
    clear h2 hg2 hms hml
    go_wp2_with fail
    refine (adown_any w2 base a rb (m + 1) c m i (swp d i m) H2.out (by omega) (by omega) (by omega)).mono ?_
    rintro e w4 ⟨b, rfl, hb1, d2, h4, hh4, hd4, hp4, hk4, hg4⟩
    have H4 := Lib.hid h4
    have HA := Lib.hid (fix_after HF2.out HIM.out hb1 hh4 hd4)
    have HP4 := Lib.hid (hp4.trans HP2.out)
    have HL4 := Lib.hid ((hk4 m (Nat.le_refl _)).trans HL2.out)
    have HG4 := Lib.hid (HG2.out.trans hg4 (fun _ _ k => Ft.perm HP2.out k))
    clear h4 hh4 hp4 hg4 hk4 hd4 hb1
    cases b
    · go_wp2_with fail
      refine (aup_any w4 base a rb (m + 1) c m i d2 H4.out HIM.out (by omega) (HA.out.2 (by simp)) (by omega)).mono ?_
      rintro e w5 ⟨rfl, d3, h5, hh5, hp5, hk5, hg5⟩
      have H5 := Lib.hid h5
      have HH5 := Lib.hid hh5
      have HP5 := Lib.hid (hp5.trans HP4.out)
      have HL5 := Lib.hid ((hk5 m (Nat.le_refl _)).trans HL4.out)
      have HG5 := Lib.hid (HG4.out.trans hg5 (fun _ _ k => Ft.perm HP4.out k))
      clear h5 hh5 hp5 hg5 hk5
      go_wp2_with fail
      refine (apop_any w5 base a rb m c d3 H5.out (by omega)).mono ?_
      rintro e w6 ⟨rfl, h6, ho6, hk6⟩
      have H6 := Lib.hid h6
      have HO6 := Lib.hid ho6
      have HK6 := Lib.hid hk6
      clear h6 ho6 hk6
      rw [HL5.out]
      go_wp2_with fail
      go_ret
      exact ⟨rfl, removed_end H5.out HH5.out HP5.out HL5.out HG5.out H6.out HO6.out (H.out.keep0 HG5.out) HK6.out⟩
    · have HH4 := Lib.hid (HA.out.1 (by simp))
      go_wp2_with fail
      refine (apop_any w4 base a rb m c d2 H4.out (by omega)).mono ?_
      rintro e w6 ⟨rfl, h6, ho6, hk6⟩
      have H6 := Lib.hid h6
      have HO6 := Lib.hid ho6
      have HK6 := Lib.hid hk6
      clear h6 ho6 hk6
      rw [HL4.out]
      go_wp2_with fail
      go_ret
      exact ⟨rfl, removed_end H4.out HH4.out HP4.out HL4.out HG4.out H6.out HO6.out (H.out.keep0 HG4.out) HK6.out⟩
end Go.Proofs.Ytfmfamnngfanfaa
