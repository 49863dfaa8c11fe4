/-
  CONTRACTS of an alarm's Len, Next, When, forget, Clear.
  No statement is proved here.
-/
import Derived.Test.YtfmfamnngfanfaaAlarmAll
namespace Go.Proofs.Ytfmfamnngfanfaa
open Go.RowKit Go.Sort Go.Maps

section
variable {w w' : World} {S Q : Nat → Prop} {base a mb n c : Nat} {A : Option Addr} {d d' : Array Slp} {f : Nat → Option Value} {l : List En}
theorem AlP.nle (h : AlP w S base a mb A n c d f) : n ≤ 9223372036854775807 := by
  rcases h.hq.own.2 with ⟨_, h0⟩ | ⟨_, _, _, hv, _, _, h4, h5, _⟩
  · omega
  · unfold maxLen at h5; omega
/-- Who is on top of the heap is first in the list. -/
theorem AlP.top {e : En} (h : AlP w S base a mb A n c d f) (hh : Heap lessA d n) (hp : (d.toList.map Slp.en).Perm (e :: l)) (hs : SortE (e :: l)) : 0 < n ∧ d[0]!.en = e := by
  have hl := h.len hp
  simp at hl
  have hz := h.hq.size
  refine ⟨by omega, ?_⟩
  have h0 : d[0]!.en ∈ e :: l := hp.mem_iff.1 (List.mem_map.2 ⟨_, get_mem (by omega), rfl⟩)
  rcases List.mem_cons.1 h0 with h0 | h0
  · exact h0
  · exfalso
    obtain ⟨s, hsm, he⟩ := List.mem_map.1 (hp.mem_iff.2 (List.mem_cons_self (a := e)))
    obtain ⟨k, hk, rfl⟩ := mem_get hsm
    have h1 := (List.pairwise_cons.1 hs).1 _ h0
    rw [← he] at h1
    rcases Nat.eq_zero_or_pos k with rfl | hk0
    · rw [ltE_irr] at h1; cases h1
    · have h2 := heap_top lessA_wk hh k hk0 (by omega)
      unfold lessA at h2
      rw [h2] at h1
      cases h1
/-- The line was put in another order. -/
theorem AlP.heaped (h : AlP w S base a mb A n c d f) (hq : Hq w' base a A n c d') (hp : d'.toList.Perm d.toList) (ho : Only (Ft A n c d) w w') : AlP w' S base a mb A n c d' f :=
  ⟨Eq.trans (h.hq.keep0 ho) h.mc, hq, h.mv.kept (ho.block mb h.mv.lt h.mf), fun s hs => h.f1 s (hp.mem_iff.1 hs), fun k hk => h.f0 k (fun s hs => hk s (hp.mem_iff.2 hs)), ((hp.map (·.id)).nodup_iff).2 h.nd, fun s hs => h.idl s (hp.mem_iff.1 hs), h.sa, h.sm,
    fun k hk => h.sf k (Ft.perm hp hk), h.ma, fun hk => h.mf (Ft.perm hp hk), fun k hk => ⟨(h.sl k hk).1, Nat.lt_of_lt_of_le (h.sl k hk).2 ho.size⟩⟩
/-- Of the map too nothing is left of one that goes. -/
theorem AlP.gone {m i : Nat} {w2 : World} (h : AlP w S base a mb A (m + 1) c d f) (hm : Mv Try.prog 47 w2 mb m (delF f d[i]!.id)) (ho2 : Only (fun k => k = mb) w w2) (hq : Hq w' base a A m c d') (hp : d.toList.Perm (d[i]! :: d'.toList)) (ho : Only (Fa a A (m + 1) c d) w2 w') (hk : Keep0 a w2 w') :
    AlP w' S base a mb A m c d' (delF f d[i]!.id) ∧ Only S w w' := by
  have hz := h.hq.size
  have hmem : ∀ s ∈ d'.toList, s ∈ d.toList := fun s hs => hp.mem_iff.2 (List.mem_cons_of_mem _ hs)
  have hnd := ((hp.map (·.id)).nodup_iff).1 h.nd
  rw [List.map_cons, List.nodup_cons] at hnd
  have hft : ∀ k, Ft A m c d' k → Ft A (m + 1) c d k := fun k hk => by
    rcases hk with hk | ⟨s, hs, e⟩
    · exact .inl (by rw [own_block A (m + 1) c m c]; exact hk)
    · exact .inr ⟨s, hmem s hs, e⟩
  have hmbF : ¬ Fa a A (m + 1) c d mb := fun k => by
    rcases k with k | k
    · exact h.ma k
    · exact h.mf k
  have hS : Only S w w' := (ho2.mono (fun k _ e => by rw [e]; exact h.sm)).trans ho (fun k _ e => by
    rcases e with e | e
    · rw [e]; exact h.sa
    · exact h.sf k e)
  refine ⟨⟨Eq.trans hk ((World.cell?_of_block (a := ⟨a, 0, none⟩) (ho2.block a h.hq.lt (fun e => h.ma e.symm))).trans h.mc), hq, hm.kept (ho.block mb hm.lt hmbF), fun s hs => ?_, fun k hk => ?_, hnd.2, fun s hs => h.idl s (hmem s hs), h.sa, h.sm, fun k hk => h.sf k (hft k hk), h.ma, fun hk => h.mf (hft _ hk), fun k hk => ⟨(h.sl k hk).1, Nat.lt_of_lt_of_le (h.sl k hk).2 hS.size⟩⟩, hS⟩
  · unfold delF
    rw [if_neg (fun e => hnd.1 (by rw [← e]; exact List.mem_map_of_mem hs))]
    exact h.f1 s (hmem s hs)
  · unfold delF
    by_cases e : k = d[i]!.id
    · rw [if_pos e]
    · rw [if_neg e]
      refine h.f0 k (fun s hs e2 => ?_)
      rcases List.mem_cons.1 (hp.mem_iff.1 hs) with rfl | hs
      · exact e e2.symm
      · exact hk s hs e2
theorem gone_perm {x : Slp} (hp : d.toList.Perm (x :: d'.toList)) (hl : (d.toList.map Slp.en).Perm l) (hn : (d.toList.map (·.id)).Nodup) : (d'.toList.map Slp.en).Perm (without x.id l) := by
  have hnd := ((hp.map (·.id)).nodup_iff).1 hn
  rw [List.map_cons, List.nodup_cons] at hnd
  have h1 : l.Perm (x.en :: d'.toList.map Slp.en) := hl.symm.trans (hp.map Slp.en)
  have h2 := h1.filter (fun e => decide (e.1 ≠ x.id))
  have h3 : without x.id (x.en :: d'.toList.map Slp.en) = d'.toList.map Slp.en := by
    unfold without
    rw [List.filter_cons_of_neg (by simp [Slp.en])]
    refine without_none (fun y hy e => ?_)
    obtain ⟨s, hs, rfl⟩ := List.mem_map.1 hy
    exact hnd.1 (by rw [← e]; exact List.mem_map.2 ⟨s, hs, rfl⟩)
  unfold without at h3 ⊢
  rw [h3] at h2
  exact h2.symm
end
set_option maxRecDepth 100000 in
set_option maxHeartbeats 1000000 in
theorem alen2_any (w : World) (S : Nat → Prop) (base a : Nat) (l : List En) (h : Al w S base a l) : Calls Try.prog 50 #[.pointer (some ⟨a, 0, none⟩)] w fun e w' => e = .returned (.int .i64 (l.length : Int)) ∧ w = w' := by
  obtain ⟨mb, A, n, c, d, f, h1, h2, h3⟩ := h.ex
  have hl := h1.len h3
  have hc := h1.hq.cell
  rw [hl]
  clear h h1 h2 h3 hl
  go_enter Try.func50, Try.ntmps50
  go_wp2_with fail
  go_ret
  exact ⟨rfl, rfl⟩
set_option maxRecDepth 100000 in
theorem alen_nil (w : World) : Calls Try.prog 50 #[.pointer none] w fun e w' => e = .returned (.int .i64 0) ∧ w = w' := by
  go_enter Try.func50, Try.ntmps50
  go_wp2_with fail
  go_ret
  exact ⟨rfl, rfl⟩
def nextV : List En → Value
  | [] => .tuple #[.int .i64 0, .bool false]
  | e :: _ => .tuple #[.int .i64 e.2, .bool true]
set_option maxRecDepth 100000 in
set_option maxHeartbeats 1000000 in
theorem anext_any (w : World) (S : Nat → Prop) (base a : Nat) (l : List En) (h : Al w S base a l) (hs : SortE l) : Calls Try.prog 48 #[.pointer (some ⟨a, 0, none⟩)] w fun e w' => e = .returned (nextV l) ∧ w = w' := by
  have H := Lib.hid h
  rcases l with _ | ⟨x, l⟩
  · clear h
    go_enter Try.func48, Try.ntmps48
    go_wp2_with fail
    refine (alen2_any w S base a _ H.out).mono ?_
    rintro e w1 ⟨rfl, rfl⟩
    go_wp2_with fail
    go_ret2
    exact ⟨rfl, rfl⟩
  · obtain ⟨mb, A, n, c, d, f, h1, h2, h3⟩ := h.ex
    obtain ⟨hn, ht⟩ := h1.top h2 h3 hs
    obtain ⟨rb, rfl⟩ := h1.hq.row hn
    have hc := h1.hq.cell
    have hat := h1.hq.at_ hn
    have h11 := (h1.hq.sl 0 hn).c1
    have hnI : (0 : Int) < (n : Int) := by omega
    have hlI : (((x :: l).length : Int) == 0) = false := by simp; omega
    obtain ⟨N, HN⟩ : ∃ N : Int, Hid (N = ((x :: l).length : Int)) := ⟨_, rfl⟩
    rw [← HN.out] at hlI
    have HT : Hid (d[0]!.at_ = x.2) := by show _ = _; rw [← ht]; rfl
    generalize d[0]!.b = xb at *
    generalize d[0]!.at_ = xa at *
    clear h h1 h2 h3 ht hs
    go_enter Try.func48, Try.ntmps48
    go_wp2_with fail
    refine (alen2_any w S base a _ H.out).mono ?_
    rintro e w1 ⟨rfl, rfl⟩
    rw [← HN.out]
    go_wp2_with fail
    go_ret2
    exact ⟨by rw [HT.out]; rfl, rfl⟩
set_option maxRecDepth 100000 in
theorem anext_nil (w : World) : Calls Try.prog 48 #[.pointer none] w fun e w' => e = .returned (.tuple #[.int .i64 0, .bool false]) ∧ w = w' := by
  go_enter Try.func48, Try.ntmps48
  go_wp2_with fail
  refine (alen_nil w).mono ?_
  rintro e w1 ⟨rfl, rfl⟩
  go_wp2_with fail
  go_ret2
  exact ⟨rfl, rfl⟩
def whenV (o : Option Int) : Value := .tuple #[.int .i64 (o.getD 0), .bool o.isSome]
set_option maxRecDepth 100000 in
set_option maxHeartbeats 1000000 in
theorem awhen_any (w : World) (S : Nat → Prop) (base a id : Nat) (l : List En) (h : Al w S base a l) (hid : id < 18446744073709551616) : Calls Try.prog 49 #[.pointer (some ⟨a, 0, none⟩), .int .u64 (id : Int)] w fun e w' => e = .returned (whenV (timeOf id l)) ∧ w = w' := by
  obtain ⟨mb, A, n, c, d, f, h1, h2, h3⟩ := h.ex
  have hkey := key64 Try.underlying47 hid
  have hmc := h1.mc
  have HM := Lib.hid h1.mv
  rcases h1.find h3 id with ⟨ht, hf⟩ | ⟨i, hi, e, ht, hf⟩
  · have HF := Lib.hid hf
    rw [ht]
    clear h h1 h2 h3 ht hf
    go_enter Try.func49, Try.ntmps49
    go_wp2_with (at_lookup; refine wpList_mv2 _ rfl _ _ 136 rfl 47 141 u64_keyed Try.underlying136 (.pointer none) (zero_sleeper _) mb n f rfl HM.out id rfl hkey (.pointer none) false (by rw [HF.out]; rfl) (by rw [HF.out]; rfl) ?_)
    go_ret2
    exact ⟨rfl, rfl⟩
  · have HF := Lib.hid hf
    have h11 := (h1.hq.sl i hi).c1
    rw [ht]
    generalize d[i]!.b = xb at *
    generalize d[i]!.at_ = xa at *
    clear h h1 h2 h3 ht hf e
    go_enter Try.func49, Try.ntmps49
    go_wp2_with (at_lookup; refine wpList_mv2 _ rfl _ _ 136 rfl 47 141 u64_keyed Try.underlying136 (.pointer none) (zero_sleeper _) mb n f rfl HM.out id rfl hkey (.pointer (some ⟨xb, 0, none⟩)) true (by rw [HF.out]; rfl) (by rw [HF.out]; rfl) ?_)
    go_ret2
    exact ⟨rfl, rfl⟩
set_option maxRecDepth 100000 in
theorem awhen_nil (w : World) (id : Int) : Calls Try.prog 49 #[.pointer none, .int .u64 id] w fun e w' => e = .returned (.tuple #[.int .i64 0, .bool false]) ∧ w = w' := by
  go_enter Try.func49, Try.ntmps49
  go_wp2_with fail
  go_ret2
  exact ⟨rfl, rfl⟩
end Go.Proofs.Ytfmfamnngfanfaa
