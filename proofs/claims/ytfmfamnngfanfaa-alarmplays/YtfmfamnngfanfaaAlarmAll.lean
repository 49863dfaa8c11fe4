/-
  AN ALARM in memory; CONTRACTS of its New, Len, Next, When, forget, Clear, Set.
  No statement is proved here.
-/
import Derived.Test.YtfmfamnngfanfaaAlarmHeap
namespace Go.Proofs.Ytfmfamnngfanfaa
open Go.RowKit Go.Sort Go.Maps

theorem frz_blk {w : World} {r i : Nat} {cs : Array Value} {t : TypeId} (h : w.heap[r]? = some (.cells cs t (0, 0))) : w.frozen? ⟨r, i, none⟩ = false := by simp [World.frozen?, h]
theorem u64_keyed : Keyed Try.prog 47 := int_keyed Try.underlying47
theorem zero_sleeper (w : World) : (zeroValue 141).run Try.prog w = .ok (.pointer none) w := by kernel_rfl
/-- An alarm: block a; its map's block; its line; S: whatever blocks it may have. -/
structure AlP (w : World) (S : Nat → Prop) (base a mb : Nat) (A : Option Addr) (n c : Nat) (d : Array Slp) (f : Nat → Option Value) : Prop where
  mc : w.cell? ⟨a, 0, none⟩ = some (.map (some mb))
  hq : Hq w base a A n c d
  mv : Mv Try.prog 47 w mb n f
  f1 : ∀ s ∈ d.toList, f s.id = some (.pointer (some ⟨s.b, 0, none⟩))
  f0 : ∀ k, (∀ s ∈ d.toList, s.id ≠ k) → f k = none
  nd : (d.toList.map (·.id)).Nodup
  idl : ∀ s ∈ d.toList, s.id < 18446744073709551616
  sa : S a
  sm : S mb
  sf : ∀ k, Ft A n c d k → S k
  ma : mb ≠ a
  mf : ¬ Ft A n c d mb
  sl : ∀ k, S k → base ≤ k ∧ k < w.heap.size
/-- .. of which these have a time. -/
structure Al (w : World) (S : Nat → Prop) (base a : Nat) (l : List En) : Prop where
  ex : ∃ mb A n c d f, AlP w S base a mb A n c d f ∧ Heap lessA d n ∧ (d.toList.map Slp.en).Perm l
section
variable {w w' : World} {S Q : Nat → Prop} {base a mb n c : Nat} {A : Option Addr} {d : Array Slp} {f : Nat → Option Value} {l : List En}
theorem AlP.only (h : AlP w S base a mb A n c d f) (ho : Only Q w w') (hq : ∀ k, k < w.heap.size → Q k → ¬ S k) : AlP w' S base a mb A n c d f :=
  ⟨(World.cell?_of_block (a := ⟨a, 0, none⟩) (ho.block a h.hq.lt (fun k => hq a h.hq.lt k h.sa))).trans h.mc, h.hq.only ho (fun k hk hQ => ⟨fun e => hq k hk hQ (by rw [e]; exact h.sa), fun e => hq k hk hQ (h.sf k e)⟩),
    h.mv.kept (ho.block mb h.mv.lt (fun k => hq mb h.mv.lt k h.sm)), h.f1, h.f0, h.nd, h.idl, h.sa, h.sm, h.sf, h.ma, h.mf, fun k hk => ⟨(h.sl k hk).1, Nat.lt_of_lt_of_le (h.sl k hk).2 ho.size⟩⟩
theorem AlP.below (h : AlP w S base a mb A n c d f) (hb : RowKit.Below w.heap.size w w') : AlP w' S base a mb A n c d f := h.only (Only.of_below (S := fun _ => False) hb) (fun _ _ k => k.elim)
theorem Al.only (h : Al w S base a l) (ho : Only Q w w') (hq : ∀ k, k < w.heap.size → Q k → ¬ S k) : Al w' S base a l := by
  obtain ⟨mb, A, n, c, d, f, h1, h2, h3⟩ := h.ex
  exact ⟨mb, A, n, c, d, f, h1.only ho hq, h2, h3⟩
theorem Al.below (h : Al w S base a l) (hb : RowKit.Below w.heap.size w w') : Al w' S base a l := h.only (Only.of_below (S := fun _ => False) hb) (fun _ _ k => k.elim)
theorem Al.sl (h : Al w S base a l) : ∀ k, S k → base ≤ k ∧ k < w.heap.size := by
  obtain ⟨mb, A, n, c, d, f, h1, _⟩ := h.ex
  exact h1.sl
theorem AlP.len (h : AlP w S base a mb A n c d f) (hp : (d.toList.map Slp.en).Perm l) : l.length = n := by
  have := hp.length_eq
  have := h.hq.size
  simp at *
  omega
theorem AlP.ids_nd (h : AlP w S base a mb A n c d f) (hp : (d.toList.map Slp.en).Perm l) : (ids l).Nodup := by
  unfold ids
  rw [← (hp.map (·.1)).nodup_iff, List.map_map]
  exact h.nd
/-- Somebody's time, and his sleeper. -/
theorem AlP.find (h : AlP w S base a mb A n c d f) (hp : (d.toList.map Slp.en).Perm l) (id : Nat) :
    (timeOf id l = none ∧ f id = none) ∨ ∃ i, i < n ∧ d[i]!.id = id ∧ timeOf id l = some d[i]!.at_ ∧ f id = some (.pointer (some ⟨d[i]!.b, 0, none⟩)) := by
  by_cases hs : ∃ s ∈ d.toList, s.id = id
  · obtain ⟨s, hs, e⟩ := hs
    obtain ⟨i, hi, rfl⟩ := mem_get hs
    refine .inr ⟨i, by rw [← h.hq.size]; exact hi, e, ?_, by rw [← e]; exact h.f1 _ hs⟩
    rw [timeOf_mem (h.ids_nd hp), ← hp.mem_iff]
    exact List.mem_map.2 ⟨_, hs, by unfold Slp.en; rw [e]⟩
  · refine .inl ⟨timeOf_none.2 (fun y hy e => ?_), h.f0 id (fun s hm e => hs ⟨s, hm, e⟩)⟩
    obtain ⟨s, hm, e2⟩ := List.mem_map.1 (hp.mem_iff.2 hy)
    exact hs ⟨s, hm, by rw [← e, ← e2]; rfl⟩
end
/-- The alarm on its own, made new. -/
def ANew (w : World) (e : Ending) (w' : World) : Prop :=
  ∃ a S, e = .returned (.pointer (some ⟨a, 0, none⟩)) ∧ Al w' S w.heap.size a [] ∧ RowKit.Below w.heap.size w w'
theorem anew_end (w : World) : Al ((w.alloc (.map #[] 0)).alloc (.cells #[.map (some w.heap.size), .slice none 0 0] 140)) (fun k => k = w.heap.size ∨ k = w.heap.size + 1) w.heap.size (w.heap.size + 1) [] ∧ RowKit.Below w.heap.size w ((w.alloc (.map #[] 0)).alloc (.cells #[.map (some w.heap.size), .slice none 0 0] 140)) := by
  have b1 := below_box w (.map #[] 0)
  have s1 : (w.alloc (.map #[] 0)).heap.size = w.heap.size + 1 := by simp
  have b2 := below_box (w.alloc (.map #[] 0)) (.cells #[.map (some w.heap.size), .slice none 0 0] 140)
  refine ⟨⟨w.heap.size, none, 0, 0, #[], fun _ => none, ⟨cell_last _ _ _ _ 0 s1, ⟨cell_last _ _ _ _ 1 s1, ?_, World.ownsRow_nil _ _ _ _, by simp [Value.ownBlock], fun i hi => absurd hi (by omega), fun i j hi => absurd hi (by omega), fun i hi => absurd hi (by omega)⟩, ?_, ?_, fun _ _ => rfl, ?_, ?_, .inr rfl, .inl rfl, ?_, by omega, ?_, ?_⟩, fun k h0 hk => absurd hk (by omega), List.Perm.refl _⟩, b1.trans (b2.mono (by omega))⟩
  · exact frz_blk (i := 1) (by rw [← s1]; exact heap_alloc_new _ _)
  · exact (Mv.made _ _ w).kept (RowKit.Below.heap_alloc _ _ _ (by omega))
  · intro s hs; simp at hs
  · simp
  · intro s hs; simp at hs
  · intro k hk
    rcases hk with hk | ⟨s, hs, _⟩
    · simp [Value.ownBlock] at hk
    · simp at hs
  · intro hk
    rcases hk with hk | ⟨s, hs, _⟩
    · simp [Value.ownBlock] at hk
    · simp at hs
  · intro k hk
    simp only [World.size_alloc]
    omega
set_option maxRecDepth 100000 in
set_option maxHeartbeats 1000000 in
theorem anew_any (w : World) : Calls Try.prog 39 #[] w (ANew w) := by
  have hmm := @run_makeMap Try.prog
  go_enter Try.func39, Try.ntmps39
  go_wp2_with fail
  go_ret
  exact ⟨_, _, rfl, (anew_end w).1, (anew_end w).2⟩
end Go.Proofs.Ytfmfamnngfanfaa
