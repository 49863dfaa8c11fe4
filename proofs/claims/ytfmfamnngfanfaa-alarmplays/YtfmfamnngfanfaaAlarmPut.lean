/-
  CONTRACT of an alarm's Set.
  No statement is proved here.
-/
import Derived.Test.YtfmfamnngfanfaaAlarmSet
namespace Go.Proofs.Ytfmfamnngfanfaa
open Go.RowKit Go.Sort Go.Maps

theorem set_get {d : Array Slp} {i : Nat} (x : Slp) (hi : i < d.size) (k : Nat) : (d.setIfInBounds i x)[k]! = if k = i then x else d[k]! := by
  by_cases hk : k < d.size
  · rw [getElem!_pos (d.setIfInBounds i x) k (by simpa using hk), getElem!_pos d k hk, Array.getElem_setIfInBounds hk]
    by_cases e : i = k
    · subst e; simp
    · rw [if_neg e, if_neg (fun h => e h.symm)]
  · rw [getElem!_neg (d.setIfInBounds i x) k (by simpa using hk), getElem!_neg d k hk, if_neg (by omega)]
theorem pvs_same {d : Array Slp} {i : Nat} {x : Slp} (hi : i < d.size) (hb : x.b = d[i]!.b) : pvs (d.setIfInBounds i x).toList = pvs d.toList := by
  rw [Array.toList_setIfInBounds]
  unfold pvs
  rw [List.map_set]
  apply List.ext_getElem?
  intro k
  by_cases e : i = k
  · subst e
    rw [List.getElem?_set_self (by simpa using hi)]
    rw [List.getElem?_map, List.getElem?_eq_getElem (by simpa using hi)]
    rw [getElem!_pos d i hi] at hb
    simp [pv, hb]
  · rw [List.getElem?_set_ne e]
theorem set_perm {id : Nat} {t at_ : Int} : ∀ (L : List En) (i : Nat), (ids L).Nodup → L[i]? = some (id, t) → (L.set i (id, at_)).Perm ((id, at_) :: without id L)
  | [], i, _, h => by simp at h
  | y :: L, 0, hn, h => by
    simp at h
    subst h
    have h1 := (List.nodup_cons.1 hn).1
    have h2 : without id ((id, t) :: L) = L := by
      unfold without
      rw [List.filter_cons_of_neg (by simp)]
      exact without_none (fun z hz e => h1 (by show id ∈ _; rw [← e]; exact List.mem_map_of_mem hz))
    rw [h2]
    exact .refl _
  | y :: L, i + 1, hn, h => by
    have h1 := List.nodup_cons.1 hn
    have h0 : L[i]? = some (id, t) := by simpa using h
    have ih := set_perm (at_ := at_) L i h1.2 h0
    have hy : y.1 ≠ id := fun e => h1.1 (by show y.1 ∈ _; rw [e]; exact List.mem_map.2 ⟨_, List.mem_of_getElem? h0, rfl⟩)
    have h2 : without id (y :: L) = y :: without id L := by
      unfold without
      rw [List.filter_cons_of_pos (by simpa using hy)]
    rw [h2, List.set_cons_succ]
    exact (ih.cons y).trans (.swap _ _ _)
section
variable {w w1 w2 w3 : World} {S : Nat → Prop} {base a mb n c : Nat} {A A' : Option Addr} {d d' : Array Slp} {f : Nat → Option Value} {l : List En}
/-- A sleeper's time is set anew. -/
theorem AlP.reset {i : Nat} (h : AlP w S base a mb A n c d f) (hi : i < n) (at_ : Int) : AlP (w.setCell ⟨d[i]!.b, 1, none⟩ (.int .i64 at_)) S base a mb A n c (d.setIfInBounds i ⟨d[i]!.b, d[i]!.id, at_⟩) f ∧ Only S w (w.setCell ⟨d[i]!.b, 1, none⟩ (.int .i64 at_)) := by
  have hz := h.hq.size
  have g := set_get (d := d) (i := i) ⟨d[i]!.b, d[i]!.id, at_⟩ (by omega)
  have hs := h.hq.sl i hi
  have ho := h.hq.out i hi
  have kp : ∀ k, k ≠ d[i]!.b → (w.setCell ⟨d[i]!.b, 1, none⟩ (.int .i64 at_)).heap[k]? = w.heap[k]? := fun k hk => RowKit.Below.heap_setCell w ⟨d[i]!.b, 1, none⟩ _ k hk
  have hmem : ∀ s ∈ (d.setIfInBounds i ⟨d[i]!.b, d[i]!.id, at_⟩).toList, ∃ t ∈ d.toList, t.b = s.b ∧ t.id = s.id := fun s hs => by
    obtain ⟨k, hk, rfl⟩ := mem_get hs
    have hk' : k < d.size := by simpa using hk
    refine ⟨_, get_mem hk', ?_⟩
    rw [g k]
    split
    · rename_i e; subst e; exact ⟨rfl, rfl⟩
    · exact ⟨rfl, rfl⟩
  have hmem2 : ∀ t ∈ d.toList, ∃ s ∈ (d.setIfInBounds i ⟨d[i]!.b, d[i]!.id, at_⟩).toList, s.b = t.b ∧ s.id = t.id := fun t ht => by
    obtain ⟨k, hk, rfl⟩ := mem_get ht
    refine ⟨_, get_mem (i := k) (by simpa using hk), ?_⟩
    rw [g k]
    split
    · rename_i e; subst e; exact ⟨rfl, rfl⟩
    · exact ⟨rfl, rfl⟩
  have hft : ∀ k, Ft A n c (d.setIfInBounds i ⟨d[i]!.b, d[i]!.id, at_⟩) k → Ft A n c d k := fun k hk => by
    rcases hk with hk | ⟨s, hs, e⟩
    · exact .inl hk
    · obtain ⟨t, ht, e1, _⟩ := hmem s hs
      exact .inr ⟨t, ht, e1.trans e⟩
  have hS : S d[i]!.b := h.sf _ (h.hq.ft hi)
  have hids : (d.setIfInBounds i ⟨d[i]!.b, d[i]!.id, at_⟩).toList.map (·.id) = d.toList.map (·.id) := by
    rw [Array.toList_setIfInBounds, List.map_set]
    apply List.ext_getElem?
    intro k
    by_cases e : i = k
    · subst e
      rw [List.getElem?_set_self (by simp; omega), List.getElem?_map, List.getElem?_eq_getElem (by simp; omega)]
      rw [getElem!_pos d i (by omega)]
      simp
    · rw [List.getElem?_set_ne e]
  refine ⟨⟨(World.cell?_of_block (a := ⟨a, 0, none⟩) (kp a (fun e => ho.1 e.symm))).trans h.mc, ⟨(World.cell?_of_block (a := ⟨a, 1, none⟩) (kp a (fun e => ho.1 e.symm))).trans h.hq.cell, (World.frozen?_of_block (a := ⟨a, 1, none⟩) (kp a (fun e => ho.1 e.symm))).trans h.hq.frz, ?_, h.hq.off, fun k hk => ?_, fun j k hj hk e => ?_, fun k hk => ?_⟩, h.mv.kept (kp mb (fun e => h.mf (by rw [e]; exact h.hq.ft hi))), fun s hs => ?_, fun k hk => ?_, by rw [hids]; exact h.nd, fun s hs => ?_, h.sa, h.sm, fun k hk => h.sf k (hft k hk), h.ma, fun hk => h.mf (hft _ hk), fun k hk => ?_⟩, ?_⟩
  · rw [pvs_same (x := ⟨d[i]!.b, d[i]!.id, at_⟩) (by omega) rfl]
    exact own_same h.hq.own (fun b hb => kp b (fun e => ho.2 (by rw [hb, e])))
  · rw [g k]
    by_cases e : k = i
    · subst e
      rw [if_pos rfl]
      exact ⟨(World.cell?_setCell_other _ _ _ _ (by simp)).trans hs.c0, World.cell?_setCell_same _ _ _ hs.c1, (World.cell?_setCell_other _ _ _ _ (by simp)).trans hs.c2, fun o => by rw [World.frozen?_setCell]; exact hs.fz o⟩
    · rw [if_neg e]
      exact (h.hq.sl k hk).kept (kp _ (fun e2 => e (h.hq.apart k i hk hi e2)))
  · rw [g j, g k] at e
    refine h.hq.apart j k hj hk ?_
    split at e <;> split at e <;> simp_all
  · rw [g k]
    split
    · exact ho
    · exact h.hq.out k hk
  · obtain ⟨t, ht, e1, e2⟩ := hmem s hs
    rw [← e1, ← e2]
    exact h.f1 t ht
  · refine h.f0 k (fun t ht e => ?_)
    obtain ⟨s, hs, _, e2⟩ := hmem2 t ht
    exact hk s hs (e2.trans e)
  · obtain ⟨t, ht, _, e2⟩ := hmem s hs
    rw [← e2]
    exact h.idl t ht
  · have := h.sl k hk
    exact ⟨this.1, by simpa using this.2⟩
  · exact (Only.setCell w _ 1 _).mono (fun k _ e => by rw [e]; exact hS)
theorem AlP.reset_perm {i : Nat} (h : AlP w S base a mb A n c d f) (hp : (d.toList.map Slp.en).Perm l) (hi : i < n) (at_ : Int) : ((d.setIfInBounds i ⟨d[i]!.b, d[i]!.id, at_⟩).toList.map Slp.en).Perm (setE d[i]!.id at_ l) := by
  have hz := h.hq.size
  have hn : (ids (d.toList.map Slp.en)).Nodup := by
    unfold ids
    rw [List.map_map]
    exact h.nd
  have h1 := set_perm (id := d[i]!.id) (t := d[i]!.at_) (at_ := at_) (d.toList.map Slp.en) i hn (by
    rw [List.getElem?_map, List.getElem?_eq_getElem (by simp; omega), getElem!_pos d i (by omega)]
    simp [Slp.en])
  rw [Array.toList_setIfInBounds, List.map_set]
  refine h1.trans (List.Perm.trans ?_ (ins_perm _ _).symm)
  exact (hp.filter _).cons _
theorem AlP.reset_fix {i : Nat} (h : AlP w S base a mb A n c d f) (hh : Heap lessA d n) (hi : i < n) (at_ : Int) : FixInv lessA (d.setIfInBounds i ⟨d[i]!.b, d[i]!.id, at_⟩) n i := by
  have hz := h.hq.size
  exact fix_of lessA_wk hh (Nat.le_refl _) (fun k _ hki => by rw [set_get _ (by omega), if_neg hki])
/-- A new sleeper has come. -/
theorem AlP.grow {n' c' : Nat} {x : Slp} (h : AlP w S base a mb A n c d f) (hxb : x.b = w.heap.size) (hid : x.id < 18446744073709551616) (hno : ∀ s ∈ d.toList, s.id ≠ x.id) (hw1 : RowKit.Below w.heap.size w w1) (hm : Mv Try.prog 47 w2 mb n' (putF f x.id (.pointer (some ⟨x.b, 0, none⟩)))) (hn' : n' = n + 1) (ho2 : Only (fun k => k = mb) w1 w2)
    (hq : Hq w3 base a A' (n + 1) c' d') (hp : d'.toList.Perm (x :: d.toList)) (hn : Near w2 A A') (ho : Only (fun k => k = x.b ∨ Fa a A n c d k) w2 w3) (hk : Keep0 a w2 w3) :
    AlP w3 (fun k => S k ∨ (w.heap.size ≤ k ∧ k < w3.heap.size)) base a mb A' (n + 1) c' d' (putF f x.id (.pointer (some ⟨x.b, 0, none⟩))) ∧ Only S w w3 := by
  subst hn'
  have hz12 : w.heap.size ≤ w2.heap.size := Nat.le_trans hw1.size ho2.size
  have hmbl := h.mv.lt
  have hal := h.hq.lt
  have hS : Only S w w3 := ((Only.of_below (S := S) hw1).trans (ho2.mono (fun k _ e => by rw [e]; exact h.sm)) (fun _ _ k => k)).trans ho (fun k hk e => by
    rcases e with e | e | e
    · omega
    · rw [e]; exact h.sa
    · exact h.sf k e)
  have hbase : base ≤ w.heap.size := by have := h.sl a h.sa; omega
  have hft : ∀ k, k < w3.heap.size → Ft A' (n + 1) c' d' k → (S k ∨ (w.heap.size ≤ k ∧ k < w3.heap.size)) ∧ (k < w.heap.size → Ft A n c d k) := fun k hk3 hk => by
    have hk2 : Ft A n c d k ∨ w.heap.size ≤ k := by
      rcases hk with hk | ⟨s, hs, e⟩
      · rcases hn with rfl | ⟨b, rfl, hb⟩
        · exact .inl (.inl (by rw [own_block _ n c (n + 1) c']; exact hk))
        · simp [Value.ownBlock] at hk
          exact .inr (by omega)
      · rcases List.mem_cons.1 (hp.mem_iff.1 hs) with rfl | hs
        · exact .inr (by omega)
        · exact .inl (.inr ⟨s, hs, e⟩)
    rcases hk2 with hk2 | hk2
    · exact ⟨.inl (h.sf k hk2), fun _ => hk2⟩
    · exact ⟨.inr ⟨hk2, hk3⟩, fun e => by omega⟩
  have hftl : ∀ k, Ft A' (n + 1) c' d' k → k < w3.heap.size := fun k hk => by
    rcases hk with hk | ⟨s, hs, e⟩
    · exact (hq.own.lt k hk).2
    · obtain ⟨i, hi, rfl⟩ := mem_get hs
      rw [← e]
      exact (hq.sl i (by rw [← hq.size]; exact hi)).lt
  refine ⟨⟨Eq.trans hk ((World.cell?_of_block (a := ⟨a, 0, none⟩) (ho2.block a (Nat.lt_of_lt_of_le hal hw1.size) (fun e => h.ma e.symm))).trans ((World.cell?_of_block (a := ⟨a, 0, none⟩) (hw1.block a hal)).trans h.mc)), hq, hm.kept (ho.block mb hm.lt (fun e => ?_)), fun s hs => ?_, fun k hk => ?_, ?_, fun s hs => ?_, .inl h.sa, .inl h.sm, fun k hk => (hft k (hftl k hk) hk).1, h.ma, fun hk => h.mf ((hft mb (hftl mb hk) hk).2 hmbl), fun k hk => ?_⟩, hS⟩
  · rcases e with e | e | e
    · omega
    · exact h.ma e
    · exact h.mf e
  · unfold putF
    rcases List.mem_cons.1 (hp.mem_iff.1 hs) with rfl | hs
    · rw [if_pos rfl]
    · rw [if_neg (hno s hs)]; exact h.f1 s hs
  · unfold putF
    have h1 := hk x (hp.mem_iff.2 List.mem_cons_self)
    rw [if_neg (fun e => h1 e.symm)]
    exact h.f0 k (fun s hs => hk s (hp.mem_iff.2 (List.mem_cons_of_mem _ hs)))
  · rw [(hp.map (·.id)).nodup_iff, List.map_cons, List.nodup_cons]
    refine ⟨fun hm => ?_, h.nd⟩
    obtain ⟨s, hs, e⟩ := List.mem_map.1 hm
    exact hno s hs e
  · rcases List.mem_cons.1 (hp.mem_iff.1 hs) with rfl | hs
    · exact hid
    · exact h.idl s hs
  · have h3 := hS.size
    rcases hk with hk | hk
    · have := h.sl k hk
      exact ⟨this.1, by omega⟩
    · exact ⟨by omega, hk.2⟩
end
def ASet (w : World) (S : Nat → Prop) (base a id : Nat) (at_ : Int) (l : List En) (e : Ending) (w' : World) : Prop :=
  e = .returned (.tuple #[]) ∧ ∃ S', Al w' S' base a (setE id at_ l) ∧ Only S w w' ∧ ∀ k, S' k → S k ∨ w.heap.size ≤ k
set_option maxRecDepth 100000 in
set_option maxHeartbeats 4000000 in
theorem aset_any (w : World) (S : Nat → Prop) (base a id : Nat) (at_ : Int) (l : List En) (h : Al w S base a l) (hid : id < 18446744073709551616) (hn : l.length ≤ 90000) : Calls Try.prog 46 #[.pointer (some ⟨a, 0, none⟩), .int .u64 (id : Int), .int .i64 at_] w (ASet w S base a id at_ l) := by
  obtain ⟨mb, A, n, c, d, f, h1, h2, h3⟩ := h.ex
  have hkey := key64 Try.underlying47 hid
  have hmc := h1.mc
  have hln := h1.len h3
  have HM := Lib.hid h1.mv
  rcases h1.find h3 id with ⟨ht, hf⟩ | ⟨i, hi, e, ht, hf⟩
  · have HF := Lib.hid hf
    have H1 := Lib.hid h1
    have H2 := Lib.hid h2
    have H3 := Lib.hid h3
    have HW : Hid (without id l = l) := without_none (timeOf_none.1 ht)
    have HNO : Hid (∀ s ∈ d.toList, s.id ≠ id) := fun s hs e => by
      have := h1.f1 s hs
      rw [e, hf] at this
      cases this
    have hal := h1.hq.lt
    have hml := h1.mv.lt
    have hb0 : base ≤ w.heap.size := by have := h1.sl a h1.sa; omega
    obtain ⟨o, HOB⟩ : ∃ o, Hid (o = Obj.cells #[.int .u64 (id : Int), .int .i64 at_, .int .i64 0] 145) := ⟨_, rfl⟩
    have hB := below_box w (.cells #[.int .u64 (id : Int), .int .i64 at_, .int .i64 0] 145)
    have HB := Lib.hid hB
    have hmc1 : (w.alloc (.cells #[.int .u64 (id : Int), .int .i64 at_, .int .i64 0] 145)).cell? ⟨a, 0, none⟩ = some (.map (some mb)) := (hB.cell (p := ⟨a, 0, none⟩) hal).trans hmc
    have HX1 : Hid (Ha (w.alloc (.cells #[.int .u64 (id : Int), .int .i64 at_, .int .i64 0] 145)) ⟨w.heap.size, id, at_⟩ 0) := ⟨cell_last _ _ _ _ 0 rfl, cell_last _ _ _ _ 1 rfl, cell_last _ _ _ _ 2 rfl, fun o => frz_blk (heap_alloc_new _ _)⟩
    have HA1 := Lib.hid (h1.below hB)
    have HMX : Hid (n < maxLen) := by show n < maxLen; unfold maxLen; omega
    clear h h1 h2 h3 ht hf hB
    go_enter Try.func46, Try.ntmps46
    go_wp2_with (first | (at_lookup; refine wpList_mv2 _ rfl _ _ 136 rfl 47 141 u64_keyed Try.underlying136 (.pointer none) (zero_sleeper _) mb n f rfl HM.out id rfl hkey (.pointer none) false (by rw [HF.out]; rfl) (by rw [HF.out]; rfl) ?_) | (at_mapUpdate; refine wpList_mvPut _ rfl _ _ _ 136 rfl 47 141 u64_keyed Try.underlying136 mb n f rfl HA1.out.mv HMX.out id _ rfl rfl hkey ?_; intro w2 hm2 ho2; have HM2 := Lib.hid hm2; have HO2 := Lib.hid ho2; clear hm2 ho2))
    have HQ2 : Hid (Hq w2 base a A n c d) := HA1.out.hq.only HO2.out (fun k _ e => by subst e; exact ⟨HA1.out.ma, HA1.out.mf⟩)
    have HX2 : Hid (Ha w2 ⟨w.heap.size, id, at_⟩ 0) := HX1.out.kept (HO2.out.block _ HX1.out.lt (fun e => by have e2 : w.heap.size = mb := e; omega))
    have hps := ahpush_any w2 base a A n c 0 d ⟨w.heap.size, id, at_⟩ HQ2.out H2.out HX2.out (fun e => by have e2 : w.heap.size = a := e; omega) (fun k => by have := H1.out.sl _ (H1.out.sf _ k); have e2 : w.heap.size < w.heap.size := this.2; omega) (by have := HO2.out.size; have := HB.out.size; omega) (by omega)
    unfold hva at hps
    have HPS := Lib.hid hps
    clear hps hmc1
    refine HPS.out.mono ?_
    rintro e w3 ⟨rfl, A', c', d', hq3, hh3, hp3, hn3, ho3, hk3⟩
    have hg := H1.out.grow (x := ⟨w.heap.size, id, at_⟩) rfl hid HNO.out HB.out HM2.out (by rw [HF.out]; rfl) HO2.out hq3 hp3 hn3 ho3 hk3
    have HG := Lib.hid hg
    have HH3 := Lib.hid hh3
    have HP3 := Lib.hid hp3
    clear hq3 hh3 hp3 hn3 ho3 hk3 hg
    go_wp2_with fail
    go_end0
    refine ⟨rfl, _, ⟨mb, A', n + 1, c', d', _, HG.out.1, HH3.out, ?_⟩, HG.out.2, fun k hk => ?_⟩
    · unfold setE
      rw [HW.out]
      refine (HP3.out.map Slp.en).trans (List.Perm.trans ?_ (ins_perm _ _).symm)
      exact H3.out.cons _
    · rcases hk with hk | hk
      · exact .inl hk
      · exact .inr hk.1
  · have HF := Lib.hid hf
    have hrs := h1.reset hi at_
    have hpm := h1.reset_perm h3 hi at_
    have hfx := h1.reset_fix h2 hi at_
    obtain ⟨rb, rfl⟩ := h1.hq.row (by omega)
    have hc1 := (h1.hq.sl i hi).c1
    have hfz := (h1.hq.sl i hi).fz 1
    rw [e] at hrs hpm hfx
    have hc2 := (hrs.1.hq.sl i hi).c2
    rw [set_get _ (by rw [h1.hq.size]; exact hi), if_pos rfl] at hc2
    simp only at hc2
    have hSl := h1.sl
    generalize d[i]!.b = xb at *
    generalize d.setIfInBounds i ⟨xb, id, at_⟩ = d1 at *
    have HRS := Lib.hid hrs
    have HPM := Lib.hid hpm
    have HFX := Lib.hid hfx
    clear h h1 h2 h3 ht hf e hrs hpm hfx
    go_enter Try.func46, Try.ntmps46
    go_wp2_with (at_lookup; refine wpList_mv2 _ rfl _ _ 136 rfl 47 141 u64_keyed Try.underlying136 (.pointer none) (zero_sleeper _) mb n f rfl HM.out id rfl hkey (.pointer (some ⟨xb, 0, none⟩)) true (by rw [HF.out]; rfl) (by rw [HF.out]; rfl) ?_)
    generalize w.setCell ⟨xb, 1, none⟩ (.int .i64 at_) = w1 at *
    refine wp_region_noPanic ?_
    refine wp_region_F (S := (fun w' => w'.cell? ⟨xb, 2, none⟩ = some (.int .i64 (i : Int)))) (F := (fun j => j == 8)) (by kernel_rfl) hc2 (fun hHeld => ?_)
    refine wpAnyF_take0 (i := 0) (oi := { dst := some 25, op := Op.move (Operand.tmp 0), type := 81, pos := "alarm.go:39", after := #[], guard := none }) (v := ?_) rfl (by kernel_rfl) (by kernel_rfl) (by kernel_rfl) (fun _ _ _ h => h) (Or.inl ⟨by rfl, ?_⟩) ?_
    rotate_left
    · intro w hSw; (try dsimp only at hSw); first | (go_simp; done) | (go_simp; with_reducible rfl)
    try simp only [Act.put, List.setIfInBounds_toArray, List.set_cons_zero, List.set_cons_succ]
    refine wpAnyF_take0 (i := 1) (oi := { dst := some 26, op := Op.nilCheck (Operand.tmp 25), type := 0, pos := "alarm.go:39", after := #[{ on := 0, ground := Ground.data }], guard := none }) (v := ?_) rfl (by kernel_rfl) (by kernel_rfl) (by kernel_rfl) (fun _ _ _ h => h) (Or.inl ⟨by rfl, ?_⟩) ?_
    rotate_left
    · intro w hSw; (try dsimp only at hSw); first | (go_simp; done) | (go_simp; with_reducible rfl)
    try simp only [Act.put, List.setIfInBounds_toArray, List.set_cons_zero, List.set_cons_succ]
    refine wpAnyF_take0 (i := 2) (oi := { dst := some 27, op := Op.fieldAddr 140 (Operand.tmp 26) 1, type := 0, pos := "alarm.go:39", after := #[{ on := 1, ground := Ground.data }], guard := none }) (v := ?_) rfl (by kernel_rfl) (by kernel_rfl) (by kernel_rfl) (fun _ _ _ h => h) (Or.inl ⟨by rfl, ?_⟩) ?_
    rotate_left
    · intro w hSw; (try dsimp only at hSw); first | (go_simp; done) | (go_simp; with_reducible rfl)
    try simp only [Act.put, List.setIfInBounds_toArray, List.set_cons_zero, List.set_cons_succ]
    refine wpAnyF_take0 (i := 3) (oi := { dst := some 28, op := Op.makeInterface 147 (Operand.tmp 27), type := 170, pos := "alarm.go:39", after := #[{ on := 2, ground := Ground.data }], guard := none }) (v := ?_) rfl (by kernel_rfl) (by kernel_rfl) (by kernel_rfl) (fun _ _ _ h => h) (Or.inl ⟨by rfl, ?_⟩) ?_
    rotate_left
    · intro w hSw; (try dsimp only at hSw); first | (go_simp; done) | (go_simp; with_reducible rfl)
    try simp only [Act.put, List.setIfInBounds_toArray, List.set_cons_zero, List.set_cons_succ]
    refine wpAnyF_take0 (i := 4) (oi := { dst := some 29, op := Op.move (Operand.tmp 6), type := 141, pos := "alarm.go:39", after := #[], guard := none }) (v := ?_) rfl (by kernel_rfl) (by kernel_rfl) (by kernel_rfl) (fun _ _ _ h => h) (Or.inl ⟨by rfl, ?_⟩) ?_
    rotate_left
    · intro w hSw; (try dsimp only at hSw); first | (go_simp; done) | (go_simp; with_reducible rfl)
    try simp only [Act.put, List.setIfInBounds_toArray, List.set_cons_zero, List.set_cons_succ]
    refine wpAnyF_take0 (i := 5) (oi := { dst := some 30, op := Op.nilCheck (Operand.tmp 29), type := 0, pos := "alarm.go:39", after := #[{ on := 4, ground := Ground.data }], guard := none }) (v := ?_) rfl (by kernel_rfl) (by kernel_rfl) (by kernel_rfl) (fun _ _ _ h => h) (Or.inl ⟨by rfl, ?_⟩) ?_
    rotate_left
    · intro w hSw; (try dsimp only at hSw); first | (go_simp; done) | (go_simp; with_reducible rfl)
    try simp only [Act.put, List.setIfInBounds_toArray, List.set_cons_zero, List.set_cons_succ]
    refine wpAnyF_take0 (i := 6) (oi := { dst := some 31, op := Op.fieldAddr 145 (Operand.tmp 30) 2, type := 0, pos := "alarm.go:39", after := #[{ on := 5, ground := Ground.data }], guard := none }) (v := ?_) rfl (by kernel_rfl) (by kernel_rfl) (by kernel_rfl) (fun _ _ _ h => h) (Or.inl ⟨by rfl, ?_⟩) ?_
    rotate_left
    · intro w hSw; (try dsimp only at hSw); first | (go_simp; done) | (go_simp; with_reducible rfl)
    try simp only [Act.put, List.setIfInBounds_toArray, List.set_cons_zero, List.set_cons_succ]
    refine wpAnyF_take (i := 7) (oi := { dst := some 32, op := Op.load 3 (Operand.tmp 31), type := 3, pos := "alarm.go:39", after := #[{ on := 6, ground := Ground.data }], guard := none }) (v := ?_) (fun j hj => by simp only [beq_iff_eq] at hj; subst hj; exact of_decide_eq_true (by kernel_rfl)) rfl (by kernel_rfl) (by kernel_rfl) (by kernel_rfl) (by kernel_rfl) (by kernel_rfl) (fun _ _ _ h => h) (Or.inl ⟨by rfl, ?_⟩) (by assumption) ?_
    rotate_left
    · intro w hSw; (try dsimp only at hSw); first | (go_simp; done) | (go_simp; with_reducible rfl)
    try simp only [Act.put, List.setIfInBounds_toArray, List.set_cons_zero, List.set_cons_succ]
    refine wpAnyF_oneF (i := 8) (o := { dst := some 33, op := Op.call { callee := Callee.value (Operand.func 75), args := #[Operand.tmp 28, Operand.tmp 32], argTypes := #[170, 3] }, type := 0, pos := "alarm.go:39", after := #[{ on := 3, ground := Ground.data }, { on := 7, ground := Ground.data }], guard := none }) (by kernel_rfl) (by kernel_rfl) rfl (fun K hK => ?_)
    go_simp
    go_at_call 75
    have hfa := afix_any w1.drew base a rb n c i d1 (HRS.out.1.hq.only (Only.refl (fun _ => False) w1).drew (fun _ _ k => k.elim)) HFX.out hi (by omega)
    unfold hva at hfa
    have HFA := Lib.hid hfa
    clear hfa
    with_reducible refine HFA.out.mono ?_
    rintro e w5 ⟨rfl, d', h5, hh5, hp5, ho5⟩
    have HH5 := Lib.hid hh5
    have HP5 := Lib.hid hp5
    have hon5 := (Only.refl (Ft (some ⟨rb, 0, none⟩) n c d1) w1).drew.trans ho5 (fun _ _ k => k)
    have HA5 := Lib.hid (HRS.out.1.heaped h5 hp5 hon5)
    have HO5 := Lib.hid (HRS.out.2.trans hon5 (fun k _ hk => HRS.out.1.sf k hk))
    clear h5 hh5 hp5 ho5 hon5
    try go_wp2_with fail
    refine hK.out _ _ ?_
    clear hK K
    try simp only [Act.put, List.setIfInBounds_toArray, List.set_cons_zero, List.set_cons_succ]
    refine wpAnyF_done (by kernel_rfl) ?_ _
    refine NoPanic.normal ?_
    go_wp2
    go_end0
    refine ⟨rfl, S, ⟨mb, _, n, c, d', f, HA5.out, HH5.out, (HP5.out.map _).trans HPM.out⟩, HO5.out, fun k hk => .inl hk⟩
set_option maxRecDepth 100000 in
theorem aset_nil (w : World) (id at_ : Int) : Calls Try.prog 46 #[.pointer none, .int .u64 id, .int .i64 at_] w fun e w' => e = .returned (.tuple #[]) ∧ w = w' := by
  go_enter Try.func46, Try.ntmps46
  go_wp2_with fail
  exact bodyPost_ret (v := .tuple #[]) (by simp [results, Try.results46, go_sem]) rfl ⟨rfl, rfl⟩
end Go.Proofs.Ytfmfamnngfanfaa
