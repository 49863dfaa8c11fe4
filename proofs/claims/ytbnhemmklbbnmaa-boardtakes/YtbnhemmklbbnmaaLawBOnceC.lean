/-
  WALK of BoardOnce.
-/
import Derived.Test.YtbnhemmklbbnmaaBoardPC
import Derived.Test.YtbnhemmklbbnmaaBdLot20
import Derived.Test.YtbnhemmklbbnmaaBdLot11
import Derived.Deep.CutRange
namespace Go.Proofs.Ytbnhemmklbbnmaa
open Go.RowKit Go.Sort Go.Maps

theorem send_fl (f m : Nat) (now : Int) (l : List Nat) (p : Pb) (x : Nat) : x ∈ (sendP f m now l p).fl ↔ x ∈ p.fl ∨ x ∈ l := by
  unfold sendP
  by_cases h : newL p.fl l = []
  · rw [if_pos h]
    refine ⟨.inl, fun h2 => h2.elim id fun h3 => ?_⟩
    rcases Decidable.em (x ∈ p.fl) with e | e
    · exact e
    · have := (newL_mem p.fl l x).2 ⟨h3, e⟩
      rw [h] at this
      cases this
  · rw [if_neg h]
    simp only
    rw [sortN_mem, List.mem_append, newL_mem]
    constructor
    · rintro (h1 | h1)
      · exact .inl h1
      · exact .inr h1.1
    · rintro (h1 | h1)
      · exact .inl h1
      · rcases Decidable.em (x ∈ p.fl) with e | e
        · exact .inl e
        · exact .inr ⟨h1, e⟩
theorem send_last (f m : Nat) (now : Int) (l : List Nat) (p : Pb) : (sendP f m now l p).last ≤ p.last + 1 := by
  unfold sendP
  split
  · omega
  · exact Nat.le_refl _
theorem send_len (f m : Nat) (now : Int) (l : List Nat) (p : Pb) : (sendP f m now l p).fl.length ≤ p.fl.length + l.length := by
  unfold sendP
  split
  · omega
  · show (sortN (p.fl ++ newL p.fl l)).length ≤ _
    rw [show (sortN (p.fl ++ newL p.fl l)).length = (p.fl ++ newL p.fl l).length from (List.mergeSort_perm _ _).length_eq, List.length_append]
    have := newL_len p.fl l
    omega
theorem send_tries (f m : Nat) (now : Int) (l : List Nat) (p : Pb) (h : ∀ g ∈ p.V, g.2.1 = 1) : ∀ g ∈ (sendP f m now l p).V, g.2.1 = 1 := by
  unfold sendP
  split
  · exact h
  · intro g hg
    rcases List.mem_append.1 hg with hg | hg
    · exact h g hg
    · rw [List.mem_singleton] at hg
      subst hg
      rfl
theorem send_E (f m : Nat) (now t : Int) (ht : now + (wt f m 0 : Nat) = t) (l : List Nat) (p : Pb) (h : ∀ e ∈ p.E, e.2 = t) : ∀ e ∈ (sendP f m now l p).E, e.2 = t := by
  unfold sendP
  split
  · exact h
  · intro e he
    unfold setE at he
    rcases ins_mem.1 he with rfl | he
    · exact ht
    · exact h e (without_mem.1 he).1
theorem due_all {E : List En} {now : Int} (h : ∀ e ∈ E, e.2 ≤ now) : dueE now E = E ∧ restE now E = [] := by
  unfold dueE restE
  induction E with
  | nil => exact ⟨rfl, rfl⟩
  | cons e E ih =>
    have h1 : decide (e.2 ≤ now) = true := by simpa using h e List.mem_cons_self
    have h2 := ih fun z hz => h z (List.mem_cons_of_mem _ hz)
    rw [List.takeWhile_cons_of_pos (p := fun e : En => decide (e.2 ≤ now)) h1, List.dropWhile_cons_of_pos (p := fun e : En => decide (e.2 ≤ now)) h1, h2.1, h2.2]
    exact ⟨rfl, rfl⟩
theorem memV_of {V : List Gw} (hn : (V.map (·.1)).Nodup) {g : Gw} (hg : g ∈ V) : memV g.1 V = g.2.2 := by
  unfold memV
  have : V.find? (fun x => x.1 == g.1) = some g := by
    induction V with
    | nil => cases hg
    | cons z V ih =>
      rw [List.map_cons, List.nodup_cons] at hn
      rcases List.mem_cons.1 hg with rfl | hg'
      · rw [List.find?_cons_of_pos (by simp)]
      · rw [List.find?_cons_of_neg]
        · exact ih hn.2 hg'
        · simp only [beq_iff_eq]
          exact fun e => hn.1 (List.mem_map.2 ⟨g, hg', e.symm⟩)
  rw [this]
  rfl
def rowsOf (V : List Gw) (qs : List Nat) : List (List Nat) := qs.map (fun q => sortN (memV q V))
theorem rows_mem {p : Pb} (h : Pok p) (x : Nat) : x ∈ (rowsOf p.V (ids p.E)).flatten ↔ x ∈ p.fl := by
  rw [List.mem_flatten, h.hd]
  unfold rowsOf
  constructor
  · rintro ⟨l, hl, hx⟩
    obtain ⟨q, hq, rfl⟩ := List.mem_map.1 hl
    obtain ⟨g, hg, rfl⟩ := List.mem_map.1 (h.ie.subset hq)
    rw [sortN_mem, memV_of h.nd hg] at hx
    exact ⟨g, hg, hx⟩
  · rintro ⟨g, hg, hx⟩
    refine ⟨sortN (memV g.1 p.V), List.mem_map.2 ⟨g.1, h.ie.symm.subset (List.mem_map.2 ⟨g, hg, rfl⟩), rfl⟩, ?_⟩
    rw [sortN_mem, memV_of h.nd hg]
    exact hx
theorem rows_nd {p : Pb} (h : Pok p) : ∀ (qs : List Nat), qs.Nodup → (∀ q ∈ qs, q ∈ p.V.map (·.1)) → (rowsOf p.V qs).flatten.Nodup
  | [], _, _ => List.nodup_nil
  | q :: qs, hn, hs => by
    rw [List.nodup_cons] at hn
    have ih := rows_nd h qs hn.2 fun z hz => hs z (List.mem_cons_of_mem _ hz)
    obtain ⟨g, hg, rfl⟩ := List.mem_map.1 (hs q List.mem_cons_self)
    unfold rowsOf
    rw [List.map_cons, List.flatten_cons, List.nodup_append]
    have e := memV_of h.nd hg
    refine ⟨?_, ih, fun a ha b hb e2 => ?_⟩
    · rw [e]
      exact (List.mergeSort_perm _ _).nodup_iff.2 (h.md g hg)
    · subst e2
      obtain ⟨l, hl, hx⟩ := List.mem_flatten.1 hb
      obtain ⟨q', hq', rfl⟩ := List.mem_map.1 hl
      obtain ⟨g', hg', rfl⟩ := List.mem_map.1 (hs q' (List.mem_cons_of_mem _ hq'))
      rw [sortN_mem, memV_of h.nd hg'] at hx
      rw [sortN_mem, e] at ha
      have := h.one g hg g' hg' a ha hx
      subst this
      exact hn.1 hq'
theorem due_fst (f m : Nat) (now : Int) : ∀ (is : List Nat) (s : List Gw × List En), (is.foldl (dueStepV f m now) s).1 = s.1.map (fun g => (g.1, g.2.1 + is.count g.1, g.2.2))
  | [], s => by
    conv => lhs; rw [List.foldl_nil, ← List.map_id s.1]
    exact List.map_congr_left fun g _ => by simp
  | q :: is, s => by
    rw [List.foldl_cons, due_fst f m now is]
    unfold dueStepV bumpV
    simp only
    rw [List.map_map]
    refine List.map_congr_left fun g _ => ?_
    simp only [Function.comp]
    by_cases e : g.1 = q
    · rw [if_pos e]
      simp only
      rw [List.count_cons, e]
      simp
      omega
    · rw [if_neg e, List.count_cons]
      have : (q == g.1) = false := by simp; exact fun e2 => e e2.symm
      rw [this]
      simp
theorem count_one {l : List Nat} (h : l.Nodup) {x : Nat} (hx : x ∈ l) : l.count x = 1 := by
  have h1 := List.nodup_iff_count.1 h x
  have h2 := List.count_pos_iff.2 hx
  omega
/-- Behind a Due at which all are due, each group was sent once more. -/
theorem due_tries {p : Pb} (h : Pok p) (f m : Nat) (now : Int) (hd : ∀ e ∈ p.E, e.2 ≤ now) {k : Nat} (hk : k ∈ p.fl) : ∃ g ∈ (dueP f m now p).V, k ∈ g.2.2 ∧ ∃ g0 ∈ p.V, g.2.1 = g0.2.1 + 1 := by
  obtain ⟨g, hg, hkg⟩ := (h.hd k).1 hk
  unfold dueP
  simp only
  rw [due_fst, (due_all hd).1]
  refine ⟨_, List.mem_map.2 ⟨g, hg, rfl⟩, hkg, g, hg, ?_⟩
  simp only
  rw [count_one h.ord.nd (h.ie.symm.subset (List.mem_map.2 ⟨g, hg, rfl⟩))]
def seenF (P : List Nat) : Nat → Option Value := fun k => if k ∈ P then some (.int .i64 1) else none
theorem seenF_put (P : List Nat) (x : Nat) : putF (seenF P) x (.int .i64 1) = seenF (P ++ [x]) := by
  funext k
  unfold putF seenF
  by_cases e : k = x
  · subst e; simp
  · by_cases e2 : k ∈ P <;> simp [e, e2]
theorem flat_prefix {RR : List (List Nat)} {i j x : Nat} {row : List Nat} (hr : RR[i]? = some row) (hx : row[j]? = some x) : ((RR.take i).flatten ++ row.take j ++ [x]).Sublist RR.flatten := by
  have e1 : RR = RR.take i ++ (row :: RR.drop (i + 1)) := by
    have hi := (List.getElem?_eq_some_iff.1 hr).1
    have h2 := (List.getElem?_eq_some_iff.1 hr).2
    conv => lhs; rw [← List.take_append_drop i RR]
    rw [List.drop_eq_getElem_cons hi, h2]
  have e2 : row.take (j + 1) = row.take j ++ [x] := by rw [List.take_add_one, hx]; rfl
  conv => rhs; rw [e1]
  rw [List.flatten_append, List.flatten_cons, List.append_assoc, ← e2]
  exact (List.Sublist.refl _).append ((List.take_sublist _ _).trans (List.sublist_append_left _ _))
theorem flat_snoc {RR : List (List Nat)} {i : Nat} {row : List Nat} (hr : RR[i]? = some row) : (RR.take (i + 1)).flatten = (RR.take i).flatten ++ row := by
  rw [List.take_add_one, hr, List.flatten_append]
  simp
theorem Only.of_belowB {B : Nat} {a b : World} (h : RowKit.Below B a b) : Only (fun k => B ≤ k) a b := ⟨h.os, h.tape, h.output, h.size, fun k _ hn => h.block k (by omega)⟩
theorem zero_int (w : World) : (zeroValue 3).run Try.prog w = .ok (.int .i64 0) w := by kernel_rfl
/-- Both lists as they were cut, and what stays. -/
def OnceArgs (w : World) (A : Option Addr) (q c : Nat) (l : List Nat) (A' : Option Addr) (q' c' : Nat) (m : List Nat) : Prop := Nw w A q c l ∧ Nw w A' q' c' m ∧ q ≤ 20 ∧ q' ≤ 20 ∧ l.length = q ∧ m.length = q'
set_option maxRecDepth 100000 in
set_option maxHeartbeats 4000000 in
theorem boardOnce_law (w : World) (A : Option Addr) (n c : Nat) (L : List Nat) (hL : Nw w A n c L) (A' : Option Addr) (n' c' : Nat) (M : List Nat) (hM : Nw w A' n' c' M) :
    Calls Try.prog 5 #[.slice A n c, .slice A' n' c'] w (Says w (.bool true)) := by
  obtain ⟨i0, hi0, hz0, hz1, hz2⟩ := info_parts u64_info
  have HL0 := Lib.hid hL
  have HM0 := Lib.hid hM
  have hnc := hL.sn.le
  have hnm : c ≤ 9223372036854775807 := hL.sn.max
  have hnc' := hM.sn.le
  have hnm' : c' ≤ 9223372036854775807 := hM.sn.max
  clear hL hM
  go_enter Try.func5, Try.ntmps5
  go_wp2_with fail
  refine (awake13_any w).mono ?_
  rintro e w1 ⟨rfl, hb1⟩
  have HB1 := Lib.hid hb1
  clear hb1
  obtain ⟨q, hq⟩ : ∃ q, q = min n 20 := ⟨_, rfl⟩
  obtain ⟨q', hq'⟩ : ∃ q, q = min n' 20 := ⟨_, rfl⟩
  go_upto_region 3 with fail
  go_cut [0, 1] (fun v v' wx => v = .slice A q c ∧ v' = .slice A' q' c' ∧ ∃ k, wx = w1.drewN k)
  case first =>
    by_cases h : n ≤ 20
    · obtain rfl : q = n := by omega
      have hI : ¬ (20 : Int) < (q : Int) := by omega
      by_cases h' : n' ≤ 20
      · obtain rfl : q' = n' := by omega
        have hI' : ¬ (20 : Int) < (q' : Int) := by omega
        clear hq hq'
        go_wp2_with fail
        go_quiet (fail)
        go_wp2_with fail
        go_meet
        case rel => exact ⟨by congr 1; omega, by congr 1; omega, _, rfl⟩
      · obtain rfl : q' = 20 := by omega
        have hI' : (20 : Int) < (n' : Int) := by omega
        have hc' : 20 ≤ c' := by omega
        clear hq hq'
        go_wp2_with fail
        go_quiet (fail)
        go_wp2_with fail
        go_meet
        case rel => exact ⟨by congr 1; omega, by congr 1; omega, _, rfl⟩
    · obtain rfl : q = 20 := by omega
      have hI : (20 : Int) < (n : Int) := by omega
      have hc : 20 ≤ c := by omega
      by_cases h' : n' ≤ 20
      · obtain rfl : q' = n' := by omega
        have hI' : ¬ (20 : Int) < (q' : Int) := by omega
        clear hq hq'
        go_wp2_with fail
        go_quiet (fail)
        go_wp2_with fail
        go_meet
        case rel => exact ⟨by congr 1; omega, by congr 1; omega, _, rfl⟩
      · obtain rfl : q' = 20 := by omega
        have hI' : (20 : Int) < (n' : Int) := by omega
        have hc' : 20 ≤ c' := by omega
        clear hq hq'
        go_wp2_with fail
        go_quiet (fail)
        go_wp2_with fail
        go_meet
        case rel => exact ⟨by congr 1; omega, by congr 1; omega, _, rfl⟩
  case rest =>
    obtain ⟨rfl, rfl, kd, rfl⟩ := hcut
    have HLq := Lib.hid (HL0.out.take (m := q) (by omega))
    have HMq := Lib.hid (HM0.out.take (m := q') (by omega))
    have hq20 : q ≤ 20 := by omega
    have hq20' : q' ≤ 20 := by omega
    clear hq hq' HL0 HM0
    generalize L.take q = l at *
    generalize M.take q' = m at *
    have HLN : Hid (l.length = q ∧ m.length = q') := by
      have h1 := HLq.out.sn.len
      have h2 := HMq.out.sn.len
      rw [nvs_len] at h1 h2
      exact ⟨by omega, by omega⟩
    have HB2 : Hid (RowKit.Below w.heap.size w (w1.drewN kd)) := below_drewN HB1.out kd
    generalize w1.drewN kd = w2 at *
    clear HB1
    go_wp2_with fail
    have hn1 : Calls Try.prog 10 #[.agg #[.int .i64 1, .int .i64 1]] w2 _ := bnewP w2 1 1 ⟨by omega, by omega, by omega⟩
    refine hn1.mono ?_
    clear hn1
    rintro e w3 ⟨bd, S3, rfl, hb3, hbel3⟩
    obtain ⟨base, HBASE⟩ : ∃ z, Hid (z = w2.heap.size) := ⟨_, rfl⟩
    rw [← HBASE.out] at hb3
    have HWB : Hid (w.heap.size ≤ base) := by have := HBASE.out; have := HB2.out.size; show _ ≤ _; omega
    have HBD3 := Lib.hid hb3
    have HB3 := Lib.hid (HB2.out.trans (hbel3.mono HB2.out.size))
    clear hb3 hbel3 HB2 HBASE
    have hs := bsendP HBD3.out A q c l (HLq.out.on HB3.out).sn HLq.out.lt 0 (by omega) (by show (0 : Nat) ≤ _; omega) (by show 0 + q < 50; omega)
    obtain ⟨p1, HP1⟩ : ∃ z, Hid (z = sendP 1 1 0 l p0) := ⟨_, rfl⟩
    obtain ⟨r1, HR1⟩ : ∃ z, Hid (z = sentP l p0) := ⟨_, rfl⟩
    rw [← HP1.out, ← HR1.out] at hs
    have HS := Lib.hid hs
    clear hs
    go_wp2_with fail
    refine HS.out.mono ?_
    rintro e w4 ⟨rfl, S4, hb4, ho4, hk4⟩
    have HBD4 := Lib.hid hb4
    have HB4 : Hid (RowKit.Below w.heap.size w w4) := HB3.out.trans (HBD3.out.toBelow ho4 HWB.out)
    have HF1 : Hid ((∀ x, x ∈ p1.fl ↔ x ∈ l) ∧ p1.fl.length ≤ 20 ∧ p1.last ≤ 1 ∧ (∀ g ∈ p1.V, g.2.1 = 1) ∧ ∀ e ∈ p1.E, e.2 = 1) := by
      rw [HP1.out]
      refine ⟨fun x => ?_, ?_, send_last 1 1 0 l p0, send_tries 1 1 0 l p0 (fun g hg => by cases hg), send_E 1 1 0 1 rfl l p0 (fun g hg => by cases hg)⟩
      · rw [send_fl]
        show x ∈ [] ∨ x ∈ l ↔ _
        simp
      · have h1 := send_len 1 1 0 l p0
        have h2 := HLN.out.1
        have h3 : p0.fl.length = 0 := rfl
        omega
    clear hb4 ho4 hk4 HS HBD3 HB3
    have hs := bsendP HBD4.out A' q' c' m (HMq.out.on HB4.out).sn HMq.out.lt 0 (by omega) (by have := HF1.out.2.2.1; omega) (by have := HF1.out.2.1; omega)
    obtain ⟨p2, HP2⟩ : ∃ z, Hid (z = sendP 1 1 0 m p1) := ⟨_, rfl⟩
    obtain ⟨r2, HR2⟩ : ∃ z, Hid (z = sentP m p1) := ⟨_, rfl⟩
    rw [← HP2.out, ← HR2.out] at hs
    have HS := Lib.hid hs
    clear hs
    go_wp2_with fail
    refine HS.out.mono ?_
    rintro e w5 ⟨rfl, S5, hb5, ho5, hk5⟩
    have HBD5 := Lib.hid hb5
    have HB5 : Hid (RowKit.Below w.heap.size w w5) := HB4.out.trans (HBD4.out.toBelow ho5 HWB.out)
    have HF2 : Hid ((∀ x, x ∈ p2.fl ↔ x ∈ l ++ m) ∧ p2.fl.length ≤ 40 ∧ p2.last ≤ 2 ∧ (∀ g ∈ p2.V, g.2.1 = 1) ∧ ∀ e ∈ p2.E, e.2 = 1) := by
      rw [HP2.out]
      refine ⟨fun x => ?_, ?_, ?_, send_tries 1 1 0 m p1 HF1.out.2.2.2.1, send_E 1 1 0 1 rfl m p1 HF1.out.2.2.2.2⟩
      · rw [send_fl, HF1.out.1, List.mem_append]
      · have h1 := send_len 1 1 0 m p1
        have h2 := HLN.out.2
        have h3 := HF1.out.2.1
        omega
      · have h1 := send_last 1 1 0 m p1
        have h2 := HF1.out.2.2.1
        omega
    clear hb5 ho5 hk5 HS HBD4 HB4 HF1 HP1 HP2 HR1 HR2
    go_wp2_with fail
    refine (cloneN_any w5 A q c l (HLq.out.on HB5.out).sn (by omega)).mono ?_
    rintro e w6 ⟨Ac, nc, cc, rfl, hown6, hb6⟩
    have hnc6 : nc = q := by have := hown6.len; have := HLN.out.1; omega
    subst hnc6
    have HOW6 := Lib.hid hown6
    have HBD6 := Lib.hid (HBD5.out.below hb6)
    have HS5L : Hid (w.heap.size ≤ w5.heap.size) := HB5.out.size
    have HS5 : Hid (∀ k, S5 k → k < w5.heap.size) := fun k hk => (HBD5.out.lo k hk).2
    have hmm := @run_makeMap Try.prog
    have HB6 := Lib.hid (HB5.out.trans (hb6.mono HB5.out.size))
    have HM6 := Lib.hid (HMq.out.on HB6.out)
    have hz56 := hb6.size
    clear hown6 hb6 HBD5
    go_wp2_with (at_builtin; refine wpList_append_dstN _ rfl (.tmp 39) (.tmp 40) 37 37 rfl w5.heap.size 34 i0 _ 1 8 Try.underlying37 hi0 hz0 hz1 hz2 rfl Ac nc cc (nvs l) rfl (.inr HOW6.out) _ q' (nvs m) rfl (HM6.out.sn.src Try.underlying37 (nvs_one _)) (by omega) (by omega) hz56 ?_; intro A7 c7 w7 g1 g2 g3 g4 g5 g6; have HOW7 := Lib.hid (g3 HOW6.out); have HB67 := Lib.hid g4; clear g1 g2 g3 g4 g5 g6)
    clear hmm
    obtain ⟨na, HNA⟩ : ∃ z, Hid (z = nc + q') := ⟨_, rfl⟩
    rw [← HNA.out] at HOW7 ⊢
    have hna : na ≤ 40 := by have := HNA.out; omega
    have hz7 : (w7.alloc (.map #[] 0)).heap.size = w7.heap.size + 1 := by simp
    have hmv8 := Mv.made Try.prog 34 w7
    have hbx8 := below_box w7 (.map #[] 0)
    obtain ⟨mb, HMB⟩ : ∃ z, Hid (z = w7.heap.size) := ⟨_, rfl⟩
    rw [← HMB.out] at hmv8 ⊢
    have hbd8 := (HBD6.out.only (Only.of_belowB HB67.out) (fun k _ h1 h2 => by have := HS5.out k h2; omega)).below hbx8
    have HB8 : Hid (RowKit.Below w.heap.size w (w7.alloc (.map #[] 0))) := (HB6.out.trans (HB67.out.mono (by have := HB5.out.size; omega))).trans (hbx8.mono (by have := HB67.out.size; have := HB6.out.size; omega))
    have HAL8 : Hid (OwnN (w7.alloc (.map #[] 0)) w5.heap.size A7 na c7 (l ++ m)) := by
      have h1 := World.ownsRow.alloc HOW7.out (.map #[] 0)
      unfold OwnN nvs
      rw [List.map_append]
      exact h1
    have HMW : Hid (w5.heap.size ≤ mb ∧ ∀ b, (Value.slice A7 na c7).ownBlock = some b → b ≠ mb) := by
      refine ⟨by have := HB67.out.size; have := HMB.out; omega, fun b hb e => ?_⟩
      have h1 := (HOW7.out.lt b hb).2
      have := HMB.out
      omega
    have HMV8 : Hid (Mv Try.prog 34 (w7.alloc (.map #[] 0)) mb 0 (seenF [])) := hmv8
    have HBD8 := Lib.hid hbd8
    have HZ8 : Hid (mb < (w7.alloc (.map #[] 0)).heap.size) := by have := HMB.out; show _ < _; omega
    clear hz7 hmv8 hbx8 hbd8 HBD6 HB67 HOW6 HOW7 HM6 HMB HB6 hz56 HB5
    generalize w7.alloc (.map #[] 0) = w8 at *
    have hd := bdueP HBD8.out (by have := HF2.out.2.2.1; omega) (by have := HF2.out.2.1; omega) (fun g hg => by have := HF2.out.2.2.2.1 g hg; omega) 5 (by omega)
    have hal : ∀ e ∈ p2.E, e.2 ≤ 5 := fun e he => by have := HF2.out.2.2.2.2 e he; omega
    have HOK := Lib.hid HBD8.out.ok
    have HTR : Hid (∀ k ∈ p2.fl, ∃ g ∈ (dueP 1 1 5 p2).V, k ∈ g.2.2 ∧ g.2.1 = 2) := fun k hk => by
      obtain ⟨g, hg, h1, g0, h2, h3⟩ := due_tries HOK.out 1 1 5 hal hk
      exact ⟨g, hg, h1, by rw [h3, HF2.out.2.2.2.1 g0 h2]⟩
    have HFL3 : Hid ((dueP 1 1 5 p2).fl = p2.fl) := rfl
    obtain ⟨p3, HP3⟩ : ∃ z, Hid (z = dueP 1 1 5 p2) := ⟨_, rfl⟩
    obtain ⟨RR, HRR0⟩ : ∃ z, Hid (z = dueRows 5 p2) := ⟨_, rfl⟩
    have HRF : Hid (RR.flatten.Nodup ∧ (∀ x, x ∈ RR.flatten ↔ x ∈ p2.fl) ∧ RR.flatten.length = p2.fl.length ∧ RR.length ≤ 2) := by
      have e : RR = rowsOf p2.V (ids p2.E) := by
        rw [HRR0.out]
        unfold dueRows rowsOf
        rw [(due_all hal).1]
      have h1 := rows_nd HOK.out (ids p2.E) HOK.out.ord.nd (fun z hz => HOK.out.ie.subset hz)
      have h2 := rows_mem HOK.out
      rw [← e] at h1 h2
      refine ⟨h1, h2, ((List.perm_ext_iff_of_nodup h1 (inc_nodup HOK.out.inc)).2 h2).length_eq, ?_⟩
      rw [e]
      unfold rowsOf
      rw [List.length_map, HOK.out.ie.length_eq, List.length_map]
      have := HOK.out.gl
      have := HF2.out.2.2.1
      omega
    rw [← HP3.out] at hd HTR HFL3
    rw [← HRR0.out] at hd
    have HD := Lib.hid hd
    clear hd hal HP3 HRR0
    refine HD.out.mono ?_
    rintro e w9 ⟨D, dn, dc, rows, S9, rfl, hb9, hdr, hrr, hrw, ho9, hk9⟩
    have HBD9 := Lib.hid hb9
    have HDR := Lib.hid hdr
    have HRR := Lib.hid hrr
    have HRW := Lib.hid hrw
    have HDN : Hid (rows.length = dn ∧ RR.length = dn) := by
      have h1 := hdr.1
      have h2 := congrArg List.length hrw
      rw [List.length_map] at h1 h2
      exact ⟨by omega, by omega⟩
    have hdn : dn ≤ 2 := by have := HDN.out.2; have := HRF.out.2.2.2; omega
    have HB9 : Hid (RowKit.Below w.heap.size w w9) := HB8.out.trans (HBD8.out.toBelow ho9 HWB.out)
    have HNS : Hid (¬ S9 mb ∧ (∀ b, (Value.slice A7 na c7).ownBlock = some b → ¬ S9 b)) := by
      refine ⟨fun e => ?_, fun b hb e => ?_⟩
      · rcases hk9 mb e with e | e
        · have := HS5.out mb e; have := HMW.out.1; omega
        · have := HZ8.out; omega
      · rcases hk9 b e with e | e
        · have := HS5.out b e; have := (HAL8.out.lt b hb).1; omega
        · have := (HAL8.out.lt b hb).2; omega
    have HMV9 : Hid (Mv Try.prog 34 w9 mb 0 (seenF [])) := HMV8.out.kept (ho9.block mb HZ8.out (fun e => by have := HS5.out mb e; have := HMW.out.1; omega))
    have HAL9 : Hid (OwnN w9 w5.heap.size A7 na c7 (l ++ m)) := own_same HAL8.out (fun b hb => ho9.block b (HAL8.out.lt b hb).2 (fun e => by have := HS5.out b e; have := (HAL8.out.lt b hb).1; omega))
    have HRB : Hid (∀ r ∈ rows, ∀ b, r.v.ownBlock = some b → b ≠ mb) := fun r hr b hb e => by have := ((hrr r hr).lt b hb).1; have := HZ8.out; omega
    have HDB : Hid (∀ b, (Value.slice D dn dc).ownBlock = some b → b ≠ mb) := fun b hb e => by have := (hdr.lt b hb).1; have := HZ8.out; omega
    clear hb9 hdr hrr hrw ho9 hk9 HD HMV8 HAL8 HBD8 HB8
    go_wp2_with fail
    go_loopg [46] dn (fun gk vi wr => ∃ i : Nat, gk + i = dn ∧ vi = .int .i64 (i : Int) ∧ Mv Try.prog 34 wr mb (RR.take i).flatten.length (seenF (RR.take i).flatten) ∧ Only (fun k => k = mb) w9 wr)
    case atStart => exact ⟨0, by omega, rfl, HMV9.out, Only.refl _ _⟩
    case round =>
      obtain ⟨i, hg, rfl, hmv, hon⟩ := hrel
      have HG := Lib.hid hg
      have HMV := Lib.hid hmv
      have HON := Lib.hid hon
      clear hg hmv hon
      by_cases hi : i < dn
      · have hiI : (i : Int) < (dn : Int) := by omega
        have hi0' : (0 : Int) ≤ (i : Int) := by omega
        obtain ⟨r, hr⟩ : ∃ r, rows[i]? = some r := ⟨_, List.getElem?_eq_getElem (by have := HDN.out.1; omega)⟩
        have hdrr := own_same HDR.out (fun b hb => HON.out.block b (HDR.out.lt b hb).2 (HDB.out b hb))
        obtain ⟨db, do_, rfl, hdb, hdc⟩ := (Sn.of_own hdrr).cell (by omega)
        have hd0 : wr.cell? ⟨db, do_ + i, none⟩ = some (.slice r.A r.n r.c) := hdc i _ (by rw [List.getElem?_map, hr]; rfl)
        have hrm := List.mem_of_getElem? hr
        have HRi : Hid (RR[i]? = some r.l) := by rw [← HRW.out]; show _ = _; rw [List.getElem?_map, hr]; rfl
        have HRM := Lib.hid hrm
        obtain ⟨rA, rn, rc, rl⟩ := r
        simp only at hd0 HRi
        have HRO : Hid (OwnN w9 w8.heap.size rA rn rc rl) := HRR.out _ hrm
        have HRN : Hid (rl.length = rn ∧ rn ≤ 40) := by
          have h1 := HRO.out.len
          have h2 : rl.length ≤ RR.flatten.length := by
            have e := flat_snoc HRi.out
            have h3 : ((RR.take (i + 1)).flatten).length ≤ RR.flatten.length := by
              conv => rhs; rw [← List.take_append_drop (i + 1) RR]
              rw [List.flatten_append, List.length_append]
              omega
            rw [e, List.length_append] at h3
            omega
          have h3 := HRF.out.2.2.1
          have h4 := HF2.out.2.1
          exact ⟨by omega, by omega⟩
        have hrn40 : rn ≤ 40 := HRN.out.2
        clear hdc hr hrm hdrr
        go_wp2_with fail
        go_loopg [52] rn (fun gk vj wq => ∃ j : Nat, gk + j = rn ∧ vj = .int .i64 (j : Int) ∧ Mv Try.prog 34 wq mb ((RR.take i).flatten ++ rl.take j).length (seenF ((RR.take i).flatten ++ rl.take j)) ∧ Only (fun k => k = mb) w9 wq)
        case atStart =>
          refine ⟨0, by omega, rfl, ?_, HON.out⟩
          rw [List.take_zero, List.append_nil]
          exact HMV.out
        case round =>
          clear hd0
          obtain ⟨j, hg2, rfl, hmv2, hon2⟩ := hrel
          have HG2 := Lib.hid hg2
          have HMV2 := Lib.hid hmv2
          have HON2 := Lib.hid hon2
          clear hg2 hmv2 hon2
          by_cases hj : j < rn
          · have hjI : (j : Int) < (rn : Int) := by omega
            have hj0 : (0 : Int) ≤ (j : Int) := by omega
            obtain ⟨x, hx⟩ : ∃ x, rl[j]? = some x := ⟨_, List.getElem?_eq_getElem (by have := HRN.out.1; omega)⟩
            have hrow := own_same HRO.out (fun b hb => HON2.out.block b (HRO.out.lt b hb).2 (HRB.out _ HRM.out b hb))
            obtain ⟨b, o, rfl, hgB, hcell⟩ := (Sn.of_own hrow).cell (by omega)
            have hc : wr.cell? ⟨b, o + j, none⟩ = some (.int .u64 (x : Int)) := hcell j (nv x) (by simp [nvs, hx])
            have hsub := flat_prefix HRi.out hx
            obtain ⟨cur, HCUR⟩ : ∃ z, Hid (z = (RR.take i).flatten ++ rl.take j) := ⟨_, rfl⟩
            rw [← HCUR.out] at HMV2 hsub
            have HTK : Hid ((RR.take i).flatten ++ rl.take (j + 1) = cur ++ [x]) := by
              show _ = _
              rw [HCUR.out, List.take_add_one, hx, List.append_assoc]
              rfl
            have hnd := hsub.nodup HRF.out.1
            rw [List.nodup_append] at hnd
            have HNC : Hid (seenF cur x = none) := by
              show seenF cur x = none
              unfold seenF
              rw [if_neg (fun h => hnd.2.2 x h x (by simp) rfl)]
            have hcl : cur.length ≤ 40 := by
              have h1 := hsub.length_le
              rw [List.length_append] at h1
              have := HRF.out.2.2.1
              have := HF2.out.2.1
              omega
            have hx64 : x < two64 := HOK.out.dl x ((HRF.out.2.1 x).1 (hsub.subset (by simp)))
            have hkey := key64 Try.underlying34 hx64
            clear hrow hcell hsub hnd hx hx64
            go_wp2_with (first
              | (at_lookup; refine wpList_mv1 _ rfl _ _ 65 rfl 34 3 u64_keyed Try.underlying65 (.int .i64 0) (zero_int _) mb cur.length (seenF cur) rfl HMV2.out x rfl hkey (.int .i64 0) (by rw [HNC.out]; rfl) ?_)
              | (at_mapUpdate; refine wpList_mvPut _ rfl _ _ _ 65 rfl 34 3 u64_keyed Try.underlying65 mb cur.length (seenF cur) rfl HMV2.out (by unfold maxLen; omega) x (.int .i64 1) rfl rfl hkey ?_; intro w12 hm2 ho2; have HM2 := Lib.hid hm2; have HO2 := Lib.hid ho2; clear hm2 ho2))
            go_roundg (gk - 1)
            case measure => have := HG2.out; omega
            case rel =>
              have hm := HM2.out
              rw [HNC.out, seenF_put] at hm
              refine ⟨j + 1, by have := HG2.out; omega, by go_num, ?_, HON2.out.trans HO2.out (fun _ _ e => e)⟩
              rw [HTK.out, List.length_append]
              exact hm
          · have hjI : ¬ (j : Int) < (rn : Int) := by omega
            have HE : Hid (rl.take j = rl) := List.take_of_length_le (by have := HRN.out; have := HG2.out; omega)
            go_wp2_with fail
            go_roundg (dn - (i + 1))
            case measure => have := HG.out; omega
            case rel =>
              have hm := HMV2.out
              rw [HE.out, ← flat_snoc HRi.out] at hm
              exact ⟨i + 1, by have := HG.out; omega, by go_num, hm, HON2.out⟩
      · have hiI : ¬ (i : Int) < (dn : Int) := by omega
        have HE : Hid (RR.take i = RR) := List.take_of_length_le (by have := HDN.out; have := HG.out; omega)
        rw [HE.out] at HMV
        have HBDW := Lib.hid (HBD9.out.only HON.out (fun k _ e hk => HNS.out.1 (by rw [← e]; exact hk)))
        have HALW : Hid (OwnN wr w5.heap.size A7 na c7 (l ++ m)) := own_same HAL9.out (fun b hb => HON.out.block b (HAL9.out.lt b hb).2 (HMW.out.2 b hb))
        have HBW : Hid (RowKit.Below w.heap.size w wr) := HB9.out.trans (HON.out.toBelow2 (fun k e => by have := HMW.out.1; have := HS5L.out; omega) HB9.out.size)
        obtain ⟨PL, HPL⟩ : ∃ z, Hid (z = RR.flatten.length) := ⟨_, rfl⟩
        rw [← HPL.out] at HMV
        have HALN : Hid ((l ++ m).length = na) := by have := HALW.out.len; show _ = _; omega
        clear HMV9 HAL9 HON HE HBD9
        go_wp2_with fail
        go_loopg [64] na (fun gk vi wq => ∃ k : Nat, gk + k = na ∧ vi = .int .i64 (k : Int) ∧ wq = wr)
        case atStart => exact ⟨0, by omega, rfl, rfl⟩
        case round =>
          obtain ⟨k, hg3, rfl, rfl⟩ := hrel
          have HG3 := Lib.hid hg3
          clear hg3
          by_cases hk : k < na
          · have hkI : (k : Int) < (na : Int) := by omega
            have hk0 : (0 : Int) ≤ (k : Int) := by omega
            obtain ⟨x, hx⟩ : ∃ x, (l ++ m)[k]? = some x := ⟨_, List.getElem?_eq_getElem (by have := HALN.out; omega)⟩
            obtain ⟨b, o, rfl, hgB, hcell⟩ := (Sn.of_own HALW.out).cell (by omega)
            have hc : wr.cell? ⟨b, o + k, none⟩ = some (.int .u64 (x : Int)) := hcell k (nv x) (by rw [show (nvs (l ++ m))[k]? = ((l ++ m)[k]?).map nv from by unfold nvs; rw [List.getElem?_map], hx]; rfl)
            have hx2 : x ∈ p2.fl := (HF2.out.1 x).2 (List.mem_of_getElem? hx)
            have hkey := key64 Try.underlying34 (HOK.out.dl x hx2)
            have HSX : Hid (seenF RR.flatten x = some (.int .i64 1)) := by
              show seenF RR.flatten x = _
              unfold seenF
              rw [if_pos ((HRF.out.2.1 x).2 hx2)]
            obtain ⟨g, hgV, hxg, hg2⟩ := HTR.out x hx2
            have HT : Hid (Calls Try.prog 21 #[.pointer (some ⟨bd, 0, none⟩), .int .u64 (x : Int)] wr fun e w' => e = .returned (.int .i64 2) ∧ wr = w') := by
              have h1 := btriesP_yes HBDW.out hgV hxg
              rw [hg2] at h1
              exact h1
            clear hcell hx hx2 hgV hxg hg2
            go_wp2_with (at_lookup; refine wpList_mv1 _ rfl _ _ 65 rfl 34 3 u64_keyed Try.underlying65 (.int .i64 0) (zero_int _) mb PL (seenF RR.flatten) rfl HMV.out x rfl hkey (.int .i64 1) (by rw [HSX.out]; rfl) ?_)
            refine HT.out.mono ?_
            rintro e w13 ⟨rfl, rfl⟩
            go_wp2_with fail
            go_roundg (gk - 1)
            case measure => have := HG3.out; omega
            case rel => exact ⟨k + 1, by have := HG3.out; omega, by go_num, rfl⟩
          · have hkI : ¬ (k : Int) < (na : Int) := by omega
            have HCN : Hid (Calls Try.prog 27 #[.pointer (some ⟨bd, 0, none⟩)] wr fun e w' => e = .returned (.int .i64 (PL : Int)) ∧ wr = w') := by
              have h1 := bcountP HBDW.out
              rw [HFL3.out, ← HRF.out.2.2.1, ← HPL.out] at h1
              exact h1
            have HLT : Hid (∀ x ∈ l ++ m, x < two64) := fun x hx => HOK.out.dl x ((HF2.out.1 x).2 hx)
            have HFT := Lib.hid (bflightP HBDW.out (by rw [HFL3.out]; have := HF2.out.2.1; omega))
            go_wp2_with fail
            refine HCN.out.mono ?_
            rintro e w13 ⟨rfl, rfl⟩
            go_wp2_with (at_len; refine wpList_mvLen _ rfl _ 65 rfl 34 3 Try.underlying65 mb PL (seenF RR.flatten) rfl HMV.out ?_)
            refine HFT.out.mono ?_
            rintro e w14 ⟨A8, n8, c8, rfl, hst8, hne8, hb14⟩
            have HST8 := Lib.hid hst8
            have HB14 : Hid (RowKit.Below w.heap.size w w14) := HBW.out.trans (hb14.mono HBW.out.size)
            have HBD14 := Lib.hid (HBDW.out.below hb14)
            have HAL14 : Hid (OwnN w14 w5.heap.size A7 na c7 (l ++ m)) := own_same HALW.out (fun b hb => hb14.block b (HALW.out.lt b hb).2)
            clear hst8 hne8 hb14 HFT HCN
            go_wp2_with fail
            refine (ofA_any w14 A7 na c7 (l ++ m) (Sn.of_own HAL14.out) HLT.out (by omega)).mono ?_
            rintro e w15 ⟨A9, n9, c9, rfl, hst9, hne9, hb15⟩
            have HSM := Lib.hid (setSame_any w15 A8 A9 n8 c8 n9 c9 (ofL p3.fl) (ofL (l ++ m)) (HST8.out.on hb15 (Nat.le_refl _)).rs hst9.rs)
            have hsame : sameR (ofL p3.fl) (ofL (l ++ m)) = true := by
              unfold sameR
              rw [decide_eq_true_iff]
              refine (of_ok (fun x hx => ?_)).ext (of_ok HLT.out) fun x => ?_
              · rw [HFL3.out] at hx; exact HOK.out.dl x hx
              · rw [of_mem, of_mem, HFL3.out, HF2.out.1]
            rw [hsame] at HSM
            have HB15 : Hid (RowKit.Below w.heap.size w w15) := HB14.out.trans (hb15.mono HB14.out.size)
            have HBD15 := Lib.hid (HBD14.out.below hb15)
            have HAL15 : Hid (OwnN w15 w5.heap.size A7 na c7 (l ++ m)) := own_same HAL14.out (fun b hb => hb15.block b (HAL14.out.lt b hb).2)
            clear hst9 hne9 hb15 hsame HST8
            go_wp2_with fail
            refine HSM.out.mono ?_
            rintro e w16 ⟨rfl, hb16⟩
            have HB16 : Hid (RowKit.Below w.heap.size w w16) := HB15.out.trans (hb16.mono HB15.out.size)
            have HBD16 := Lib.hid (HBD15.out.below hb16)
            have HAL16 : Hid (OwnN w16 w5.heap.size A7 na c7 (l ++ m)) := own_same HAL15.out (fun b hb => hb16.block b (HAL15.out.lt b hb).2)
            have HSN := Lib.hid (bsendP_none HBD16.out A7 na c7 (l ++ m) (Sn.of_own HAL16.out) HLT.out 9 (by omega) (fun x hx => by rw [HFL3.out]; exact (HF2.out.1 x).2 hx))
            clear hb16 HSM
            go_wp2_with fail
            refine HSN.out.mono ?_
            rintro e w17 ⟨rfl, hb17⟩
            go_wp2_with fail
            go_ret
            exact ⟨rfl, HB16.out.trans (hb17.mono HB16.out.size)⟩
end Go.Proofs.Ytbnhemmklbbnmaa
