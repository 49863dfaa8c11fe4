/-
  WALK of BoardTakes.
-/
import Derived.Test.YtbnhemmklbbnmaaBoardTwoC
import Derived.Test.YtbnhemmklbbnmaaBdLot11
namespace Go.Proofs.Ytbnhemmklbbnmaa
open Go.RowKit Go.Sort Go.Maps

def pS (l m : List Nat) (i : Nat) : Pb := ([l, m].take i).foldl (fun p x => sendP 3 9 1 x p) p0
theorem pS_succ {l m li : List Nat} {i : Nat} (h : [l, m][i]? = some li) : pS l m (i + 1) = sendP 3 9 1 li (pS l m i) := by
  unfold pS
  rw [List.take_add_one, h, List.foldl_append]
  rfl
def PF (p : Pb) (i : Nat) : Prop := p.last ≤ i ∧ p.fl.length ≤ 20 * i ∧ ∀ g ∈ p.V, g.2.1 = 1
theorem PF.send {p : Pb} {i : Nat} (h : PF p i) {l : List Nat} (hl : l.length ≤ 20) : PF (sendP 3 9 1 l p) (i + 1) := by
  refine ⟨?_, ?_, send_tries 3 9 1 l p h.2.2⟩
  · have := send_last 3 9 1 l p
    have := h.1
    omega
  · have := send_len 3 9 1 l p
    have := h.2.1
    omega
theorem same_once {fl : List Nat} {RS : List Rn} (hw : Okl (ofL fl)) (hs : Okl RS) : sameR (ofL (fl.filter (fun x => !inR RS x))) (lessL (ofL fl) RS) = true := by
  unfold sameR
  rw [decide_eq_true_iff]
  refine (of_ok (fun x hx => hw.mem_lt ((of_mem fl x).2 (List.mem_filter.1 hx).1))).ext (less_ok hw hs) fun x => ?_
  rw [of_mem, List.mem_filter, less_mem hw hs, of_mem, ← inR_iff]
  simp
theorem same_twice {fl : List Nat} {RS : List Rn} (hw : Okl (ofL fl)) (hs : Okl RS) : sameR (ofL (fl.filter (inR RS))) (lessL (ofL fl) (lessL (ofL fl) RS)) = true := by
  unfold sameR
  rw [decide_eq_true_iff]
  refine (of_ok (fun x hx => hw.mem_lt ((of_mem fl x).2 (List.mem_filter.1 hx).1))).ext (less_ok hw (less_ok hw hs)) fun x => ?_
  rw [of_mem, List.mem_filter, less_mem hw (less_ok hw hs), less_mem hw hs, of_mem, ← inR_iff]
  cases inR RS x <;> simp
set_option maxRecDepth 100000 in
set_option maxHeartbeats 4000000 in
theorem boardTakes_walk (w : World) (A : Option Addr) (n c : Nat) (L : List Nat) (hL : Nw w A n c L) (A' : Option Addr) (n' c' : Nat) (M : List Nat) (hM : Nw w A' n' c' M) (Ar : Option Addr) (nr cr : Nat) (R : List Rn) (hR : Rs w w.heap.size Ar nr cr R) (v : Nat) (hv : v < two64) :
    Calls Try.prog 7 #[.slice A n c, .slice A' n' c', .slice Ar nr cr, .int .u64 (v : Int)] w (Says w (.bool true)) := by
  have HRS := Lib.hid hR
  have hnr : nr ≤ 9223372036854775807 := Nat.le_trans hR.sn.le hR.sn.max
  have HL0 := Lib.hid hL
  have HM0 := Lib.hid hM
  have HV := Lib.hid hv
  have hnc := hL.sn.le
  have hnm : c ≤ 9223372036854775807 := hL.sn.max
  have hnc' := hM.sn.le
  have hnm' : c' ≤ 9223372036854775807 := hM.sn.max
  clear hL hM hR hv
  go_enter Try.func7, Try.ntmps7
  go_wp2_with fail
  refine (awake13_any w).mono ?_
  rintro e w1 ⟨rfl, hb1⟩
  have HB1 := Lib.hid hb1
  clear hb1
  obtain ⟨q, hq⟩ : ∃ q, q = min n 20 := ⟨_, rfl⟩
  obtain ⟨q', hq'⟩ : ∃ q, q = min n' 20 := ⟨_, rfl⟩
  go_upto_region 3 with fail
  go_cut [0, 1] (fun v v' wx => v = .slice A q c ∧ v' = .slice A' q' c' ∧ ∃ k, wx = w1.drewN k)
  case first =>
    by_cases h : n ≤ 20
    · obtain rfl : q = n := by omega
      have hI : ¬ (20 : Int) < (q : Int) := by omega
      by_cases h' : n' ≤ 20
      · obtain rfl : q' = n' := by omega
        have hI' : ¬ (20 : Int) < (q' : Int) := by omega
        clear hq hq'
        go_wp2_with fail
        go_quiet (fail)
        go_wp2_with fail
        go_meet
        case rel => exact ⟨by congr 1; omega, by congr 1; omega, _, rfl⟩
      · obtain rfl : q' = 20 := by omega
        have hI' : (20 : Int) < (n' : Int) := by omega
        have hc' : 20 ≤ c' := by omega
        clear hq hq'
        go_wp2_with fail
        go_quiet (fail)
        go_wp2_with fail
        go_meet
        case rel => exact ⟨by congr 1; omega, by congr 1; omega, _, rfl⟩
    · obtain rfl : q = 20 := by omega
      have hI : (20 : Int) < (n : Int) := by omega
      have hc : 20 ≤ c := by omega
      by_cases h' : n' ≤ 20
      · obtain rfl : q' = n' := by omega
        have hI' : ¬ (20 : Int) < (q' : Int) := by omega
        clear hq hq'
        go_wp2_with fail
        go_quiet (fail)
        go_wp2_with fail
        go_meet
        case rel => exact ⟨by congr 1; omega, by congr 1; omega, _, rfl⟩
      · obtain rfl : q' = 20 := by omega
        have hI' : (20 : Int) < (n' : Int) := by omega
        have hc' : 20 ≤ c' := by omega
        clear hq hq'
        go_wp2_with fail
        go_quiet (fail)
        go_wp2_with fail
        go_meet
        case rel => exact ⟨by congr 1; omega, by congr 1; omega, _, rfl⟩
  case rest =>
    obtain ⟨rfl, rfl, kd, rfl⟩ := hcut
    have HLq := Lib.hid (HL0.out.take (m := q) (by omega))
    have HMq := Lib.hid (HM0.out.take (m := q') (by omega))
    have hq20 : q ≤ 20 := by omega
    have hq20' : q' ≤ 20 := by omega
    clear hq hq' HL0 HM0
    generalize L.take q = l at *
    generalize M.take q' = m at *
    have HLN : Hid (l.length = q ∧ m.length = q') := by
      have h1 := HLq.out.sn.len
      have h2 := HMq.out.sn.len
      rw [nvs_len] at h1 h2
      exact ⟨by omega, by omega⟩
    have HB2 : Hid (RowKit.Below w.heap.size w (w1.drewN kd)) := below_drewN HB1.out kd
    generalize w1.drewN kd = w2 at *
    clear HB1
    go_wp2_with fail
    have hbx := below_box w2 (.cells #[.int .i64 3, .int .i64 9] 26)
    have x0 := cell_last w2 #[.int .i64 3, .int .i64 9] 26 w2.heap.size 0 rfl
    have x1 := cell_last w2 #[.int .i64 3, .int .i64 9] 26 w2.heap.size 1 rfl
    have HB3 := Lib.hid (HB2.out.trans (hbx.mono HB2.out.size))
    have hz3 : w2.heap.size < (w2.alloc (.cells #[.int .i64 3, .int .i64 9] 26)).heap.size := by simp
    obtain ⟨X9, HX9⟩ : ∃ z, Hid (z = w2.heap.size) := ⟨_, rfl⟩
    rw [← HX9.out] at x0 x1 hz3 ⊢
    clear hbx HB2
    generalize w2.alloc (.cells #[.int .i64 3, .int .i64 9] 26) = w3 at *
    have hn1 : Calls Try.prog 10 #[.agg #[.int .i64 3, .int .i64 9]] w3 _ := bnewP w3 3 9 ⟨by omega, by omega, by omega⟩
    refine hn1.mono ?_
    clear hn1
    rintro e w4 ⟨bda, Sa, rfl, hb4, hbel4⟩
    have y0 := (hbel4.cell (p := ⟨X9, 0, none⟩) hz3).trans x0
    have y1 := (hbel4.cell (p := ⟨X9, 1, none⟩) hz3).trans x1
    have HBA := Lib.hid hb4
    have HB4 := Lib.hid (HB3.out.trans (hbel4.mono HB3.out.size))
    obtain ⟨ba, HBASE⟩ : ∃ z, Hid (z = w3.heap.size) := ⟨_, rfl⟩
    rw [← HBASE.out] at HBA
    have HWA : Hid (w.heap.size ≤ ba) := by have := HBASE.out; have := HB3.out.size; show _ ≤ _; omega
    clear hb4 hbel4 x0 x1 hz3 HBASE HB3 HX9
    go_wp2_with fail
    have hn1 : Calls Try.prog 10 #[.agg #[.int .i64 3, .int .i64 9]] w4 _ := bnewP w4 3 9 ⟨by omega, by omega, by omega⟩
    refine hn1.mono ?_
    clear hn1
    rintro e w5 ⟨bdb, Sb, rfl, hb5, hbel5⟩
    have HTB5 : Hid (TB w 3 9 ba bda w4.heap.size bdb Sa Sb p0 p0 [] w5) := ⟨HBA.out.below hbel5, hb5, fun k h1 h2 => by have := (HBA.out.lo k h1).2; have := (hb5.lo k h2).1; omega, HWA.out, HB4.out.size, HB4.out.trans (hbel5.mono HB4.out.size), fun k hk => by cases hk⟩
    obtain ⟨bb, HBB⟩ : ∃ z, Hid (z = w4.heap.size) := ⟨_, rfl⟩
    rw [← HBB.out] at HTB5
    clear hb5 hbel5 y0 y1 HBA HB4 HBB HWA
    go_wp2_with fail
    have hbx := below_box w5 (.cells #[.slice A q c, .slice A' q' c'] 37)
    have hz6 : (w5.alloc (.cells #[.slice A q c, .slice A' q' c'] 37)).heap.size = w5.heap.size + 1 := by simp
    have hX7 := heap_alloc_new w5 (.cells #[.slice A q c, .slice A' q' c'] 37)
    have HTB6 := Lib.hid (HTB5.out.add hbx (Nat.le_refl _) (by omega))
    obtain ⟨X7, HX7⟩ : ∃ z, Hid (z = w5.heap.size) := ⟨_, rfl⟩
    rw [← HX7.out] at hX7 HTB6 ⊢
    clear hbx hz6 HTB5 HX7
    generalize w5.alloc (.cells #[.slice A q c, .slice A' q' c'] 37) = w6 at *
    have HX7 := Lib.hid hX7
    clear hX7
    go_loopg [53] 2 (fun gk vi wr => ∃ (i : Nat) (Sa Sb : Nat → Prop), gk + i = 2 ∧ vi = .int .i64 (i : Int) ∧ TB w 3 9 ba bda bb bdb Sa Sb (pS l m i) (pS l m i) [X7] wr ∧ PF (pS l m i) i ∧ wr.heap[X7]? = some (.cells #[.slice A q c, .slice A' q' c'] 37 (0, 0)))
    case atStart => exact ⟨0, Sa, Sb, rfl, rfl, HTB6.out, ⟨Nat.le_refl _, Nat.le_refl _, fun g hg => by cases hg⟩, HX7.out⟩
    case round =>
      clear HTB6 HX7
      obtain ⟨i, Sa, Sb, hg, rfl, htb, hpf, hx7⟩ := hrel
      have HG := Lib.hid hg
      have HTB := Lib.hid htb
      have HPF := Lib.hid hpf
      have HX7 := Lib.hid hx7
      clear hg htb hpf hx7
      by_cases hi : i < 2
      · have hiI : (i : Int) < 2 := by omega
        have hi0 : (0 : Int) ≤ (i : Int) := by omega
        obtain ⟨Ai, ni, ci, li, hli, hnw, hni, hcell⟩ : ∃ Ai ni ci li, [l, m][i]? = some li ∧ Nw w Ai ni ci li ∧ (ni ≤ 20 ∧ li.length = ni) ∧ wr.cell? ⟨X7, i, none⟩ = some (.slice Ai ni ci) := by
          rcases i with _ | _ | i
          · exact ⟨A, q, c, l, rfl, HLq.out, ⟨hq20, HLN.out.1⟩, cell_at HX7.out 0 rfl⟩
          · exact ⟨A', q', c', m, rfl, HMq.out, ⟨hq20', HLN.out.2⟩, cell_at HX7.out 1 rfl⟩
          · omega
        have HLI := Lib.hid hli
        have HNW := Lib.hid hnw
        have hni20 : ni ≤ 20 := hni.1
        have HNL : Hid (li.length ≤ 20) := by rw [hni.2]; exact hni20
        have hs := bsendP HTB.out.a Ai ni ci li (HNW.out.on HTB.out.bel).sn HNW.out.lt 1 (by omega) (by have := HPF.out.1; omega) (by have := HPF.out.2.1; omega)
        rw [← pS_succ HLI.out] at hs
        obtain ⟨r1, HR1⟩ : ∃ z, Hid (z = sentP li (pS l m i)) := ⟨_, rfl⟩
        rw [← HR1.out] at hs
        have HS := Lib.hid hs
        clear hs hli hnw hni
        go_wp2_with fail
        refine HS.out.mono ?_
        rintro e w7 ⟨rfl, Sa', hb7, ho7, hk7⟩
        have hst := HTB.out.stepA hb7 ho7 hk7
        have HTB7 := Lib.hid hst.1
        have HX77 := Lib.hid ((hst.2 X7 List.mem_cons_self).trans HX7.out)
        clear hst hb7 ho7 hk7 HS hcell
        have hs := bsendP HTB7.out.b Ai ni ci li (HNW.out.on HTB7.out.bel).sn HNW.out.lt 1 (by omega) (by have := HPF.out.1; omega) (by have := HPF.out.2.1; omega)
        rw [← pS_succ HLI.out, ← HR1.out] at hs
        have HS := Lib.hid hs
        clear hs
        go_wp2_with fail
        refine HS.out.mono ?_
        rintro e w8 ⟨rfl, Sb', hb8, ho8, hk8⟩
        have hst := HTB7.out.stepB hb8 ho8 hk8
        have HTB8 := Lib.hid hst.1
        have HX78 := Lib.hid ((hst.2 X7 List.mem_cons_self).trans HX77.out)
        clear hst hb8 ho8 hk8 HS
        go_wp2_with fail
        go_roundg (gk - 1)
        case measure => have := HG.out; omega
        case rel =>
          refine ⟨i + 1, Sa', Sb', by have := HG.out; omega, by go_num, HTB8.out, ?_, HX78.out⟩
          rw [pS_succ HLI.out]
          exact HPF.out.send HNL.out
      · have hiI : ¬ (i : Int) < 2 := by omega
        obtain rfl : i = 2 := by have := HG.out; omega
        obtain ⟨p2, HP2⟩ : ∃ z, Hid (z = pS l m 2) := ⟨_, rfl⟩
        rw [← HP2.out] at HTB HPF
        have HPF2 : Hid (p2.last ≤ 2 ∧ p2.fl.length ≤ 40 ∧ ∀ g ∈ p2.V, g.2.1 = 1) := ⟨HPF.out.1, by have := HPF.out.2.1; omega, HPF.out.2.2⟩
        clear HP2 HPF HX7 HLq HMq HLN
        go_wp2_with fail
        have hbx := below_box wr (.cells #[.slice none 0 0] 44)
        have hz9 : (wr.alloc (.cells #[.slice none 0 0] 44)).heap.size = wr.heap.size + 1 := by simp
        have hX16 := heap_alloc_new wr (.cells #[.slice none 0 0] 44)
        have HTB9 := Lib.hid (HTB.out.add hbx (Nat.le_refl _) (by omega))
        have HWX : Hid (w.heap.size ≤ wr.heap.size) := HTB.out.bel.size
        obtain ⟨X16, HX16N⟩ : ∃ z, Hid (z = wr.heap.size) := ⟨_, rfl⟩
        rw [← HX16N.out] at hX16 HTB9 HWX ⊢
        have HZ9 : Hid (X16 < (wr.alloc (.cells #[.slice none 0 0] 44)).heap.size) := by have := HX16N.out; show _ < _; omega
        clear hbx hz9 HTB HX16N
        generalize wr.alloc (.cells #[.slice none 0 0] 44) = w9 at *
        have HX16 := Lib.hid hX16
        obtain ⟨s9, HS9⟩ : ∃ z, Hid (z = w9.heap.size) := ⟨_, rfl⟩
        rw [← HS9.out] at HZ9
        have HABS : Hid ((∀ k, Sa k → k < s9) ∧ ∀ k, Sb k → k < s9) := by rw [HS9.out]; exact HTB9.out.lt
        have HS9' : Hid (s9 ≤ w9.heap.size) := by rw [HS9.out]; exact Nat.le_refl _
        clear hX16 HS9
        go_loopg [67] nr (fun gk vi wr => ∃ (i : Nat) (As : Option Addr) (ns cs : Nat), gk + i = nr ∧ vi = .int .i64 (i : Int) ∧ TB w 3 9 ba bda bb bdb Sa Sb p2 p2 [X16, X7] wr ∧ wr.heap[X16]? = some (.cells #[.slice As ns cs] 44 (0, 0)) ∧ St wr wr.heap.size As ns cs (spans (R.take (min i 9))) ∧ (∀ b o, As = some ⟨b, o, none⟩ → s9 ≤ b) ∧ s9 ≤ wr.heap.size)
        case atStart => exact ⟨0, none, 0, 0, by omega, rfl, HTB9.out, HX16.out, St.nil_ _ _, fun b o e => (by cases e), HS9'.out⟩
        case round =>
          clear HTB9 HX16 HS9'
          obtain ⟨i, As, ns, cs, hg, rfl, htb, hx16, hst, hfar, hs9⟩ := hrel
          have HG := Lib.hid hg
          have HTB := Lib.hid htb
          have HX16 := Lib.hid hx16
          have HST := Lib.hid hst
          have HFAR := Lib.hid hfar
          have HS9 := Lib.hid hs9
          have hc16 := cell_at hx16 0 (v := .slice As ns cs) rfl
          have hf16 := frz_blk (i := 0) hx16
          have hxz16 := lt_at hx16
          have HNS : Hid (ns ≤ 9) := by
            have h1 := hst.len
            have h2 := spans_len HRS.out.lt (min i 9)
            show ns ≤ 9
            omega
          have HOKS : Hid (Okl (spans (R.take (min i 9)))) := spans_ok fun q hq => HRS.out.lt q (List.mem_of_mem_take hq)
          clear hg htb hx16 hst hfar hs9
          by_cases hk : i < nr
          · have hkI : (i : Int) < (nr : Int) := by omega
            have hk0 : (0 : Int) ≤ (i : Int) := by omega
            obtain ⟨b, o, r, he, hbB, hrk, hr0, hr1, hl0, hl1⟩ := (HRS.out.below HTB.out.bel (Nat.le_refl _)).at_ hk
            subst he
            obtain ⟨r0, r1⟩ := r
            simp only at hr0 hr1 hl0 hl1
            have HRK := Lib.hid hrk
            have HLT : Hid (r0 < two64 ∧ r1 < two64) := ⟨hl0, hl1⟩
            clear hrk hl0 hl1
            by_cases h9 : i < 9
            · have h9I : (i : Int) < 9 := by omega
              have hbx := below_box wr (.cells #[.int .u64 (r0 : Int), .int .u64 (r1 : Int)] 47)
              have hst3 := HST.out.on hbx (Nat.le_refl _)
              have HTB3 := Lib.hid (HTB.out.next hbx)
              have hx3 := (hbx.block X16 (lt_at HX16.out)).trans HX16.out
              have hsp := span_far _ As ns cs r0 r1 s9 (spans (R.take (min i 9))) hst3 HLT.out.1 HLT.out.2 (by have := HNS.out; omega) HFAR.out (Nat.le_trans HS9.out hbx.size)
              have HSP := Lib.hid hsp
              have HX163 := Lib.hid hx3
              have HZ3 := Lib.hid hbx.size
              clear hbx hst3 hx3 hsp
              go_wp2_with fail
              refine HSP.out.mono ?_
              rintro e w12 ⟨A12, n12, c12, rfl, hst12, hfar12, hb12⟩
              have HTB12 := Lib.hid (HTB3.out.next hb12)
              have hx12 := (hb12.block X16 (lt_at HX163.out)).trans HX163.out
              have q16 := cell_at hx12 0 (v := .slice As ns cs) rfl
              have g16 := frz_blk (i := 0) hx12
              have HX12 := Lib.hid hx12
              have HST12 := Lib.hid hst12
              have HFAR12 := Lib.hid hfar12
              have HB12 := Lib.hid hb12
              clear hst12 hfar12 hb12 hx12 HSP
              go_wp2_with fail
              go_roundg (gk - 1)
              case measure => have := HG.out; omega
              case rel =>
                have ho := Only.setCell w12 X16 0 (.slice A12 n12 c12)
                have hm1 : min i 9 = i := by omega
                have hm2 : min (i + 1) 9 = i + 1 := by omega
                refine ⟨i + 1, A12, n12, c12, by have := HG.out; omega, by go_num, HTB12.out.store List.mem_cons_self HWX.out 0 _, at_set HX12.out 0 _, ?_, HFAR12.out, by rw [World.size_setCell]; have := HS9.out; have := HZ3.out; have := HB12.out.size; omega⟩
                rw [hm2, List.take_add_one, HRK.out]
                show St _ _ A12 n12 c12 (spans (R.take i ++ [(r0, r1)]))
                rw [spans_snoc]
                have h1 := HST12.out
                rw [hm1] at h1
                exact h1.same ho.size (fun b o e => ho.block b (h1.lies b o e) (fun e2 => by have := HFAR12.out b o e; have := HZ9.out; omega))
            · have h9I : ¬ (i : Int) < 9 := by omega
              have hbx := below_box wr (.cells #[.int .u64 (r0 : Int), .int .u64 (r1 : Int)] 47)
              have hst3 := HST.out.on hbx (Nat.le_refl _)
              have HTB3 := Lib.hid (HTB.out.next hbx)
              have hx3 := (hbx.block X16 (lt_at HX16.out)).trans HX16.out
              have HST3 := Lib.hid hst3
              have HX163 := Lib.hid hx3
              have HZ3 := Lib.hid hbx.size
              clear hbx hst3 hx3
              go_wp2_with fail
              go_roundg (gk - 1)
              case measure => have := HG.out; omega
              case rel =>
                have hm1 : min i 9 = 9 := by omega
                have hm2 : min (i + 1) 9 = 9 := by omega
                have h1 := HST3.out
                rw [hm1] at h1
                exact ⟨i + 1, As, ns, cs, by have := HG.out; omega, by go_num, HTB3.out, HX163.out, by rw [hm2]; exact h1, HFAR.out, Nat.le_trans HS9.out HZ3.out⟩
          · have hkI : ¬ (i : Int) < (nr : Int) := by omega
            obtain ⟨RS, HRSX⟩ : ∃ z, Hid (z = spans (R.take (min i 9))) := ⟨_, rfl⟩
            rw [← HRSX.out] at HST HOKS
            have HTBK : Hid (TB w 3 9 ba bda bb bdb Sa Sb p2 p2 (blk As ++ [X16, X7]) wr) := HTB.out.puts fun k hk => by
              obtain ⟨o, e⟩ := blk_mem.1 hk
              have h1 := HFAR.out k o e
              exact ⟨HST.out.lies k o e, fun e2 => by have := HABS.out.1 k e2; omega, fun e2 => by have := HABS.out.2 k e2; omega⟩
            have HNS2 : Hid (ns ≤ 9) := HNS.out
            have HRSL : Hid (RS.length ≤ 9) := by have h1 := HST.out.len; have h2 := HNS.out; show _ ≤ 9; omega
            clear HTB HRSX HG HFAR HABS hc16 hf16 hxz16
            have HFL := Lib.hid (bflightP HTBK.out.a (by have := HPF2.out.2.1; omega))
            go_wp2_with fail
            refine HFL.out.mono ?_
            rintro e w13 ⟨Aw, nw, cw, rfl, hst13, hne13, hb13⟩
            have hx13 := (hb13.block X16 (lt_at HX16.out)).trans HX16.out
            have p16 := cell_at hx13 0 (v := .slice As ns cs) rfl
            have pz16 := lt_at hx13
            clear hx13
            go_wp2_with fail
            have hbx := below_box w13 (.cells #[.slice Aw nw cw] 44)
            have hz14 : (w13.alloc (.cells #[.slice Aw nw cw] 44)).heap.size = w13.heap.size + 1 := by simp
            have hX19 := heap_alloc_new w13 (.cells #[.slice Aw nw cw] 44)
            have hb14 := hb13.trans (hbx.mono hb13.size)
            have HTB14 := Lib.hid (HTBK.out.adds hb14 (L := w13.heap.size :: blk Aw) (fun k hk => by
              rcases List.mem_cons.1 hk with rfl | hk
              · exact ⟨hb13.size, by omega⟩
              · obtain ⟨o, e⟩ := blk_mem.1 hk
                have h1 := hst13.lies k o e
                have h2 := hne13 k o e
                omega))
            have HX14 := Lib.hid ((hb14.block X16 (lt_at HX16.out)).trans HX16.out)
            have HST14 := Lib.hid (HST.out.on hb14 (Nat.le_refl _))
            have HSW14 := Lib.hid (hst13.on hbx (Nat.le_refl _))
            have HNW : Hid (nw ≤ 40) := by
              have h1 := hst13.len
              have h2 := of_len p2.fl
              have h3 := HPF2.out.2.1
              show nw ≤ 40
              omega
            have HX16L := Lib.hid (lt_at HX14.out)
            obtain ⟨X19, HX19N⟩ : ∃ z, Hid (z = w13.heap.size) := ⟨_, rfl⟩
            rw [← HX19N.out] at hX19 HTB14 ⊢
            have HX19 := Lib.hid hX19
            clear hst13 hne13 hb13 hbx hz14 hX19 hb14 HFL HX16 HST HTBK HX19N p16 pz16
            generalize w13.alloc (.cells #[.slice Aw nw cw] 44) = w14 at *
            have HT := Lib.hid (btakeP HTB14.out.a (by have := HPF2.out.2.1; omega) (by have := HPF2.out.1; omega) As ns cs RS HST14.out (by have := HNS2.out; omega) HOKS.out)
            refine HT.out.mono ?_
            rintro e w15 ⟨gA, gn, gc, Sa', rfl, hgo15, hb15, ho15, hk15⟩
            have hst := HTB14.out.stepA hb15 ho15 (fun k e => .inl (hk15 k e))
            have HK15 := Lib.hid hst.2
            have hlt := HTB14.out.lt
            have HTB15 := Lib.hid (hst.1.puts (L := (Value.slice gA gn gc).ownBlock.toList) (fun k hk => by
              have h1 := hgo15.lt k (own_mem.1 hk)
              exact ⟨h1.2, fun e => by have := hlt.1 k (hk15 k e); omega, fun e => by have := hlt.2 k e; omega⟩))
            have HGO15 := Lib.hid hgo15
            have HX15 := Lib.hid ((HK15.out X16 (by simp)).trans HX14.out)
            have HY15 := Lib.hid ((HK15.out X19 (by simp)).trans HX19.out)
            have HST15 := Lib.hid (HST14.out.same ho15.size (fun b o e => HK15.out b (by simp; exact .inr (.inr (.inl (blk_mem.2 ⟨o, e⟩))))))
            have HSW15 := Lib.hid (HSW14.out.same ho15.size (fun b o e => HK15.out b (by simp; exact .inr (.inl (blk_mem.2 ⟨o, e⟩)))))
            clear hst hlt hgo15 hb15 ho15 hk15 HT HK15 HST14 HSW14 HX14 HX19 HTB14
            go_wp2_with fail
            have d16 : w15.cell? ⟨X16, 0, none⟩ = some (.slice As ns cs) := cell_at HX15.out 0 rfl
            have HBW : Hid (∀ u : World, Only (fun _ => False) w15 u → Calls Try.prog 32 #[.agg #[.slice As ns cs], .int .u64 (v : Int)] u (SaysS u 0 (belowL RS v))) := fun u hu =>
              below_any u As ns cs v RS (HST15.out.same hu.size (fun b o e => hu.block b (HST15.out.lies b o e) id)).rs HOKS.out (by have := HNS2.out; omega) HV.out
            have HINC : Hid (Inc p2.fl) := HTB15.out.b.ok.inc
            have HTBLT : Hid (∀ x ∈ p2.fl, x < two64) := HTB15.out.b.ok.dl
            have HOKW : Hid (Okl (ofL p2.fl)) := of_ok HTBLT.out
            go_region_held3 (fun w' => w'.cell? ⟨X16, 0, none⟩ = some (.slice As ns cs)) (first | exact d16 | exact d22 | exact d23 | exact d24 | exact d25) (first
              | (go_at_call 15
                 with_reducible refine HT2.out.mono ?_
                 rintro e w25 ⟨hA, hn, hc, Sb25, rfl, hgo25, hb25, ho25, hk25⟩
                 have hst := HTB24.out.stepB hb25 ho25 (fun k e => .inl (hk25 k e))
                 have HK25 := Lib.hid hst.2
                 have hlt := HTB24.out.lt
                 have HTB25 := Lib.hid (hst.1.puts (L := (Value.slice hA hn hc).ownBlock.toList) (fun k hk => by
                   have h1 := hgo25.lt k (own_mem.1 hk)
                   exact ⟨h1.2, fun e => by have := hlt.1 k e; omega, fun e => by have := hlt.2 k (hk25 k e); omega⟩))
                 have HGH := Lib.hid hgo25
                 have HTB22SZ : Hid (w22.heap.size ≤ w23.heap.size ∧ w23.heap.size ≤ w24.heap.size) := ⟨HSZ23.out, HSZ24.out⟩
                 have HX25 := Lib.hid ((HK25.out X16 (by simp)).trans HX24.out)
                 have HY25 := Lib.hid ((HK25.out X19 (by simp)).trans HY24.out)
                 have HST25 := Lib.hid (HST24.out.same ho25.size (fun b o e => HK25.out b (by simp [blk_mem, e])))
                 have HSW25 := Lib.hid (HSW24.out.same ho25.size (fun b o e => HK25.out b (by simp [blk_mem, e])))
                 have HGG25 := Lib.hid (own_same HGG24.out (fun b hb => HK25.out b (by simp [hb])))
                 have HGL25 := Lib.hid (own_same HGL24.out (fun b hb => HK25.out b (by simp [hb])))
                 have HLL25 : Hid (∀ b, (Value.slice hA hn hc).ownBlock = some b → w24.heap.size ≤ b) := fun b hb => (hgo25.lt b hb).1
                 have d25 : w25.cell? ⟨X16, 0, none⟩ = some (.slice As ns cs) := cell_at HX25.out 0 rfl
                 have HSZ25 := Lib.hid ho25.size
                 clear hst hlt hgo25 hb25 ho25 hk25)
              | (go_at_call 33
                 with_reducible refine HFR.out.mono ?_
                 rintro e w24 ⟨A24, n24, c24, rfl, hst24, hne24, hb24⟩
                 have HTB24 := Lib.hid (HTB23.out.next hb24)
                 have HX24 := Lib.hid ((hb24.block X16 (lt_at HX23.out)).trans HX23.out)
                 have HY24 := Lib.hid ((hb24.block X19 (lt_at HY23.out)).trans HY23.out)
                 have HST24 := Lib.hid (HST23.out.on hb24 (Nat.le_refl _))
                 have HSW24 := Lib.hid (HSW23.out.on hb24 (Nat.le_refl _))
                 have HGG24 := Lib.hid (own_same HGG23.out (fun b hb => hb24.block b (HGG23.out.lt b hb).2))
                 have HGL24 := Lib.hid (own_same HGL23.out (fun b hb => hb24.block b (HGL23.out.lt b hb).2))
                 have HT2 := Lib.hid (btakeP HTB24.out.b (by have h1 := HPF2.out.2.1; have h2 := List.length_filter_le (fun x => !inR (belowL RS v) x) p2.fl; show (p2.fl.filter _).length ≤ 1000; omega) (by have := HPF2.out.1; show p2.last ≤ _; omega) A24 n24 c24 (fromL RS v) hst24 (by have h1 := hst24.len; have h2 := from_len HOKS.out HV.out; have h3 := HRSL.out; omega) (from_ok HOKS.out HV.out))
                 have d24 : w24.cell? ⟨X16, 0, none⟩ = some (.slice As ns cs) := cell_at HX24.out 0 rfl
                 have HSZ24 := Lib.hid hb24.size
                 clear hst24 hne24 hb24)
              | (go_at_call 15
                 with_reducible refine HT1.out.mono ?_
                 rintro e w23 ⟨lA, ln, lc, Sb23, rfl, hgo23, hb23, ho23, hk23⟩
                 have hst := HTB22.out.stepB hb23 ho23 (fun k e => .inl (hk23 k e))
                 have HK23 := Lib.hid hst.2
                 have hlt := HTB22.out.lt
                 have HTB23 := Lib.hid (hst.1.puts (L := (Value.slice lA ln lc).ownBlock.toList) (fun k hk => by
                   have h1 := hgo23.lt k (own_mem.1 hk)
                   exact ⟨h1.2, fun e => by have := hlt.1 k e; omega, fun e => by have := hlt.2 k (hk23 k e); omega⟩))
                 have HGL23 := Lib.hid hgo23
                 have HX23 := Lib.hid ((HK23.out X16 (by simp)).trans HX22.out)
                 have HY23 := Lib.hid ((HK23.out X19 (by simp)).trans HY22.out)
                 have HST23 := Lib.hid (HST22.out.same ho23.size (fun b o e => HK23.out b (by simp [blk_mem, e])))
                 have HSW23 := Lib.hid (HSW22.out.same ho23.size (fun b o e => HK23.out b (by simp [blk_mem, e])))
                 have HGG23 := Lib.hid (own_same HGG22.out (fun b hb => HK23.out b (by simp [hb])))
                 have HLB23 : Hid (∀ b, (Value.slice lA ln lc).ownBlock = some b → b < w23.heap.size) := fun b hb => (hgo23.lt b hb).2
                 have HLL23 : Hid (∀ b, (Value.slice lA ln lc).ownBlock = some b → w22.heap.size ≤ b) := fun b hb => (hgo23.lt b hb).1
                 have HFR := Lib.hid (from_any w23 As ns cs v RS HST23.out HOKS.out (by have := HNS2.out; omega) HV.out)
                 have d23 : w23.cell? ⟨X16, 0, none⟩ = some (.slice As ns cs) := cell_at HX23.out 0 rfl
                 have HSZ23 := Lib.hid ho23.size
                 clear hst hlt hgo23 hb23 ho23 hk23)
              | (go_at_call 32
                 refine (HBW.out _ (Only.refl _ w15).drew).mono ?_
                 rintro e w22 ⟨A22, n22, c22, rfl, hst22, hne22, hb22⟩
                 have hb22' : RowKit.Below w15.heap.size w15 w22 := (below_drewN (RowKit.Below.refl _ _) 1).trans hb22
                 have HTB22 := Lib.hid (HTB15.out.adds hb22' (L := blk A22) (fun k hk => by
                   obtain ⟨o, e⟩ := blk_mem.1 hk
                   have h1 := hst22.lies k o e
                   have h2 : k < 0 ∨ w15.heap.size ≤ k := hne22 k o e
                   omega))
                 have HX22 := Lib.hid ((hb22'.block X16 (lt_at HX15.out)).trans HX15.out)
                 have HY22 := Lib.hid ((hb22'.block X19 (lt_at HY15.out)).trans HY15.out)
                 have HST22 := Lib.hid (HST15.out.on hb22' (Nat.le_refl _))
                 have HSW22 := Lib.hid (HSW15.out.on hb22' (Nat.le_refl _))
                 have HGG22 := Lib.hid (own_same HGO15.out (fun b hb => hb22'.block b (HGO15.out.lt b hb).2))
                 have HT1 := Lib.hid (btakeP HTB22.out.b (by have := HPF2.out.2.1; omega) (by have := HPF2.out.1; omega) A22 n22 c22 (belowL RS v) hst22 (by have h1 := hst22.len; have h2 := below_len HOKS.out HV.out; have h3 := HRSL.out; omega) (below_ok HOKS.out HV.out))
                 have d22 : w22.cell? ⟨X16, 0, none⟩ = some (.slice As ns cs) := cell_at HX22.out 0 rfl
                 have HLG22 : Hid (∀ b, (Value.slice gA gn gc).ownBlock = some b → b < w22.heap.size) := fun b hb => (HGG22.out.lt b hb).2
                 have HXL : Hid (X16 < w22.heap.size ∧ X19 < w22.heap.size) := ⟨lt_at HX22.out, lt_at HY22.out⟩
                 have HSL22 : Hid ((∀ b o, As = some ⟨b, o, none⟩ → b < w22.heap.size) ∧ (∀ b o, Aw = some ⟨b, o, none⟩ → b < w22.heap.size)) := ⟨HST22.out.lies, HSW22.out.lies⟩
                 clear hst22 hne22 hb22 hb22'))
            have hpp := takeP_parts (below_from HOKS.out HV.out) p2
            rw [hpp] at HTB25
            have HPZF : Hid ((takeP RS p2).last ≤ 2 ∧ (takeP RS p2).fl.length ≤ 40 ∧ (∀ g ∈ (takeP RS p2).V, g.2.1 = 1) ∧ (takeP RS p2).fl = p2.fl.filter (fun x => !inR RS x)) := by
              refine ⟨HPF2.out.1, Nat.le_trans (List.length_filter_le _ _) HPF2.out.2.1, fun g hg => ?_, rfl⟩
              unfold takeP takeV at hg
              simp only at hg
              obtain ⟨z, hz, rfl⟩ := List.mem_map.1 (List.mem_filter.1 hg).1
              exact HPF2.out.2.2 z hz
            obtain ⟨pz, HPZ⟩ : ∃ z, Hid (z = takeP RS p2) := ⟨_, rfl⟩
            rw [← HPZ.out] at HTB25 HPZF
            have HPZE : Hid (pz.E.length ≤ 2) := by
              have h1 := HTB25.out.a.ok.ie.length_eq
              have h2 := HTB25.out.a.ok.gl
              have h3 := HPZF.out.1
              unfold ids at h1
              rw [List.length_map, List.length_map] at h1
              show _ ≤ 2
              omega
            have HPOK := Lib.hid HTB25.out.a.ok
            have HHI : Hid ((List.filter (inR (fromL RS v)) (takeP (belowL RS v) p2).fl) = (p2.fl.filter (fun x => !inR (belowL RS v) x)).filter (inR (fromL RS v))) := rfl
            have HLG25 : Hid (w22.heap.size ≤ w24.heap.size) := Nat.le_trans HTB22SZ.out.1 HTB22SZ.out.2
            clear hpp HPZ HTB15 HTB22 HTB23 HTB24 HX15 HX22 HX23 HX24 HY15 HY22 HY23 HY24 HST15 HST23 HST24 HSW15 HSW23 HSW24 HGO15 HGG22 HGG23 HGG24 HGL23 HGL24 HT1 HFR HT2 HBW d16 d22 d23 d24 d25 HK23 HK25
            have HD := Lib.hid (bdueP HTB25.out.a (by have := HPZF.out.1; omega) (by have := HPZF.out.2.1; omega) (fun g hg => by have := HPZF.out.2.2.1 g hg; omega) 100 (by omega))
            go_wp2_with fail
            refine HD.out.mono ?_
            rintro e w26 ⟨D, dn, dc, rows, Sa26, rfl, hb26, hdr26, hrr26, hrw26, ho26, hk26⟩
            have hst := HTB25.out.stepA hb26 ho26 hk26
            have HTB26 := Lib.hid hst.1
            have HK26 := Lib.hid hst.2
            have HX26 := Lib.hid ((HK26.out X16 (by simp)).trans HX25.out)
            have HY26 := Lib.hid ((HK26.out X19 (by simp)).trans HY25.out)
            have HST26 := Lib.hid (HST25.out.same ho26.size (fun b o e => HK26.out b (by simp [blk_mem, e])))
            have HSW26 := Lib.hid (HSW25.out.same ho26.size (fun b o e => HK26.out b (by simp [blk_mem, e])))
            have HGG26 := Lib.hid (own_same HGG25.out (fun b hb => HK26.out b (by simp [hb])))
            have HGL26 := Lib.hid (own_same HGL25.out (fun b hb => HK26.out b (by simp [hb])))
            have HGH26 := Lib.hid (own_same HGH.out (fun b hb => HK26.out b (by simp [hb])))
            have HSB25 : Hid (∀ k, Sb25 k → k < w25.heap.size) := HTB25.out.lt.2
            have HDR26 := Lib.hid hdr26
            have HRR26 := Lib.hid hrr26
            have HRW26 := Lib.hid hrw26
            have HSZ26 : Hid (w24.heap.size ≤ w26.heap.size) := Nat.le_trans HSZ25.out ho26.size
            clear hst hb26 hdr26 hrr26 hrw26 ho26 hk26 HD HX25 HY25 HST25 HSW25 HGG25 HGL25 HGH HTB25
            have HD := Lib.hid (bdueP HTB26.out.b (by have := HPZF.out.1; omega) (by have := HPZF.out.2.1; omega) (fun g hg => by have := HPZF.out.2.2.1 g hg; omega) 100 (by omega))
            go_wp2_with fail
            refine HD.out.mono ?_
            rintro e w27 ⟨D2, dn2, dc2, rows2, Sb27, rfl, hb27, hdr27, hrr27, hrw27, ho27, hk27⟩
            have hst := HTB26.out.stepB hb27 ho27 hk27
            have HTB27 := Lib.hid hst.1
            have HK27 := Lib.hid hst.2
            have HX27 := Lib.hid ((HK27.out X16 (by simp)).trans HX26.out)
            have HY27 := Lib.hid ((HK27.out X19 (by simp)).trans HY26.out)
            have HST27 := Lib.hid (HST26.out.same ho27.size (fun b o e => HK27.out b (by simp [blk_mem, e])))
            have HSW27 := Lib.hid (HSW26.out.same ho27.size (fun b o e => HK27.out b (by simp [blk_mem, e])))
            have HGG27 : Hid (OwnN w27 w14.heap.size gA gn gc (p2.fl.filter (inR RS))) := (own_same HGG26.out (fun b hb => HK27.out b (by simp [hb])))
            have HGL27 : Hid (OwnN w27 w22.heap.size lA ln lc (p2.fl.filter (inR (belowL RS v)))) := (own_same HGL26.out (fun b hb => HK27.out b (by simp [hb])))
            have HGH27 : Hid (OwnN w27 w24.heap.size hA hn hc ((p2.fl.filter (fun x => !inR (belowL RS v) x)).filter (inR (fromL RS v)))) := (own_same HGH26.out (fun b hb => HK27.out b (by simp [hb])))
            have HDR := Lib.hid (own_same HDR26.out (fun b hb => ho27.block b (HDR26.out.lt b hb).2 (fun e => by have := HSB25.out b e; have := (HDR26.out.lt b hb).1; omega)))
            have HRR : Hid (∀ r ∈ rows, OwnN w27 w25.heap.size r.A r.n r.c r.l) := fun r hr => own_same (HRR26.out r hr) (fun b hb => ho27.block b ((HRR26.out r hr).lt b hb).2 (fun e => by have := HSB25.out b e; have := ((HRR26.out r hr).lt b hb).1; omega))
            have HDR2 := Lib.hid hdr27
            have HRR2 := Lib.hid hrr27
            have hdd : dn2 = dn := by
              have h1 := hdr27.1
              have h2 := HDR26.out.1
              have h3 := congrArg List.length (hrw27.trans HRW26.out.symm)
              rw [List.length_map] at h1 h2
              rw [List.length_map, List.length_map] at h3
              omega
            subst hdd
            have HDN : Hid (rows.length = dn2 ∧ rows2.length = dn2 ∧ dn2 ≤ 2) := by
              have h1 := hdr27.1
              have h2 := HDR26.out.1
              rw [List.length_map] at h1 h2
              have h3 := congrArg List.length HRW26.out
              unfold dueRows ids dueE at h3
              rw [List.length_map, List.length_map, List.length_map] at h3
              have h4 : (pz.E.takeWhile (fun e => decide (e.2 ≤ 100))).length ≤ pz.E.length := (List.takeWhile_sublist _).length_le
              have h8 := HPZE.out
              exact ⟨by omega, by omega, by omega⟩
            have HRW2 : Hid (rows2.map (·.l) = rows.map (·.l)) := hrw27.trans HRW26.out.symm
            have HLOW : Hid (∀ b, (Value.slice lA ln lc).ownBlock = some b → b ∈ (Value.slice lA ln lc).ownBlock.toList ∧ w22.heap.size ≤ b) := fun b hb => ⟨own_mem.2 hb, HLL23.out b hb⟩
            have HSZ27 : Hid (w24.heap.size ≤ w27.heap.size) := Nat.le_trans HSZ26.out ho27.size
            clear hst hb27 hdr27 hrr27 hrw27 ho27 hk27 HD HX26 HY26 HST26 HSW26 HGG26 HGL26 HGH26 HTB26 HK26 HK27 HDR26 HRR26
            have HOF : Hid (∀ u : World, Only (fun _ => False) w27 u → Calls Try.prog 24 #[.slice gA gn gc] u (SaysS u 0 (ofL (p2.fl.filter (inR RS))))) := fun u hu =>
              ofA_any u gA gn gc _ (Sn.of_own (own_same HGG27.out (fun b hb => hu.block b (HGG27.out.lt b hb).2 id))) (fun x hx => HTBLT.out x (List.mem_filter.1 hx).1) (by have h1 := HGG27.out.len; have h2 := List.length_filter_le (inR RS) p2.fl; have h3 := HPF2.out.2.1; omega)
            have q16 : w27.cell? ⟨X16, 0, none⟩ = some (.slice As ns cs) := cell_at HX27.out 0 rfl
            have q19 : w27.cell? ⟨X19, 0, none⟩ = some (.slice Aw nw cw) := cell_at HY27.out 0 rfl
            go_wp2_with fail
            obtain ⟨i0, hi0, hz0, hz1, hz2⟩ := info_parts u64_info
            have HI := Lib.hid (And.intro hi0 (And.intro hz0 (And.intro hz1 hz2)))
            clear hi0 hz0 hz1 hz2
            refine wp_region_noPanic ?_
            refine wp_region_held_drew (S := (fun w' => w'.cell? ⟨X16, 0, none⟩ = some (.slice As ns cs) ∧ w'.cell? ⟨X19, 0, none⟩ = some (.slice Aw nw cw))) (by kernel_rfl) ⟨q16, q19⟩ (fun hHeld => ?_)
            refine wpAnyH_take (i := 0) (oi := { dst := some 100, op := Op.move (Operand.tmp 20), type := 37, pos := "law.go:212", after := #[], guard := none }) (v := ?_) rfl (by kernel_rfl) (by kernel_rfl) (by kernel_rfl) (fun _ _ _ h => h) (Or.inl ⟨by rfl, ?_⟩) (by assumption) ?_
            rotate_left
            · intro w hSw; (try dsimp only at hSw); first | (go_simp; done) | (go_simp; with_reducible rfl)
            try simp only [Act.put, List.setIfInBounds_toArray, List.set_cons_zero, List.set_cons_succ]
            refine wpAnyH_take (i := 2) (oi := { dst := some 102, op := Op.load 44 (Operand.tmp 19), type := 44, pos := "law.go:212", after := #[], guard := none }) (v := ?_) rfl (by kernel_rfl) (by kernel_rfl) (by kernel_rfl) (fun _ _ _ h => h) (Or.inl ⟨by rfl, ?_⟩) (by assumption) ?_
            rotate_left
            · intro w hSw; (try dsimp only at hSw); first | (go_simp; done) | (go_simp; with_reducible rfl)
            try simp only [Act.put, List.setIfInBounds_toArray, List.set_cons_zero, List.set_cons_succ]
            refine wpAnyH_take (i := 3) (oi := { dst := some 103, op := Op.load 44 (Operand.tmp 19), type := 44, pos := "law.go:212", after := #[], guard := none }) (v := ?_) rfl (by kernel_rfl) (by kernel_rfl) (by kernel_rfl) (fun _ _ _ h => h) (Or.inl ⟨by rfl, ?_⟩) (by assumption) ?_
            rotate_left
            · intro w hSw; (try dsimp only at hSw); first | (go_simp; done) | (go_simp; with_reducible rfl)
            try simp only [Act.put, List.setIfInBounds_toArray, List.set_cons_zero, List.set_cons_succ]
            refine wpAnyH_take (i := 4) (oi := { dst := some 104, op := Op.load 44 (Operand.tmp 16), type := 44, pos := "law.go:212", after := #[], guard := none }) (v := ?_) rfl (by kernel_rfl) (by kernel_rfl) (by kernel_rfl) (fun _ _ _ h => h) (Or.inl ⟨by rfl, ?_⟩) (by assumption) ?_
            rotate_left
            · intro w hSw; (try dsimp only at hSw); first | (go_simp; done) | (go_simp; with_reducible rfl)
            try simp only [Act.put, List.setIfInBounds_toArray, List.set_cons_zero, List.set_cons_succ]
            refine wpAnyH_ready (rs := [1]) (by kernel_rfl) (by simp) ?_
            refine (AllReadyH.cons (o := { dst := some 101, op := Op.call { callee := Callee.value (Operand.func 24), args := #[Operand.tmp 100], argTypes := #[37] }, type := 44, pos := "law.go:212", after := #[{ on := 0, ground := Ground.data }], guard := none }) rfl (fun K hK => ?_) AllReadyH.nil)
            go_simp
            go_at_call 24
            refine (HOF.out _ (Only.refl _ w27).drew).mono ?_
            rintro e w31 ⟨A31, n31, c31, rfl, hst31, hne31, hb31⟩
            have HB31 : Hid (RowKit.Below w27.heap.size w27 w31) := (below_drewN (RowKit.Below.refl _ _) 1).trans hb31
            have HS31 := Lib.hid hst31
            have HLE1 := Lib.hid (rless_any w31 Aw As nw cw ns cs (ofL p2.fl) RS (HSW27.out.on HB31.out (Nat.le_refl _)).rs (HST27.out.on HB31.out (Nat.le_refl _)).rs HOKW.out HOKS.out (by have := HNW.out; omega) (by have := HNS2.out; omega))
            have hKeep : w31.cell? ⟨X16, 0, none⟩ = some (.slice As ns cs) ∧ w31.cell? ⟨X19, 0, none⟩ = some (.slice Aw nw cw) := ⟨(HB31.out.cell (p := ⟨X16, 0, none⟩) (lt_at HX27.out)).trans q16, (HB31.out.cell (p := ⟨X19, 0, none⟩) (lt_at HY27.out)).trans q19⟩
            clear hst31 hne31 hb31
            go_wp2_with fail
            clear hHeld
            refine hK.out _ _ hKeep (fun hHeld => ?_)
            clear hK K
            try simp only [Act.put, List.setIfInBounds_toArray, List.set_cons_zero, List.set_cons_succ]
            refine wpAnyH_ready (rs := [5]) (by kernel_rfl) (by simp) ?_
            refine (AllReadyH.cons (o := { dst := some 105, op := Op.call { callee := Callee.value (Operand.func 34), args := #[Operand.tmp 103, Operand.tmp 104], argTypes := #[44, 44] }, type := 44, pos := "law.go:212", after := #[{ on := 3, ground := Ground.data }, { on := 4, ground := Ground.data }, { on := 1, ground := Ground.chain }], guard := none }) rfl (fun K hK => ?_) AllReadyH.nil)
            go_simp
            go_at_call 34
            with_reducible refine HLE1.out.mono ?_
            rintro e w32 ⟨A32, n32, c32, rfl, hst32, hne32, hb32⟩
            have HB32 := Lib.hid (HB31.out.trans (hb32.mono HB31.out.size))
            have hb32C := Lib.hid hb32
            have HLE2 := Lib.hid (rless_any w32 Aw A32 nw cw n32 c32 (ofL p2.fl) _ (HSW27.out.on HB32.out (Nat.le_refl _)).rs hst32.rs HOKW.out (less_ok HOKW.out HOKS.out) (by have := HNW.out; omega) (by have h1 := hst32.len; have h2 := less_len (t := RS) HOKW.out; have h3 := HRSL.out; have h4 := of_len p2.fl; have h5 := HPF2.out.2.1; omega))
            have hKeep : w32.cell? ⟨X16, 0, none⟩ = some (.slice As ns cs) ∧ w32.cell? ⟨X19, 0, none⟩ = some (.slice Aw nw cw) := ⟨(HB32.out.cell (p := ⟨X16, 0, none⟩) (lt_at HX27.out)).trans q16, (HB32.out.cell (p := ⟨X19, 0, none⟩) (lt_at HY27.out)).trans q19⟩
            clear hst32 hne32 hb32
            go_wp2_with fail
            clear hHeld
            refine hK.out _ _ hKeep (fun hHeld => ?_)
            clear hK K
            try simp only [Act.put, List.setIfInBounds_toArray, List.set_cons_zero, List.set_cons_succ]
            refine wpAnyH_ready (rs := [6]) (by kernel_rfl) (by simp) ?_
            refine (AllReadyH.cons (o := { dst := some 106, op := Op.call { callee := Callee.value (Operand.func 34), args := #[Operand.tmp 102, Operand.tmp 105], argTypes := #[44, 44] }, type := 44, pos := "law.go:212", after := #[{ on := 2, ground := Ground.data }, { on := 5, ground := Ground.data }, { on := 5, ground := Ground.chain }], guard := none }) rfl (fun K hK => ?_) AllReadyH.nil)
            go_simp
            go_at_call 34
            with_reducible refine HLE2.out.mono ?_
            rintro e w33 ⟨A33, n33, c33, rfl, hst33, hne33, hb33⟩
            have HB33 := Lib.hid (HB32.out.trans (hb33.mono HB32.out.size))
            have HSM1 := Lib.hid (setSame_any w33 A31 A33 n31 c31 n33 c33 _ _ ((HS31.out.on hb32C.out (Nat.le_refl _)).on hb33 (Nat.le_refl _)).rs hst33.rs)
            have hs1 : sameR (ofL (p2.fl.filter (inR RS))) (lessL (ofL p2.fl) (lessL (ofL p2.fl) RS)) = true := same_twice HOKW.out HOKS.out
            rw [hs1] at HSM1
            have hKeep : w33.cell? ⟨X16, 0, none⟩ = some (.slice As ns cs) ∧ w33.cell? ⟨X19, 0, none⟩ = some (.slice Aw nw cw) := ⟨(HB33.out.cell (p := ⟨X16, 0, none⟩) (lt_at HX27.out)).trans q16, (HB33.out.cell (p := ⟨X19, 0, none⟩) (lt_at HY27.out)).trans q19⟩
            clear hst33 hne33 hb33 hs1
            go_wp2_with fail
            clear hHeld
            refine hK.out _ _ hKeep (fun hHeld => ?_)
            clear hK K
            try simp only [Act.put, List.setIfInBounds_toArray, List.set_cons_zero, List.set_cons_succ]
            refine wpAnyH_ready (rs := [7]) (by kernel_rfl) (by simp) ?_
            refine (AllReadyH.cons (o := { dst := some 107, op := Op.call { callee := Callee.value (Operand.func 28), args := #[Operand.tmp 101, Operand.tmp 106], argTypes := #[44, 44] }, type := 4, pos := "law.go:212", after := #[{ on := 1, ground := Ground.data }, { on := 6, ground := Ground.data }, { on := 6, ground := Ground.chain }], guard := none }) rfl (fun K hK => ?_) AllReadyH.nil)
            go_simp
            go_at_call 28
            refine HSM1.out.mono ?_
            rintro e w34 ⟨rfl, hb34⟩
            have HB34 := Lib.hid (HB33.out.trans (hb34.mono HB33.out.size))
            have hl34 : OwnN w34 w22.heap.size lA ln lc (p2.fl.filter (inR (belowL RS v))) := own_same HGL27.out (fun b hb => HB34.out.block b (HGL27.out.lt b hb).2)
            have hh34 : OwnN w34 w24.heap.size hA hn hc ((p2.fl.filter (fun x => !inR (belowL RS v) x)).filter (inR (fromL RS v))) := own_same HGH27.out (fun b hb => HB34.out.block b (HGH27.out.lt b hb).2)
            have hlen34 : ln ≤ 40 ∧ hn ≤ 40 := by
              have h1 := hl34.len
              have h2 := hh34.len
              have h3 := List.length_filter_le (inR (belowL RS v)) p2.fl
              have h4 := List.length_filter_le (inR (fromL RS v)) (p2.fl.filter (fun x => !inR (belowL RS v) x))
              have h5 := List.length_filter_le (fun x => !inR (belowL RS v) x) p2.fl
              have h6 := HPF2.out.2.1
              exact ⟨by omega, by omega⟩
            have HGL34 := Lib.hid hl34
            have HGH34 := Lib.hid hh34
            have HLEN34 := Lib.hid hlen34
            have hKeep : w34.cell? ⟨X16, 0, none⟩ = some (.slice As ns cs) ∧ w34.cell? ⟨X19, 0, none⟩ = some (.slice Aw nw cw) := ⟨(HB34.out.cell (p := ⟨X16, 0, none⟩) (lt_at HX27.out)).trans q16, (HB34.out.cell (p := ⟨X19, 0, none⟩) (lt_at HY27.out)).trans q19⟩
            clear hb34 hl34 hh34 hlen34
            go_wp2_with fail
            clear hHeld
            refine hK.out _ _ hKeep (fun hHeld => ?_)
            clear hK K
            try simp only [Act.put, List.setIfInBounds_toArray, List.set_cons_zero, List.set_cons_succ]
            refine wpAnyH_take (i := 8) (oi := { dst := some 108, op := Op.unOp UnOp.not 4 (Operand.tmp 107), type := 4, pos := "law.go:212", after := #[{ on := 7, ground := Ground.data }], guard := none }) (v := ?_) rfl (by kernel_rfl) (by kernel_rfl) (by kernel_rfl) (fun _ _ _ h => h) (Or.inl ⟨by rfl, ?_⟩) (by assumption) ?_
            rotate_left
            · intro w hSw; (try dsimp only at hSw); first | (go_simp; done) | (go_simp; with_reducible rfl)
            try simp only [Act.put, List.setIfInBounds_toArray, List.set_cons_zero, List.set_cons_succ]
            refine wpAnyH_take (i := 9) (oi := { dst := some 109, op := Op.move (Operand.tmp 108), type := 4, pos := "law.go:212", after := #[{ on := 8, ground := Ground.data }, { on := 7, ground := Ground.chain }], guard := none }) (v := ?_) rfl (by kernel_rfl) (by kernel_rfl) (by kernel_rfl) (fun _ _ _ h => h) (Or.inl ⟨by rfl, ?_⟩) (by assumption) ?_
            rotate_left
            · intro w hSw; (try dsimp only at hSw); first | (go_simp; done) | (go_simp; with_reducible rfl)
            try simp only [Act.put, List.setIfInBounds_toArray, List.set_cons_zero, List.set_cons_succ]
            refine wpAnyH_take (i := 10) (oi := { dst := some 110, op := Op.move (Operand.tmp 20), type := 37, pos := "law.go:212", after := #[{ on := 9, ground := Ground.guard }], guard := some (9, false) }) (v := ?_) rfl (by kernel_rfl) (by kernel_rfl) (by kernel_rfl) (fun _ _ _ h => h) (Or.inl ⟨by rfl, ?_⟩) (by assumption) ?_
            rotate_left
            · intro w hSw; (try dsimp only at hSw); first | (go_simp; done) | (go_simp; with_reducible rfl)
            try simp only [Act.put, List.setIfInBounds_toArray, List.set_cons_zero, List.set_cons_succ]
            refine wpAnyH_take (i := 11) (oi := { dst := some 111, op := Op.move (Operand.tmp 21), type := 37, pos := "law.go:212", after := #[{ on := 9, ground := Ground.guard }], guard := some (9, false) }) (v := ?_) rfl (by kernel_rfl) (by kernel_rfl) (by kernel_rfl) (fun _ _ _ h => h) (Or.inl ⟨by rfl, ?_⟩) (by assumption) ?_
            rotate_left
            · intro w hSw; (try dsimp only at hSw); first | (go_simp; done) | (go_simp; with_reducible rfl)
            try simp only [Act.put, List.setIfInBounds_toArray, List.set_cons_zero, List.set_cons_succ]
            refine wpAnyH_take (i := 12) (oi := { dst := some 112, op := Op.move (Operand.tmp 22), type := 37, pos := "law.go:212", after := #[{ on := 9, ground := Ground.guard }], guard := some (9, false) }) (v := ?_) rfl (by kernel_rfl) (by kernel_rfl) (by kernel_rfl) (fun _ _ _ h => h) (Or.inl ⟨by rfl, ?_⟩) (by assumption) ?_
            rotate_left
            · intro w hSw; (try dsimp only at hSw); first | (go_simp; done) | (go_simp; with_reducible rfl)
            try simp only [Act.put, List.setIfInBounds_toArray, List.set_cons_zero, List.set_cons_succ]
            refine wpAnyH_ready (rs := [13]) (by kernel_rfl) (by simp) ?_
            refine (AllReadyH.cons (o := { dst := some 113, op := Op.call { callee := Callee.builtin Builtin.append, args := #[Operand.tmp 111, Operand.tmp 112], argTypes := #[37, 37] }, type := 37, pos := "law.go:212", after := #[{ on := 11, ground := Ground.data }, { on := 12, ground := Ground.data }, { on := 9, ground := Ground.chain }, { on := 9, ground := Ground.guard }], guard := some (9, false) }) rfl (fun K hK => ?_) AllReadyH.nil)
            rw [if_pos (by rfl)]
            refine oper_append_dstN (.tmp 111) (.tmp 112) 37 37 rfl w22.heap.size 34 i0 _ 1 8 Try.underlying37 HI.out.1 HI.out.2.1 HI.out.2.2.1 HI.out.2.2.2 rfl lA ln lc (nvs (p2.fl.filter (inR (belowL RS v)))) rfl (.inr HGL34.out) _ hn (nvs ((p2.fl.filter (fun x => !inR (belowL RS v) x)).filter (inR (fromL RS v)))) rfl ((Sn.of_own HGH34.out).src Try.underlying37 (nvs_one _)) (by have := HLEN34.out; omega) (by have := HLEN34.out; omega) (by have := HB34.out.size; have := HLG25.out; have := HSZ27.out; omega) ?_
            intro A35 c35 w35 _ _ h35 hb35 hg35 hn35
            have HCAT : Hid (OwnN w35 w22.heap.size A35 (ln + hn) c35 (p2.fl.filter (inR RS))) := by
              have h1 := h35 HGL34.out
              have h2 := gone_parts HINC.out HOKS.out HV.out
              show OwnN _ _ _ _ _ _
              rw [h2]
              unfold OwnN nvs at h1 ⊢
              rw [List.map_append]
              exact h1
            have HG35 := Lib.hid (grown_any hg35)
            have HLW : Hid (∀ b, (Value.slice lA ln lc).ownBlock = some b → w22.heap.size ≤ b) := HLL23.out
            have k35 : ∀ b, b < w22.heap.size → w35.heap[b]? = w34.heap[b]? := fun b hb => HG35.out.block b (by have := HB34.out.size; have := HLG25.out; have := HSZ27.out; omega) (fun e => by have := HLW.out b e.symm; omega)
            have HK35 := Lib.hid k35
            have hKeep : w35.cell? ⟨X16, 0, none⟩ = some (.slice As ns cs) ∧ w35.cell? ⟨X19, 0, none⟩ = some (.slice Aw nw cw) := ⟨(World.cell?_of_block (a := ⟨X16, 0, none⟩) (HK35.out X16 HXL.out.1)).trans hKeep.1, (World.cell?_of_block (a := ⟨X19, 0, none⟩) (HK35.out X19 HXL.out.2)).trans hKeep.2⟩
            have HSZ35 := Lib.hid hg35.size
            have HC35 := Lib.hid hKeep
            have HST34 := Lib.hid (HST27.out.on HB34.out (Nat.le_refl _))
            have HSW34 := Lib.hid (HSW27.out.on HB34.out (Nat.le_refl _))
            have HST35 := Lib.hid (HST34.out.same HSZ35.out (fun b o e => HK35.out b (HSL22.out.1 b o e)))
            have HSW35 := Lib.hid (HSW34.out.same HSZ35.out (fun b o e => HK35.out b (HSL22.out.2 b o e)))
            have HGG34 : Hid (OwnN w34 w14.heap.size gA gn gc (p2.fl.filter (inR RS))) := own_same HGG27.out (fun b hb => HB34.out.block b (HGG27.out.lt b hb).2)
            have HGG35 : Hid (OwnN w35 w14.heap.size gA gn gc (p2.fl.filter (inR RS))) := own_same HGG34.out (fun b hb => HK35.out b (HLG22.out b hb))
            have HA35 := Lib.hid ((HTB27.out.a.below HB34.out).only (Only.of_grown HG35.out (S := fun k => some k = (Value.slice lA ln lc).ownBlock) (fun k e => e)) (fun k _ e => (HTB27.out.kk k (by simp [← e])).2.1))
            have HEQ := Lib.hid (eqn_yes w35 gA A35 gn gc (ln + hn) c35 (p2.fl.filter (inR RS)) (Sn.of_own HGG35.out) (Sn.of_own HCAT.out))
            clear h35 hb35 hg35 hn35 k35
            clear hHeld
            refine hK.out _ _ hKeep (fun hHeld => ?_)
            clear hK K
            try simp only [Act.put, List.setIfInBounds_toArray, List.set_cons_zero, List.set_cons_succ]
            refine wpAnyH_ready (rs := [14]) (by kernel_rfl) (by simp) ?_
            refine (AllReadyH.cons (o := { dst := some 114, op := Op.call { callee := Callee.value (Operand.func 14), args := #[Operand.tmp 110, Operand.tmp 113], argTypes := #[37, 37] }, type := 4, pos := "law.go:212", after := #[{ on := 10, ground := Ground.data }, { on := 13, ground := Ground.data }, { on := 13, ground := Ground.chain }, { on := 9, ground := Ground.guard }], guard := some (9, false) }) rfl (fun K hK => ?_) AllReadyH.nil)
            go_simp
            go_at_call 14
            with_reducible refine HEQ.out.mono ?_
            rintro e w36 ⟨rfl, hb36⟩
            have HB36 := Lib.hid hb36
            have HFL36 := Lib.hid (bflightP (HA35.out.below hb36) (show pz.fl.length < 50 by have := HPZF.out.2.1; omega))
            have hKeep : w36.cell? ⟨X16, 0, none⟩ = some (.slice As ns cs) ∧ w36.cell? ⟨X19, 0, none⟩ = some (.slice Aw nw cw) := ⟨(HB36.out.cell (p := ⟨X16, 0, none⟩) (World.block_lt_of_cell? _ _ HC35.out.1)).trans HC35.out.1, (HB36.out.cell (p := ⟨X19, 0, none⟩) (World.block_lt_of_cell? _ _ HC35.out.2)).trans HC35.out.2⟩
            clear hb36
            go_wp2_with fail
            clear hHeld
            refine hK.out _ _ hKeep (fun hHeld => ?_)
            clear hK K
            try simp only [Act.put, List.setIfInBounds_toArray, List.set_cons_zero, List.set_cons_succ]
            refine wpAnyH_take (i := 15) (oi := { dst := some 115, op := Op.unOp UnOp.not 4 (Operand.tmp 114), type := 4, pos := "law.go:212", after := #[{ on := 14, ground := Ground.data }, { on := 9, ground := Ground.guard }], guard := some (9, false) }) (v := ?_) rfl (by kernel_rfl) (by kernel_rfl) (by kernel_rfl) (fun _ _ _ h => h) (Or.inl ⟨by rfl, ?_⟩) (by assumption) ?_
            rotate_left
            · intro w hSw; (try dsimp only at hSw); first | (go_simp; done) | (go_simp; with_reducible rfl)
            try simp only [Act.put, List.setIfInBounds_toArray, List.set_cons_zero, List.set_cons_succ]
            refine wpAnyH_take (i := 16) (oi := { dst := some 116, op := Op.pick (Operand.tmp 109) (Operand.const (Value.bool true)) (Operand.tmp 115), type := 4, pos := "law.go:212", after := #[{ on := 9, ground := Ground.data }, { on := 15, ground := Ground.data }], guard := none }) (v := ?_) rfl (by kernel_rfl) (by kernel_rfl) (by kernel_rfl) (fun _ _ _ h => h) (Or.inl ⟨by rfl, ?_⟩) (by assumption) ?_
            rotate_left
            · intro w hSw; (try dsimp only at hSw); first | (go_simp; done) | (go_simp; with_reducible rfl)
            try simp only [Act.put, List.setIfInBounds_toArray, List.set_cons_zero, List.set_cons_succ]
            refine wpAnyH_take (i := 17) (oi := { dst := some 117, op := Op.move (Operand.tmp 116), type := 4, pos := "law.go:212", after := #[{ on := 16, ground := Ground.data }, { on := 14, ground := Ground.chain }], guard := none }) (v := ?_) rfl (by kernel_rfl) (by kernel_rfl) (by kernel_rfl) (fun _ _ _ h => h) (Or.inl ⟨by rfl, ?_⟩) (by assumption) ?_
            rotate_left
            · intro w hSw; (try dsimp only at hSw); first | (go_simp; done) | (go_simp; with_reducible rfl)
            try simp only [Act.put, List.setIfInBounds_toArray, List.set_cons_zero, List.set_cons_succ]
            refine wpAnyH_take (i := 18) (oi := { dst := some 118, op := Op.move (Operand.tmp 10), type := 28, pos := "law.go:212", after := #[{ on := 17, ground := Ground.guard }], guard := some (17, false) }) (v := ?_) rfl (by kernel_rfl) (by kernel_rfl) (by kernel_rfl) (fun _ _ _ h => h) (Or.inl ⟨by rfl, ?_⟩) (by assumption) ?_
            rotate_left
            · intro w hSw; (try dsimp only at hSw); first | (go_simp; done) | (go_simp; with_reducible rfl)
            try simp only [Act.put, List.setIfInBounds_toArray, List.set_cons_zero, List.set_cons_succ]
            refine wpAnyH_take (i := 20) (oi := { dst := some 120, op := Op.load 44 (Operand.tmp 19), type := 44, pos := "law.go:212", after := #[{ on := 17, ground := Ground.guard }], guard := some (17, false) }) (v := ?_) rfl (by kernel_rfl) (by kernel_rfl) (by kernel_rfl) (fun _ _ _ h => h) (Or.inl ⟨by rfl, ?_⟩) (by assumption) ?_
            rotate_left
            · intro w hSw; (try dsimp only at hSw); first | (go_simp; done) | (go_simp; with_reducible rfl)
            try simp only [Act.put, List.setIfInBounds_toArray, List.set_cons_zero, List.set_cons_succ]
            refine wpAnyH_take (i := 21) (oi := { dst := some 121, op := Op.load 44 (Operand.tmp 16), type := 44, pos := "law.go:212", after := #[{ on := 17, ground := Ground.guard }], guard := some (17, false) }) (v := ?_) rfl (by kernel_rfl) (by kernel_rfl) (by kernel_rfl) (fun _ _ _ h => h) (Or.inl ⟨by rfl, ?_⟩) (by assumption) ?_
            rotate_left
            · intro w hSw; (try dsimp only at hSw); first | (go_simp; done) | (go_simp; with_reducible rfl)
            try simp only [Act.put, List.setIfInBounds_toArray, List.set_cons_zero, List.set_cons_succ]
            refine wpAnyH_ready (rs := [19]) (by kernel_rfl) (by simp) ?_
            refine (AllReadyH.cons (o := { dst := some 119, op := Op.call { callee := Callee.value (Operand.func 29), args := #[Operand.tmp 118], argTypes := #[28] }, type := 44, pos := "law.go:212", after := #[{ on := 18, ground := Ground.data }, { on := 17, ground := Ground.chain }, { on := 17, ground := Ground.guard }], guard := some (17, false) }) rfl (fun K hK => ?_) AllReadyH.nil)
            go_simp
            go_at_call 29
            with_reducible refine HFL36.out.mono ?_
            rintro e w37 ⟨A37, n37, c37, rfl, hst37, hne37, hb37⟩
            have HB37 := Lib.hid (HB36.out.trans (hb37.mono HB36.out.size))
            have HS37 := Lib.hid hst37
            have HLE3 := Lib.hid (rless_any w37 Aw As nw cw ns cs (ofL p2.fl) RS (HSW35.out.on HB37.out (Nat.le_refl _)).rs (HST35.out.on HB37.out (Nat.le_refl _)).rs HOKW.out HOKS.out (by have := HNW.out; omega) (by have := HNS2.out; omega))
            have hKeep : w37.cell? ⟨X16, 0, none⟩ = some (.slice As ns cs) ∧ w37.cell? ⟨X19, 0, none⟩ = some (.slice Aw nw cw) := ⟨(HB37.out.cell (p := ⟨X16, 0, none⟩) (World.block_lt_of_cell? _ _ HC35.out.1)).trans HC35.out.1, (HB37.out.cell (p := ⟨X19, 0, none⟩) (World.block_lt_of_cell? _ _ HC35.out.2)).trans HC35.out.2⟩
            clear hst37 hne37 hb37
            go_wp2_with fail
            clear hHeld
            refine hK.out _ _ hKeep (fun hHeld => ?_)
            clear hK K
            try simp only [Act.put, List.setIfInBounds_toArray, List.set_cons_zero, List.set_cons_succ]
            refine wpAnyH_ready (rs := [22]) (by kernel_rfl) (by simp) ?_
            refine (AllReadyH.cons (o := { dst := some 122, op := Op.call { callee := Callee.value (Operand.func 34), args := #[Operand.tmp 120, Operand.tmp 121], argTypes := #[44, 44] }, type := 44, pos := "law.go:212", after := #[{ on := 20, ground := Ground.data }, { on := 21, ground := Ground.data }, { on := 19, ground := Ground.chain }, { on := 17, ground := Ground.guard }], guard := some (17, false) }) rfl (fun K hK => ?_) AllReadyH.nil)
            go_simp
            go_at_call 34
            with_reducible refine HLE3.out.mono ?_
            rintro e w38 ⟨A38, n38, c38, rfl, hst38, hne38, hb38⟩
            have HB38 := Lib.hid (HB37.out.trans (hb38.mono HB37.out.size))
            have HSM2 := Lib.hid (setSame_any w38 A37 A38 n37 c37 n38 c38 _ _ (HS37.out.on hb38 (Nat.le_refl _)).rs hst38.rs)
            have hs2 : sameR (ofL (dueP 3 9 100 pz).fl) (lessL (ofL p2.fl) RS) = true := by show sameR (ofL pz.fl) _ = true; rw [HPZF.out.2.2.2]; exact same_once HOKW.out HOKS.out
            rw [hs2] at HSM2
            have hKeep : w38.cell? ⟨X16, 0, none⟩ = some (.slice As ns cs) ∧ w38.cell? ⟨X19, 0, none⟩ = some (.slice Aw nw cw) := ⟨(HB38.out.cell (p := ⟨X16, 0, none⟩) (World.block_lt_of_cell? _ _ HC35.out.1)).trans HC35.out.1, (HB38.out.cell (p := ⟨X19, 0, none⟩) (World.block_lt_of_cell? _ _ HC35.out.2)).trans HC35.out.2⟩
            clear hst38 hne38 hb38 hs2
            go_wp2_with fail
            clear hHeld
            refine hK.out _ _ hKeep (fun hHeld => ?_)
            clear hK K
            try simp only [Act.put, List.setIfInBounds_toArray, List.set_cons_zero, List.set_cons_succ]
            refine wpAnyH_ready (rs := [23]) (by kernel_rfl) (by simp) ?_
            refine (AllReadyH.cons (o := { dst := some 123, op := Op.call { callee := Callee.value (Operand.func 28), args := #[Operand.tmp 119, Operand.tmp 122], argTypes := #[44, 44] }, type := 4, pos := "law.go:212", after := #[{ on := 19, ground := Ground.data }, { on := 22, ground := Ground.data }, { on := 22, ground := Ground.chain }, { on := 17, ground := Ground.guard }], guard := some (17, false) }) rfl (fun K hK => ?_) AllReadyH.nil)
            go_simp
            go_at_call 28
            refine HSM2.out.mono ?_
            rintro e w39 ⟨rfl, hb39⟩
            have HB39 := Lib.hid (HB38.out.trans (hb39.mono HB38.out.size))
            have hKeep : w39.cell? ⟨X16, 0, none⟩ = some (.slice As ns cs) ∧ w39.cell? ⟨X19, 0, none⟩ = some (.slice Aw nw cw) := ⟨(HB39.out.cell (p := ⟨X16, 0, none⟩) (World.block_lt_of_cell? _ _ HC35.out.1)).trans HC35.out.1, (HB39.out.cell (p := ⟨X19, 0, none⟩) (World.block_lt_of_cell? _ _ HC35.out.2)).trans HC35.out.2⟩
            clear hb39
            go_wp2_with fail
            clear hHeld
            refine hK.out _ _ hKeep (fun hHeld => ?_)
            clear hK K
            try simp only [Act.put, List.setIfInBounds_toArray, List.set_cons_zero, List.set_cons_succ]
            refine wpAnyH_take (i := 24) (oi := { dst := some 124, op := Op.unOp UnOp.not 4 (Operand.tmp 123), type := 4, pos := "law.go:212", after := #[{ on := 23, ground := Ground.data }, { on := 17, ground := Ground.guard }], guard := some (17, false) }) (v := ?_) rfl (by kernel_rfl) (by kernel_rfl) (by kernel_rfl) (fun _ _ _ h => h) (Or.inl ⟨by rfl, ?_⟩) (by assumption) ?_
            rotate_left
            · intro w hSw; (try dsimp only at hSw); first | (go_simp; done) | (go_simp; with_reducible rfl)
            try simp only [Act.put, List.setIfInBounds_toArray, List.set_cons_zero, List.set_cons_succ]
            refine wpAnyH_take (i := 25) (oi := { dst := some 125, op := Op.pick (Operand.tmp 117) (Operand.const (Value.bool true)) (Operand.tmp 124), type := 4, pos := "law.go:212", after := #[{ on := 17, ground := Ground.data }, { on := 24, ground := Ground.data }], guard := none }) (v := ?_) rfl (by kernel_rfl) (by kernel_rfl) (by kernel_rfl) (fun _ _ _ h => h) (Or.inl ⟨by rfl, ?_⟩) (by assumption) ?_
            rotate_left
            · intro w hSw; (try dsimp only at hSw); first | (go_simp; done) | (go_simp; with_reducible rfl)
            try simp only [Act.put, List.setIfInBounds_toArray, List.set_cons_zero, List.set_cons_succ]
            refine wpAnyH_take (i := 26) (oi := { dst := some 126, op := Op.move (Operand.tmp 125), type := 4, pos := "law.go:212", after := #[{ on := 25, ground := Ground.data }, { on := 23, ground := Ground.chain }], guard := none }) (v := ?_) rfl (by kernel_rfl) (by kernel_rfl) (by kernel_rfl) (fun _ _ _ h => h) (Or.inl ⟨by rfl, ?_⟩) (by assumption) ?_
            rotate_left
            · intro w hSw; (try dsimp only at hSw); first | (go_simp; done) | (go_simp; with_reducible rfl)
            try simp only [Act.put, List.setIfInBounds_toArray, List.set_cons_zero, List.set_cons_succ]
            refine wpAnyH_take (i := 27) (oi := { dst := some 127, op := Op.move (Operand.tmp 23), type := 53, pos := "law.go:212", after := #[{ on := 26, ground := Ground.guard }], guard := some (26, false) }) (v := ?_) rfl (by kernel_rfl) (by kernel_rfl) (by kernel_rfl) (fun _ _ _ h => h) (Or.inl ⟨by rfl, ?_⟩) (by assumption) ?_
            rotate_left
            · intro w hSw; (try dsimp only at hSw); first | (go_simp; done) | (go_simp; with_reducible rfl)
            try simp only [Act.put, List.setIfInBounds_toArray, List.set_cons_zero, List.set_cons_succ]
            refine wpAnyH_take (i := 28) (oi := { dst := some 128, op := Op.call { callee := Callee.builtin Builtin.len, args := #[Operand.tmp 127], argTypes := #[53] }, type := 3, pos := "law.go:212", after := #[{ on := 27, ground := Ground.data }, { on := 26, ground := Ground.guard }], guard := some (26, false) }) (v := ?_) rfl (by kernel_rfl) (by kernel_rfl) (by kernel_rfl) (fun _ _ _ h => h) (Or.inl ⟨by rfl, ?_⟩) (by assumption) ?_
            rotate_left
            · intro w hSw; (try dsimp only at hSw); first | (go_simp; done) | (go_simp; with_reducible rfl)
            try simp only [Act.put, List.setIfInBounds_toArray, List.set_cons_zero, List.set_cons_succ]
            refine wpAnyH_take (i := 29) (oi := { dst := some 129, op := Op.move (Operand.tmp 24), type := 53, pos := "law.go:212", after := #[{ on := 26, ground := Ground.guard }], guard := some (26, false) }) (v := ?_) rfl (by kernel_rfl) (by kernel_rfl) (by kernel_rfl) (fun _ _ _ h => h) (Or.inl ⟨by rfl, ?_⟩) (by assumption) ?_
            rotate_left
            · intro w hSw; (try dsimp only at hSw); first | (go_simp; done) | (go_simp; with_reducible rfl)
            try simp only [Act.put, List.setIfInBounds_toArray, List.set_cons_zero, List.set_cons_succ]
            refine wpAnyH_take (i := 30) (oi := { dst := some 130, op := Op.call { callee := Callee.builtin Builtin.len, args := #[Operand.tmp 129], argTypes := #[53] }, type := 3, pos := "law.go:212", after := #[{ on := 29, ground := Ground.data }, { on := 26, ground := Ground.guard }], guard := some (26, false) }) (v := ?_) rfl (by kernel_rfl) (by kernel_rfl) (by kernel_rfl) (fun _ _ _ h => h) (Or.inl ⟨by rfl, ?_⟩) (by assumption) ?_
            rotate_left
            · intro w hSw; (try dsimp only at hSw); first | (go_simp; done) | (go_simp; with_reducible rfl)
            try simp only [Act.put, List.setIfInBounds_toArray, List.set_cons_zero, List.set_cons_succ]
            refine wpAnyH_take (i := 31) (oi := { dst := some 131, op := Op.binOp BinOp.neq 3 (Operand.tmp 128) (Operand.tmp 130) 3, type := 4, pos := "law.go:212", after := #[{ on := 28, ground := Ground.data }, { on := 30, ground := Ground.data }, { on := 26, ground := Ground.guard }], guard := some (26, false) }) (v := ?_) rfl (by kernel_rfl) (by kernel_rfl) (by kernel_rfl) (fun _ _ _ h => h) (Or.inl ⟨by rfl, ?_⟩) (by assumption) ?_
            rotate_left
            · intro w hSw; (try dsimp only at hSw); first | (go_simp; done) | (go_simp; with_reducible rfl)
            try simp only [Act.put, List.setIfInBounds_toArray, List.set_cons_zero, List.set_cons_succ]
            refine wpAnyH_take (i := 32) (oi := { dst := some 132, op := Op.pick (Operand.tmp 126) (Operand.const (Value.bool true)) (Operand.tmp 131), type := 4, pos := "law.go:212", after := #[{ on := 26, ground := Ground.data }, { on := 31, ground := Ground.data }], guard := none }) (v := ?_) rfl (by kernel_rfl) (by kernel_rfl) (by kernel_rfl) (fun _ _ _ h => h) (Or.inl ⟨by rfl, ?_⟩) (by assumption) ?_
            rotate_left
            · intro w hSw; (try dsimp only at hSw); first | (go_simp; done) | (go_simp; with_reducible rfl)
            try simp only [Act.put, List.setIfInBounds_toArray, List.set_cons_zero, List.set_cons_succ]
            refine wpAnyH_done (by kernel_rfl) ?_ _
            refine NoPanic.normal ?_
            skip
            have HB27W := HTB27.out.bel
            have HW39 : Hid (RowKit.Below w.heap.size w w39) := by
              have h1 := HB27W.trans (HB34.out.mono HB27W.size)
              have h2 : RowKit.Below w.heap.size w34 w35 := (Only.of_grown HG35.out (S := fun k => some k = (Value.slice lA ln lc).ownBlock) (fun k e => e)).toBelow2 (fun k e => by have := HLL23.out k e.symm; have := HXL.out.1; have := HWX.out; omega) h1.size
              have h3 := h1.trans h2
              exact h3.trans (HB39.out.mono h3.size)
            have HKEEP39 : Hid (∀ b, b < w27.heap.size → (Value.slice lA ln lc).ownBlock ≠ some b → w39.heap[b]? = w27.heap[b]?) := fun b hb hne => (HB39.out.block b (by have := HB34.out.size; have := HSZ35.out; omega)).trans ((HG35.out.block b (by have := HB34.out.size; omega) (fun e => hne e.symm)).trans (HB34.out.block b hb))
            have HLOWB : Hid (∀ b, (Value.slice lA ln lc).ownBlock = some b → b < w24.heap.size) := fun b hb => by have h1 := (HGL27.out.lt b hb).2; have := HLB23.out b hb; have := HTB22SZ.out.2; omega
            have HDR39 : Hid (w39.ownsRow w25.heap.size 37 1 (.slice D dn2 dc) dn2 (rows.map Rw.v)) := own_same HDR.out (fun b hb => HKEEP39.out b (HDR.out.lt b hb).2 (fun e => by have := (HDR.out.lt b hb).1; have := HLOWB.out b e; have := HSZ25.out; omega))
            have HDR239 : Hid (w39.ownsRow w26.heap.size 37 1 (.slice D2 dn2 dc2) dn2 (rows2.map Rw.v)) := own_same HDR2.out (fun b hb => HKEEP39.out b (HDR2.out.lt b hb).2 (fun e => by have := (HDR2.out.lt b hb).1; have := HLOWB.out b e; have := HSZ26.out; omega))
            have HRR39 : Hid (∀ r ∈ rows, OwnN w39 w25.heap.size r.A r.n r.c r.l) := fun r hr => own_same (HRR.out r hr) (fun b hb => HKEEP39.out b ((HRR.out r hr).lt b hb).2 (fun e => by have := ((HRR.out r hr).lt b hb).1; have := HLOWB.out b e; have := HSZ25.out; omega))
            have HRR239 : Hid (∀ r ∈ rows2, OwnN w39 w26.heap.size r.A r.n r.c r.l) := fun r hr => own_same (HRR2.out r hr) (fun b hb => HKEEP39.out b ((HRR2.out r hr).lt b hb).2 (fun e => by have := ((HRR2.out r hr).lt b hb).1; have := HLOWB.out b e; have := HSZ26.out; omega))
            have HNE : Hid (∀ r ∈ rows, r.l ≠ []) := fun r hr => due_ne HPOK.out 100 r.l (by rw [← HRW26.out]; exact List.mem_map.2 ⟨r, hr, rfl⟩)
            clear HB27W
            clear hKeep hHeld
            have hd2 : dn2 ≤ 2 := HDN.out.2.2
            go_wp2_with fail
            go_loopg [135] dn2 (fun gk vi wr => ∃ k : Nat, gk + k = dn2 ∧ vi = .int .i64 (k : Int) ∧ RowKit.Below w39.heap.size w39 wr)
            case atStart => exact ⟨0, by omega, rfl, RowKit.Below.refl _ _⟩
            case round =>
              obtain ⟨k, hg, rfl, hbel⟩ := hrel
              have HG := Lib.hid hg
              have HBEL := Lib.hid hbel
              clear hg hbel
              by_cases hk : k < dn2
              · have hkI : (k : Int) < (dn2 : Int) := by omega
                have hk0 : (0 : Int) ≤ (k : Int) := by omega
                obtain ⟨r, hr⟩ : ∃ r, rows[k]? = some r := ⟨_, List.getElem?_eq_getElem (by have := HDN.out.1; omega)⟩
                obtain ⟨s, hs⟩ : ∃ s, rows2[k]? = some s := ⟨_, List.getElem?_eq_getElem (by have := HDN.out.2.1; omega)⟩
                have hll : s.l = r.l := by
                  have h1 := congrArg (fun l => l[k]?) HRW2.out
                  simp only [List.getElem?_map, hr, hs, Option.map_some, Option.some.injEq] at h1
                  exact h1
                have hrm := List.mem_of_getElem? hr
                have hsm := List.mem_of_getElem? hs
                have ho1 : OwnN wr w25.heap.size r.A r.n r.c r.l := own_same (HRR39.out r hrm) (fun b hb => HBEL.out.block b ((HRR39.out r hrm).lt b hb).2)
                have ho2 : OwnN wr w26.heap.size s.A s.n s.c s.l := own_same (HRR239.out s hsm) (fun b hb => HBEL.out.block b ((HRR239.out s hsm).lt b hb).2)
                have hne := HNE.out r hrm
                have hk1 := own_same HDR39.out (fun b hb => HBEL.out.block b (HDR39.out.lt b hb).2)
                have hk2 := own_same HDR239.out (fun b hb => HBEL.out.block b (HDR239.out.lt b hb).2)
                obtain ⟨b1, o1, rfl, hb1, hc1⟩ := (Sn.of_own hk1).cell (by omega)
                obtain ⟨b2, o2, rfl, hb2, hc2⟩ := (Sn.of_own hk2).cell (by omega)
                have d1 : wr.cell? ⟨b1, o1 + k, none⟩ = some (.slice r.A r.n r.c) := hc1 k _ (by rw [List.getElem?_map, hr]; rfl)
                have d2 : wr.cell? ⟨b2, o2 + k, none⟩ = some (.slice s.A s.n s.c) := hc2 k _ (by rw [List.getElem?_map, hs]; rfl)
                obtain ⟨rA, rn, rc, rl⟩ := r
                obtain ⟨sA, sn, sc, sl⟩ := s
                simp only at hll ho1 ho2 hne d1 d2
                subst hll
                have hrn0 : ((rn : Int) == 0) = false := by
                  have h1 := ho1.len
                  have h2 : sl.length ≠ 0 := fun e => hne (List.eq_nil_of_length_eq_zero e)
                  simp
                  omega
                have HEQL : Hid (∀ u : World, Only (fun _ => False) wr u → Calls Try.prog 14 #[.slice rA rn rc, .slice sA sn sc] u (Says u (.bool true))) := fun u hu =>
                  eqn_yes u rA sA rn rc sn sc sl (Sn.of_own (own_same ho1 (fun b hb => hu.block b (ho1.lt b hb).2 id))) (Sn.of_own (own_same ho2 (fun b hb => hu.block b (ho2.lt b hb).2 id)))
                have hbz1 := World.block_lt_of_cell? _ _ d1
                have hbz2 := World.block_lt_of_cell? _ _ d2
                clear hr hs hrm hsm ho1 ho2 hne hk1 hk2 hb1 hb2 hc1 hc2
                go_wp2_with fail
                go_region_held3 (fun w' => w'.cell? ⟨b1, o1 + k, none⟩ = some (.slice rA rn rc) ∧ w'.cell? ⟨b2, o2 + k, none⟩ = some (.slice sA sn sc)) (first | exact ⟨d1, d2⟩ | exact hk40) (first
                  | (go_at_call 14
                     refine (HEQL.out _ (Only.refl _ wr).drew).mono ?_
                     rintro e w40 ⟨rfl, hb40⟩
                     have HB40 : Hid (RowKit.Below wr.heap.size wr w40) := (below_drewN (RowKit.Below.refl _ _) 1).trans hb40
                     have hk40 : w40.cell? ⟨b1, o1 + k, none⟩ = some (.slice rA rn rc) ∧ w40.cell? ⟨b2, o2 + k, none⟩ = some (.slice sA sn sc) := ⟨(HB40.out.cell (p := ⟨b1, o1 + k, none⟩) hbz1).trans d1, (HB40.out.cell (p := ⟨b2, o2 + k, none⟩) hbz2).trans d2⟩
                     clear hb40))
                go_wp2_with fail
                go_roundg (gk - 1)
                case measure => have := HG.out; omega
                case rel => exact ⟨k + 1, by have := HG.out; omega, by go_num, HBEL.out.trans (HB40.out.mono HBEL.out.size)⟩
              · have hkI : ¬ (k : Int) < (dn2 : Int) := by omega
                go_wp2_with fail
                go_ret
                exact ⟨rfl, HW39.out.trans (HBEL.out.mono HW39.out.size)⟩
theorem boardTakes_law (w : World) (A : Option Addr) (n c : Nat) (L : List Nat) (hL : Nw w A n c L) (A' : Option Addr) (n' c' : Nat) (M : List Nat) (hM : Nw w A' n' c' M) (Ar : Option Addr) (nr cr : Nat) (R : List Rn) (hR : Rs w w.heap.size Ar nr cr R) (x : Int) (hx : 0 ≤ x ∧ x ≤ 18446744073709551615) :
    Calls Try.prog 7 #[.slice A n c, .slice A' n' c', .slice Ar nr cr, .int .u64 x] w (Says w (.bool true)) := by
  obtain ⟨v, rfl⟩ : ∃ k : Nat, x = (k : Int) := ⟨x.toNat, by omega⟩
  exact boardTakes_walk w A n c L hL A' n' c' M hM Ar nr cr R hR v (by unfold two64; omega)
end Go.Proofs.Ytbnhemmklbbnmaa
