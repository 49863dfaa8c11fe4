/-
  CONTRACT of runs.Make.
  No statement is proved here.
-/
import Derived.Test.YtlkcnpmgafckoaaDoorRunsEq
namespace Go.Proofs.YtlkcnpmgafckoaaDoor
open Go.RowKit

/-- The set that has just these runs, or none. -/
def SaysMake (w : World) (l : List Rn) (e : Ending) (w' : World) : Prop :=
  (Canon l ∧ ∃ A n c, e = .returned (.tuple #[.agg #[.slice A n c], .bool true]) ∧ St w' w'.heap.size A n c l ∧ (∀ b o, A = some ⟨b, o, none⟩ → w.heap.size < b) ∧ Below w.heap.size w w') ∨
  (¬ Canon l ∧ e = .returned (.tuple #[.agg #[.slice none 0 0], .bool false]) ∧ Below w.heap.size w w')
theorem canon_take {L : List Rn} (h : Canon L) (k : Nat) : Canon (L.take k) := ⟨List.Pairwise.sublist (List.take_sublist _ _) h.far, fun q hq => h.ok q (List.mem_of_mem_take hq)⟩
theorem canon_one_more {l : List Rn} {k : Nat} {r : Rn} (h : Canon (l.take k)) (hr : l[k]? = some r) (ho : r.1 ≤ r.2) (hp : ∀ q, k ≠ 0 → l[k - 1]? = some q → q.2 + 1 < r.1) : Canon (l.take (k + 1)) := by
  rw [List.take_add_one, hr]
  refine canon_snoc h ho fun q hq => ?_
  rcases Nat.eq_zero_or_pos k with h0 | h0
  · subst h0; simp at hq
  · obtain ⟨m, rfl⟩ : ∃ m, k = m + 1 := ⟨k - 1, by omega⟩
    obtain ⟨hk, _⟩ := List.getElem?_eq_some_iff.1 hr
    have hl : l[m]? = some l[m] := List.getElem?_eq_getElem (by omega)
    have h1 := hp l[m] (by omega) (by simp)
    rw [List.take_add_one, hl] at h hq
    obtain ⟨_, hf, hok⟩ := canon_init h
    rcases List.mem_append.1 hq with hq | hq
    · have := hf q hq
      omega
    · simp at hq
      subst hq
      exact h1
def MakeRel (w : World) (l : List Rn) (gk : Nat) (vi : Value) (wr : World) : Prop :=
  ∃ k : Nat, gk + k = l.length ∧ vi = .int .i64 (k : Int) ∧ Canon (l.take k) ∧ Below w.heap.size w wr
set_option maxRecDepth 100000 in
set_option maxHeartbeats 2000000 in
theorem make_any (w : World) (A : Option Addr) (n c : Nat) (l : List Rn) (hs : Rs w w.heap.size A n c l) (hn : n ≤ 100000) :
    Calls Tryd.prog 88 #[.slice A n c] w (SaysMake w l) := by
  obtain ⟨i0, hi0, hz0, hz1, hz2⟩ := info_parts run_info
  have H := Lib.hid hs
  have HLEN : Hid (l.length = n) := hs.len
  have HLT := Lib.hid hs.lt
  clear hs
  go_enter Tryd.func88, Tryd.ntmps88
  go_wp2
  have hb1 := below_box w (.cells #[.slice none 0 0] 131)
  have hR : (w.alloc (.cells #[.slice none 0 0] 131)).heap[w.heap.size]? = some (.cells #[.slice none 0 0] 131 (0, 0)) := heap_alloc_new w _
  have hz : w.heap.size < (w.alloc (.cells #[.slice none 0 0] 131)).heap.size := by simp
  have H1 := Lib.hid (H.out.alloc (Nat.le_refl _) (.cells #[.slice none 0 0] 131))
  generalize w.alloc (.cells #[.slice none 0 0] 131) = w1 at *
  have HR := Lib.hid hR
  clear hR
  go_loopg [8] n (fun gk vi wr => MakeRel w1 l gk vi wr)
  case atStart => exact ⟨0, by have := HLEN.out; omega, rfl, ⟨List.Pairwise.nil, fun q hq => (by cases hq)⟩, Below.refl _ _⟩
  case round =>
    obtain ⟨k, hg, rfl, hcan, hbel⟩ := hrel
    have HG := Lib.hid hg
    have HC := Lib.hid hcan
    have HBW : Hid (Below w.heap.size w wr) := hb1.trans (hbel.mono (by omega))
    have hrr := (hbel.block w.heap.size hz).trans HR.out
    have hcr : wr.cell? ⟨w.heap.size, 0, none⟩ = some (.slice none 0 0) := by rw [cell_of_row wr _ 0 _ _ _ hrr]; rfl
    have hfr := frz_row (i := 0) hrr
    have hzr : w.heap.size < wr.heap.size := Nat.lt_of_lt_of_le hz hbel.size
    have hzle : w.heap.size ≤ w1.heap.size := Nat.le_of_lt hz
    clear hg hcan hrr
    have hsr := H1.out.below hbel hzle
    have HSR := Lib.hid hsr
    by_cases hk : k < n
    · have hkI : (k : Int) < (n : Int) := by omega
      have hk0 : (0 : Int) ≤ (k : Int) := by omega
      obtain ⟨b, o, r, rfl, hbB, hx, hq0, hq1, h1, h2⟩ := hsr.at_ hk
      have HX := Lib.hid hx
      have HB2 : Hid (Below w1.heap.size w1 (wr.alloc (.cells #[.int .u64 (r.1 : Int), .int .u64 (r.2 : Int)] 77))) := hbel.trans ((below_box wr _).mono hbel.size)
      have HB3 : Hid (Below w.heap.size w (wr.alloc (.cells #[.int .u64 (r.1 : Int), .int .u64 (r.2 : Int)] 77))) := HBW.out.trans ((below_box wr _).mono HBW.out.size)
      have HC6 : Hid (∀ wx, Below wr.heap.size wr wx → (wx.setCell ⟨w.heap.size, 0, none⟩ (.slice none 0 0)).cell? ⟨w.heap.size, 0, none⟩ = some (.slice none 0 0)) := fun wx hw => World.cell?_setCell_same _ _ _ ((hw.cell (p := ⟨w.heap.size, 0, none⟩) hzr).trans hcr)
      clear hx hsr
      by_cases h3 : r.2 < r.1
      · have h3I : (r.2 : Int) < (r.1 : Int) := by omega
        have HNC : Hid (¬ Canon l) := fun h => by have := h.ok r (List.mem_of_getElem? HX.out); omega
        go_wp2_with fail
        go_quiet (fail)
        go_wp2
        have hc6 := HC6.out _ (below_drewN (below_box wr (.cells #[.int .u64 (r.1 : Int), .int .u64 (r.2 : Int)] 77)) nq)
        refine bodyPost_ret (v := .tuple #[.agg #[.slice none 0 0], .bool false]) (by simp [results, Tryd.results88, go_sem, hc6]) rfl ?_
        exact .inr ⟨HNC.out, rfl, (below_drewN HB3.out nq).setCell (Nat.le_refl _) _⟩
      · have h3I : decide ((r.2 : Int) < (r.1 : Int)) = false := by simp; omega
        have h3N : decide (r.2 < r.1) = false := by simp; omega
        rcases Nat.eq_zero_or_pos k with h0 | h0
        · have h0I : decide ((0 : Int) < (k : Int)) = false := by simp; omega
          have h0N : decide (0 < k) = false := by simp; omega
          have HK0 := Lib.hid h0
          clear h0
          go_wp2_with fail
          go_quiet (fail)
          go_wp2
          go_roundg (gk - 1)
          case measure => have := HG.out; have := HLEN.out; omega
          case rel => exact ⟨k + 1, by have := HG.out; have := HLEN.out; omega, by go_num, canon_one_more HC.out HX.out (by omega) (fun q h => absurd HK0.out h), below_drewN HB2.out _⟩
        · obtain ⟨m, hm⟩ : ∃ m, k = m + 1 := ⟨k - 1, by omega⟩
          have h0I : (0 : Int) < (k : Int) := by omega
          have hwm : IntKind.i64.wrap ((k : Int) - 1) = (m : Int) := by rw [IntKind.wrap_i64]; omega
          have hm0 : (0 : Int) ≤ (m : Int) := by omega
          have hmn : (m : Int) < (n : Int) := by omega
          obtain ⟨b2, o2, q, e2, _, hxq, hp0, hp1, hq1', hq2'⟩ := HSR.out.at_ (show m < n by omega)
          injection e2 with e2
          injection e2 with e3 e4
          subst e3 e4
          have HXQ := Lib.hid hxq
          have HKM := Lib.hid hm
          clear hxq hm
          have hbw : b < wr.heap.size := Nat.lt_of_lt_of_le hbB (Nat.le_of_lt hzr)
          have hE : Ever (fun w' => (w'.cell? ⟨b, o + m * 2, none⟩ = some (.int .u64 (q.1 : Int)) ∧ w'.cell? ⟨b, o + m * 2 + 1, none⟩ = some (.int .u64 (q.2 : Int)) ∧ w'.cell? ⟨wr.heap.size, 0, none⟩ = some (.int .u64 (r.1 : Int)) ∧ w'.cell? ⟨wr.heap.size, 1, none⟩ = some (.int .u64 (r.2 : Int))) ∧ Below wr.heap.size wr w') (wr.alloc (.cells #[.int .u64 (r.1 : Int), .int .u64 (r.2 : Int)] 77)) := by
            intro w' hw
            have hb : Below wr.heap.size wr w' := (below_box wr (.cells #[.int .u64 (r.1 : Int), .int .u64 (r.2 : Int)] 77)).trans (hw.mono (by simp))
            exact ⟨⟨(hb.cell (p := ⟨b, o + m * 2, none⟩) hbw).trans hp0, (hb.cell (p := ⟨b, o + m * 2 + 1, none⟩) hbw).trans hp1, ever_cell (cell_last wr _ _ _ 0 rfl) _ hw, ever_cell (cell_last wr _ _ _ 1 rfl) _ hw⟩, hb⟩
          obtain ⟨Ps, HP⟩ : ∃ Ps : World → Prop, Hid (Ps = fun w' => (w'.cell? ⟨b, o + m * 2, none⟩ = some (.int .u64 (q.1 : Int)) ∧ w'.cell? ⟨b, o + m * 2 + 1, none⟩ = some (.int .u64 (q.2 : Int)) ∧ w'.cell? ⟨wr.heap.size, 0, none⟩ = some (.int .u64 (r.1 : Int)) ∧ w'.cell? ⟨wr.heap.size, 1, none⟩ = some (.int .u64 (r.2 : Int))) ∧ Below wr.heap.size wr w') := ⟨_, rfl⟩
          have HN : Hid (∀ w', Ps w' → (w'.cell? ⟨b, o + m * 2, none⟩ = some (.int .u64 (q.1 : Int)) ∧ w'.cell? ⟨b, o + m * 2 + 1, none⟩ = some (.int .u64 (q.2 : Int)) ∧ w'.cell? ⟨wr.heap.size, 0, none⟩ = some (.int .u64 (r.1 : Int)) ∧ w'.cell? ⟨wr.heap.size, 1, none⟩ = some (.int .u64 (r.2 : Int))) ∧ Below wr.heap.size wr w') := by rw [HP.out]; exact fun _ h => h
          replace hE : Ever Ps (wr.alloc (.cells #[.int .u64 (r.1 : Int), .int .u64 (r.2 : Int)] 77)) := by rw [HP.out]; exact hE
          have HA : Hid (∀ w', Ps w' → Calls Tryd.prog 93 #[.agg #[.int .u64 (q.1 : Int), .int .u64 (q.2 : Int)], .agg #[.int .u64 (r.1 : Int), .int .u64 (r.2 : Int)]] w' (Says w' (.bool (apartB q r)))) := fun w' _ => apart_any w' q r ⟨hq1', hq2'⟩ ⟨h1, h2⟩
          by_cases hap : q.2 + 1 < r.1
          · rw [show apartB q r = true from by simp [apartB, hap]] at HA
            go_wp2_with fail
            have hE2 := hE.drewN 1
            clear hE HP hp0 hp1 hq0 hq1
            generalize wr.alloc (.cells #[.int .u64 (r.1 : Int), .int .u64 (r.2 : Int)] 77) = wb at *
            go_region_held3 (fun w' => (w'.cell? ⟨b, o + m * 2, none⟩ = some (.int .u64 (q.1 : Int)) ∧ w'.cell? ⟨b, o + m * 2 + 1, none⟩ = some (.int .u64 (q.2 : Int)) ∧ w'.cell? ⟨wr.heap.size, 0, none⟩ = some (.int .u64 (r.1 : Int)) ∧ w'.cell? ⟨wr.heap.size, 1, none⟩ = some (.int .u64 (r.2 : Int))) ∧ Ever Ps w') (first | exact ⟨(HN.out _ hE2.now).1, hE2⟩) (first
              | (go_at_call 93; with_reducible refine calls_ever (Ps := Ps) (by assumption) HA.out ?_; clear hE2; intro w2 hE2))
            have HBB := Lib.hid (HN.out _ hE2.now).2
            clear hE2
            go_wp2
            go_roundg (gk - 1)
            case measure => have := HG.out; have := HLEN.out; omega
            case rel => exact ⟨k + 1, by have := HG.out; have := HLEN.out; omega, by go_num, canon_one_more HC.out HX.out (by omega) (fun p h hp => by rw [HKM.out] at hp; have := HXQ.out; simp only [Nat.add_sub_cancel] at hp; rw [this] at hp; injection hp with hp; subst hp; exact hap), hbel.trans (HBB.out.mono hbel.size)⟩
          · rw [show apartB q r = false from by simp [apartB]; omega] at HA
            have HNC : Hid (¬ Canon l) := fun h => by
              have h5 := List.pairwise_iff_getElem.1 h.far m k (by have := HLEN.out; omega) (by have := HLEN.out; omega) (by have := HKM.out; omega)
              have e5 := HXQ.out
              have e6 := HX.out
              rw [List.getElem?_eq_getElem (by have := HLEN.out; omega)] at e5 e6
              injection e5 with e5
              injection e6 with e6
              rw [e5, e6] at h5
              exact hap h5
            go_wp2_with fail
            have hE2 := hE.drewN 1
            clear hE HP hp0 hp1 hq0 hq1
            generalize wr.alloc (.cells #[.int .u64 (r.1 : Int), .int .u64 (r.2 : Int)] 77) = wb at *
            go_region_held3 (fun w' => (w'.cell? ⟨b, o + m * 2, none⟩ = some (.int .u64 (q.1 : Int)) ∧ w'.cell? ⟨b, o + m * 2 + 1, none⟩ = some (.int .u64 (q.2 : Int)) ∧ w'.cell? ⟨wr.heap.size, 0, none⟩ = some (.int .u64 (r.1 : Int)) ∧ w'.cell? ⟨wr.heap.size, 1, none⟩ = some (.int .u64 (r.2 : Int))) ∧ Ever Ps w') (first | exact ⟨(HN.out _ hE2.now).1, hE2⟩) (first
              | (go_at_call 93; with_reducible refine calls_ever (Ps := Ps) (by assumption) HA.out ?_; clear hE2; intro w2 hE2))
            have HBB := Lib.hid (HN.out _ hE2.now).2
            have hc2 : w2.cell? ⟨w.heap.size, 0, none⟩ = some (.slice none 0 0) := (HBB.out.cell (p := ⟨w.heap.size, 0, none⟩) hzr).trans hcr
            have hf2 : w2.frozen? ⟨w.heap.size, 0, none⟩ = false := (HBB.out.frozen (p := ⟨w.heap.size, 0, none⟩) hzr).trans hfr
            have hc6 := HC6.out _ HBB.out
            clear hE2
            go_wp2
            refine bodyPost_ret (v := .tuple #[.agg #[.slice none 0 0], .bool false]) (by simp [results, Tryd.results88, go_sem, hc6]) rfl ?_
            exact .inr ⟨HNC.out, rfl, (HBW.out.trans (HBB.out.mono HBW.out.size)).setCell (Nat.le_refl _) _⟩
    · have hkI : ¬ (k : Int) < (n : Int) := by omega
      have HE : Hid (l.take k = l) := List.take_of_length_le (by have := HLEN.out; omega)
      have HS2 := Lib.hid (hsr.more (Nat.le_of_lt hzr))
      clear hsr
      go_wp2_with (at_builtin; refine wpList_append_dstN _ rfl (.const (.slice none 0 0)) (.tmp 34) 23 23 rfl wr.heap.size 77 i0 _ 2 16 Tryd.underlying23 hi0 hz0 hz1 hz2 rfl none 0 0 (rvs []) rfl (.inr ⟨rfl, .inl ⟨rfl, rfl⟩⟩) _ n (rvs l) rfl (HS2.out.sn.src Tryd.underlying23 (rvs_one l)) (by omega) (by omega) (Nat.le_refl _) ?_; intro A3 c3 w3 h1 h2 h3 h4 h5 h6; have hr3 := ((h4.block w.heap.size hzr).trans (hbel.block w.heap.size hz)).trans HR.out; have hc3 : w3.cell? ⟨w.heap.size, 0, none⟩ = some (.slice none 0 0) := (by rw [cell_of_row w3 _ 0 _ _ _ hr3]; rfl); have hf3 := frz_row (i := 0) hr3; have HO3 := Lib.hid (h3 ⟨rfl, .inl ⟨rfl, rfl⟩⟩); have HB3 := Lib.hid h4; clear h1 h2 h3 h4 h5 h6 hr3)
      have hc6 : (w3.setCell ⟨w.heap.size, 0, none⟩ (.slice A3 n c3)).cell? ⟨w.heap.size, 0, none⟩ = some (.slice A3 n c3) := World.cell?_setCell_same _ _ _ hc3
      refine bodyPost_ret (v := .tuple #[.agg #[.slice A3 n c3], .bool true]) (by simp [results, Tryd.results88, go_sem, hc6]) rfl ?_
      have hown := HO3.out
      rw [show rvs [] ++ rvs l = rvs l from rfl, Nat.zero_add] at hown
      have hcn := HC.out
      rw [HE.out] at hcn
      have hst := St.of_own hown HLT.out
      have hlow : ∀ b o, A3 = some ⟨b, o, none⟩ → wr.heap.size ≤ b := fun b o e => (hown.lt b (by rw [e]; rfl)).1
      refine .inl ⟨hcn, A3, n, c3, rfl, ?_, fun b o e => by have := hlow b o e; omega, (HBW.out.trans (HB3.out.mono (Nat.le_of_lt hzr))).setCell (Nat.le_refl _) _⟩
      have hz3 : w3.heap.size ≤ (w3.setCell ⟨w.heap.size, 0, none⟩ (.slice A3 n c3)).heap.size := by simp [World.setCell]
      exact ⟨(hst.rs.off (p := ⟨w.heap.size, 0, none⟩) (fun b o e => by have := hlow b o e; show b ≠ w.heap.size; omega) _).more hz3, fun b o e => Nat.lt_of_lt_of_le (hst.lies b o e) hz3⟩
end Go.Proofs.YtlkcnpmgafckoaaDoor
