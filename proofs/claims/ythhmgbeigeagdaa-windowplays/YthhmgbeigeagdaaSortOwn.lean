/-
  CONTRACTS of slices.Sort at uint64, of a row of one's own (fewer than 30000 numbers, none among them), of slices.Clone and runs.Of at as many.
  No statement is proved here.
-/
import Derived.Test.YthhmgbeigeagdaaGreatAll
import Derived.Test.YthhmgbeigeagdaaRunsOf
namespace Go.Proofs.Ythhmgbeigeagdaa
open Go.RowKit Go.Sort

theorem below_grow {B : Nat} {w0 w : World} (h : RowKit.Below B w0 w) (hB : B ≤ w.heap.size) (os : Array Obj) : RowKit.Below B w0 (grow w os) :=
  ⟨h.os, h.tape, h.output, Nat.le_trans h.size (by simp), fun k hk => (heap_grow_old w os (by omega)).trans (h.block k hk)⟩
theorem OwnN.grow {w : World} {base g n c : Nat} {l : List Nat} (h : OwnN w base (some ⟨g, 0, none⟩) n c l) (os : Array Obj) : OwnN (Sort.grow w os) base (some ⟨g, 0, none⟩) n c l := by
  refine ⟨h.1, ?_⟩
  rcases h.2 with ⟨hv, _⟩ | ⟨g', cap, cur, hv, h3, hg, h4⟩
  · cases hv
  · exact .inr ⟨g', cap, cur, hv, h3, (heap_grow_old w os (Array.getElem?_eq_some_iff.1 hg).1).trans hg, h4⟩
theorem sortN_of {l : List Nat} {d : Array Nat} (h1 : PermIn 0 l.toArray.size l.toArray d) (h2 : SortedIn ltB 0 l.toArray.size d) : d.toList = sortN l := by
  have h3 := sorted_unique_holds swo_ltB (fun x y h1 h2 => by simp [ltB] at h1 h2; omega) l.toArray _ h1 h2
  rw [h3]
  unfold sortN
  congr 1
  funext x y
  simp only [ltB]
  by_cases h : x ≤ y <;> simp [h] <;> omega
/-- The row is sorted; nothing below it has turned. -/
def SortsOwn (w : World) (base : Nat) (A : Option Addr) (n c : Nat) (l : List Nat) (e : Ending) (w' : World) : Prop := e = .returned (.tuple #[]) ∧ OwnN w' base A n c (sortN l) ∧ RowKit.Below base w w' ∧ w.grownBy w' (Value.slice A n c).ownBlock
set_option maxRecDepth 100000 in
set_option maxHeartbeats 1000000 in
theorem sort_nil (w : World) (A : Option Addr) (c : Nat) : Calls Try.prog 37 #[.slice A 0 c] w (fun e w' => e = .returned (.tuple #[]) ∧ w = w') := by
  have hins : ∀ w, Calls Try.prog 53 #[.slice A 0 c, .int .i64 0, .int .i64 0] w (fun e w' => e = .returned (.tuple #[]) ∧ w = w') := fun w => by
    go_enter Try.func53, Try.ntmps53
    go_wp2
    go_loopw [6] (fun v1 wr => v1 = .int .i64 1 ∧ w = wr) (fun _ _ => 0)
    case atStart => exact ⟨rfl, rfl⟩
    case round =>
      obtain ⟨rfl, rfl⟩ := hrel
      go_wp2
      go_end0
      exact ⟨rfl, rfl⟩
  have hpdq : ∀ w z, Calls Try.prog 46 #[.slice A 0 c, .int .i64 0, .int .i64 0, .int .i64 z] w (fun e w' => e = .returned (.tuple #[]) ∧ w = w') := fun w z => by
    go_enter Try.func46, Try.ntmps46
    go_wp2
    go_loopw [1, 2, 3, 8] (fun v1 v2 v3 v wr => v1 = .int .i64 0 ∧ v2 = .int .i64 0 ∧ v3 = .int .i64 z ∧ v = .bool true ∧ w = wr) (fun _ _ _ _ _ => 0)
    case atStart => exact ⟨rfl, rfl, rfl, rfl, rfl⟩
    case round =>
      obtain ⟨rfl, rfl, rfl, rfl, rfl⟩ := hrel
      go_wp2_with fail
      refine (hins w).mono ?_
      rintro e w' ⟨rfl, rfl⟩
      go_wp2
      refine bodyPost_ret (results_none rfl _ _ _) rfl ?_
      exact ⟨rfl, rfl⟩
  go_enter Try.func37, Try.ntmps37
  go_wp2_with fail
  refine (len_b w 0 (by omega)).mono ?_
  rintro e w' ⟨⟨n, rfl, _, _, _⟩, rfl⟩
  go_wp2_with fail
  refine (hpdq w (n : Int)).mono ?_
  rintro e w' ⟨rfl, rfl⟩
  go_wp2
  go_end0
  exact ⟨rfl, rfl⟩
theorem sort_ownG (w : World) (base : Nat) (A : Option Addr) (n c : Nat) (l : List Nat) (h : OwnN w base A n c l) (hn : n < 30000) : Calls Try.prog 37 #[.slice A n c] w (SortsOwn w base A n c l) := by
  have hl := h.len
  by_cases h0 : n = 0
  · subst h0
    obtain rfl : l = [] := List.eq_nil_of_length_eq_zero hl
    refine (sort_nil w A c).mono ?_
    rintro e w' ⟨rfl, rfl⟩
    exact ⟨rfl, by rw [show sortN [] = [] from by simp [sortN]]; exact h, RowKit.Below.refl _ _, ⟨rfl, rfl, rfl, Nat.le_refl _, fun _ _ _ => rfl⟩⟩
  · obtain ⟨g, rfl⟩ : ∃ g, A = some ⟨g, 0, none⟩ := by
      rcases h.2 with ⟨_, h2⟩ | ⟨g, cap, cur, hv, _⟩
      · exact absurd h2 h0
      · injection hv with e1
        exact ⟨g, e1⟩
    have hb := h.lt g rfl
    have hsz : l.toArray.size = n := by simpa using hl
    refine (sort_s (w0 := w) (blk := g) (off := 0) (cap := c) (N := n) (d := l.toArray) (Srt.start h.holds hb.2) hsz hn).mono ?_
    rintro e w' ⟨rfl, d, h1, h2, h3⟩
    rw [← hsz] at h1 h2
    have hd := sortN_of h1 h2
    obtain ⟨m, os, rfl⟩ := h3.sw
    have hd2 : d = (sortN l).toArray := by rw [← hd]
    obtain ⟨k1, k2, k3⟩ := h.sorted (m := m) (l' := sortN l) (sortN_len l)
    rw [hd2]
    refine ⟨rfl, k1.grow os, below_grow k2 (by rw [k3]; omega) os, ?_⟩
    refine ⟨rfl, rfl, rfl, by show _ ≤ (Sort.grow (putRow nv (Sort.ahead w m) g 0 (sortN l).toArray) os).heap.size; rw [size_grow, k3]; omega, fun q hq hne => ?_⟩
    rw [show (sortWorld nv w g 0 m (sortN l).toArray os) = Sort.grow (putRow nv (Sort.ahead w m) g 0 (sortN l).toArray) os from rfl, heap_grow_old _ os (by rw [k3]; exact hq)]
    have hqg : g ≠ q := fun e => hne (by rw [e]; rfl)
    simp [putRow, mapBlock, Sort.ahead, Array.getElem?_modify, hqg]
theorem sort_own (w : World) (base : Nat) (A : Option Addr) (n c : Nat) (l : List Nat) (h : OwnN w base A n c l) (hn : n < 50) : Calls Try.prog 37 #[.slice A n c] w (SortsOwn w base A n c l) :=
  sort_ownG w base A n c l h (by omega)
theorem OwnN.none_ {w : World} {base n c : Nat} {l : List Nat} (h : OwnN w base none n c l) : n = 0 ∧ l = [] := by
  rcases h.2 with ⟨_, h2⟩ | ⟨g, cap, cur, hv, _⟩
  · exact ⟨h2, List.eq_nil_of_length_eq_zero (by have := h.len; omega)⟩
  · cases hv
set_option maxRecDepth 100000 in
set_option maxHeartbeats 1000000 in
theorem ofA_anyG (w : World) (A : Option Addr) (n c : Nat) (l : List Nat) (hs : Sn w w.heap.size A n c 1 (nvs l)) (hl : ∀ x ∈ l, x < two64) (hn : n < 30000) :
    Calls Try.prog 26 #[.slice A n c] w (SaysS w 0 (ofL l)) := by
  have HS := Lib.hid hs
  have HL := Lib.hid hl
  obtain ⟨s, HSS⟩ : ∃ s, Hid (s = sortN l) := ⟨_, rfl⟩
  rw [show ofL l = ofGo [] s from by rw [HSS.out]; rfl]
  clear hs hl
  go_enter Try.func26, Try.ntmps26
  go_wp2_with fail
  have hR : (w.alloc (Obj.cells #[.slice none 0 0] 28)).heap[w.heap.size]? = some (.cells #[.slice none 0 0] 28 (0, 0)) := heap_alloc_new w _
  have hb1 : RowKit.Below w.heap.size w (w.alloc (Obj.cells #[.slice none 0 0] 28)) := below_box w _
  have hz1 : (w.alloc (Obj.cells #[.slice none 0 0] 28)).heap.size = w.heap.size + 1 := by simp
  have HS1 := Lib.hid (HS.out.onA (Obj.cells #[.slice none 0 0] 28))
  generalize w.alloc (Obj.cells #[.slice none 0 0] 28) = w1 at *
  have HR1 := Lib.hid hR
  have HZ1 := Lib.hid hz1
  clear hR hz1
  refine (cloneN_any w1 A n c l HS1.out (by omega)).mono ?_
  rintro e w2 ⟨A2, n2, c2, rfl, hown2, hb2⟩
  have hn2 : n2 = n := by rw [← hown2.len]; have := HS.out.len; rw [nvs_len] at this; omega
  subst hn2
  have HSO := Lib.hid (sort_ownG w2 w1.heap.size A2 n2 c2 l hown2 hn)
  have HB2 := Lib.hid hb2
  clear hown2 hb2
  go_wp2_with fail
  refine HSO.out.mono ?_
  rintro e w3 ⟨rfl, hown3, hb3, _⟩
  have hbase : w1.heap.size ≤ w3.heap.size := Nat.le_trans HB2.out.size hb3.size
  rw [← show s = sortN l from HSS.out] at hown3
  have HZ3 : Hid (w.heap.size < w3.heap.size ∧ w1.heap.size = w.heap.size + 1) := by have := HZ1.out; exact ⟨by omega, by omega⟩
  have hbw3 : RowKit.Below w.heap.size w w3 := hb1.trans ((HB2.out.mono (by have := HZ1.out; omega)).trans (hb3.mono (by have := HZ1.out; omega)))
  have HR3 := Lib.hid (((hb3.block w.heap.size (by have := HZ1.out; omega)).trans (HB2.out.block w.heap.size (by have := HZ1.out; omega))).trans HR1.out)
  have HOW3 := Lib.hid hown3
  have HSL : Hid (s.length = n2) := hown3.len
  have HLT : Hid (∀ x ∈ s, x < two64) := fun x hx => HL.out x ((sortN_mem l x).1 (HSS.out ▸ hx))
  clear hown3 hb3 HSO HR1 HB2 HL HS HS1 hb1 HZ1 hbase
  go_wp2_with fail
  go_loopg [4, 13] n2 (fun gk vl vi wr => OfRel w3 n2 s gk vl vi wr)
  case atStart =>
    exact ⟨0, none, 0, 0, by omega, rfl, rfl, ⟨rfl, .inl ⟨rfl, rfl⟩⟩, RowKit.Below.refl _ _⟩
  case round =>
    obtain ⟨k, Al, nl, cl, hg, rfl, rfl, hown, hbel⟩ := hrel
    have HG := Lib.hid hg
    have HOWN := Lib.hid hown
    have HROW := Lib.hid ((Sn.of_own HOW3.out).below hbel (Nat.le_refl _))
    have hzr := hbel.size
    clear hg hown
    by_cases hk : k < n2
    · have hkI : (k : Int) < (n2 : Int) := by omega
      have hk0 : (0 : Int) ≤ (k : Int) := by omega
      obtain ⟨x, hx⟩ : ∃ x, s[k]? = some x := ⟨_, List.getElem?_eq_getElem (by rw [HSL.out]; exact hk)⟩
      obtain ⟨g, o, he, hgB, hcell⟩ := HROW.out.cell (by omega)
      have hc : wr.cell? ⟨g, o + k, none⟩ = some (.int .u64 (x : Int)) := hcell k (nv x) (by simp [nvs, hx])
      subst he
      have HXL := Lib.hid (HLT.out x (List.mem_of_getElem? hx))
      have HTK : Hid (s.take (k + 1) = s.take k ++ [x]) := by show _ = _; rw [List.take_add_one, hx]; rfl
      have HLL : Hid (∀ q ∈ ofGo [] (s.take k), q.1 < two64 ∧ q.2 < two64) := ofGo_lt _ _ (fun a ha => by cases ha) (fun y hy => HLT.out y (List.mem_of_mem_take hy))
      have HNL : Hid (nl ≤ n2) := by
        have h1 := HOWN.out.1
        rw [rvs_len] at h1
        have h2 := ofGo_len (s.take k) []
        rw [List.length_take] at h2
        simp only [List.length_nil] at h2
        show _ ≤ _
        omega
      clear hx hcell
      go_wp2_with fail
      refine (join_any' wr w3.heap.size Al nl cl (ofGo [] (s.take k)) (x, x) HLL.out ⟨HXL.out, HXL.out⟩ (by have := HNL.out; omega) HOWN.out hzr).mono ?_
      rintro e w5 ⟨A5, n5, c5, rfl, hown5, hb5⟩
      have HO5 := Lib.hid hown5
      have HB5 := Lib.hid hb5
      clear hown5 hb5
      go_wp2
      go_roundg (gk - 1)
      case measure => have := HG.out; omega
      case rel =>
        refine ⟨k + 1, A5, n5, c5, by have := HG.out; omega, rfl, by go_num, by rw [HTK.out, ofGo_snoc]; exact HO5.out, hbel.trans HB5.out⟩
    · have hkI : ¬ (k : Int) < (n2 : Int) := by omega
      have HE : Hid (s.take k = s) := List.take_of_length_le (by have := HSL.out; have := HG.out; omega)
      have hR5 := (hbel.block w.heap.size HZ3.out.1).trans HR3.out
      have hq0 : wr.cell? ⟨w.heap.size, 0, none⟩ = some (.slice none 0 0) := by rw [cell_of_row wr _ 0 _ _ _ hR5]; rfl
      have hf0 := frz_row (i := 0) hR5
      have hown6 := HOWN.out.kept (set_grown wr w.heap.size 0 (.slice Al nl cl)) (own_ne HOWN.out HZ3.out.1)
      have hb6 : RowKit.Below w.heap.size w (wr.setCell ⟨w.heap.size, 0, none⟩ (.slice Al nl cl)) := (hbw3.trans (hbel.mono hbw3.size)).setCell (Nat.le_refl _) _
      have hc6 : (wr.setCell ⟨w.heap.size, 0, none⟩ (.slice Al nl cl)).cell? ⟨w.heap.size, 0, none⟩ = some (.slice Al nl cl) := World.cell?_setCell_same _ _ _ hq0
      have HO6 := Lib.hid hown6
      clear hR5 hown6
      go_wp2
      refine bodyPost_ret (v := .agg #[.slice Al nl cl]) (by simp [results, Try.results26, go_sem, hc6]) rfl ?_
      have ho := HO6.out
      rw [HE.out] at ho
      have hs3 := hbw3.size
      exact ⟨Al, nl, cl, rfl, St.of_own ho (ofGo_lt _ _ (fun a ha => by cases ha) HLT.out), fun b o hb => .inr (by have := (ho.lt b (by rw [hb]; rfl)).1; omega), hb6⟩
theorem ofA_any (w : World) (A : Option Addr) (n c : Nat) (l : List Nat) (hs : Sn w w.heap.size A n c 1 (nvs l)) (hl : ∀ x ∈ l, x < two64) (hn : n < 50) :
    Calls Try.prog 26 #[.slice A n c] w (SaysS w 0 (ofL l)) :=
  ofA_anyG w A n c l hs hl (by omega)
end Go.Proofs.Ythhmgbeigeagdaa
