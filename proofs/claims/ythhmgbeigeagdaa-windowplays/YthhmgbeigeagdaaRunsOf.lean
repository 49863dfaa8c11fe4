/-
  CONTRACTS of slices.Clone at uint64, of runs.Of at one to twelve numbers.
  No statement is proved here.
-/
import Derived.Test.YthhmgbeigeagdaaRunsSort
namespace Go.Proofs.Ythhmgbeigeagdaa
open Go.RowKit

theorem u64_info : (Try.prog.info? 25).map (fun i => (i.zero, i.size, i.bytes)) = some (some (.int .u64 0), 1, 8) := by kernel_rfl
theorem own_noneN (w : World) : OwnN (w.alloc (.cells #[] 25)) w.heap.size (some ⟨w.heap.size, 0, none⟩) 0 0 [] :=
  ⟨rfl, .inr ⟨w.heap.size, 0, _, rfl, Nat.le_refl _, heap_alloc_new w _, Nat.le_refl _, by unfold maxLen; omega, rfl, rfl⟩⟩
theorem eqIn_nilN (w : World) (d : Nat) (a : Option Addr) (l c : Nat) : (Op.equalIn (d + 1) 32 (.slice a l c) (.slice none 0 0)).run Try.prog w = .ok a.isNone w := by
  cases a <;> simp [Op.equalIn, run_underlying Try.underlying32]
theorem eql_nilN (w : World) (a : Option Addr) (l c : Nat) : (binOp .eql 32 (.slice a l c) (.slice none 0 0)).run Try.prog w = .ok (.bool a.isNone) w := by
  have h : (Op.equal 32 (.slice a l c) (.slice none 0 0)).run Try.prog w = .ok a.isNone w := eqIn_nilN w 9999 a l c
  simp [binOp, h]
def SaysOwnN (w : World) (base : Nat) (l : List Nat) (e : Ending) (w' : World) : Prop := ∃ A n c, e = .returned (.slice A n c) ∧ OwnN w' base A n c l ∧ Below base w w'
set_option maxHeartbeats 400000 in
theorem cloneN_any (w : World) (A : Option Addr) (n c : Nat) (l : List Nat) (hs : Sn w w.heap.size A n c 1 (nvs l)) (hb : n ≤ 1000000) :
    Calls Try.prog 36 #[.slice A n c] w (SaysOwnN w w.heap.size l) := by
  obtain ⟨i0, hi0, hz0, hz1, hz2⟩ := info_parts u64_info
  rcases A with _ | ad
  · have hn : n = 0 := by
      rcases Nat.eq_zero_or_pos n with h | h
      · exact h
      · obtain ⟨b, o, h1, _⟩ := hs.cell (by omega)
        cases h1
    subst hn
    have hl : l = [] := List.eq_nil_of_length_eq_zero (by have := hs.len; rw [nvs_len] at this; omega)
    subst hl
    have hq := eql_nilN w none 0 c
    go_enter Try.func36, Try.ntmps36
    go_wp2_with fail
    go_ret
    exact ⟨none, 0, 0, rfl, ⟨rfl, .inl ⟨rfl, rfl⟩⟩, Below.refl _ _⟩
  · have hq := eql_nilN w (some ad) n c
    have H := Lib.hid hs
    clear hs
    go_enter Try.func36, Try.ntmps36
    go_wp2_with (at_builtin; refine wpList_append_dstN _ rfl (.tmp 5) (.tmp 6) 32 32 rfl w.heap.size 25 i0 _ 1 8 Try.underlying32 hi0 hz0 hz1 hz2 rfl _ 0 0 (nvs []) rfl (.inr (own_noneN w)) _ n (nvs l) rfl ((H.out.alloc (Nat.le_refl _) _).src Try.underlying32 (nvs_one l)) (by omega) (by omega) (by simp) ?_; intro A3 c3 w3 h1 h2 h3 h4 h5 h6)
    go_ret
    exact ⟨A3, 0 + n, c3, by simp, h3 (own_noneN w), ((Below.refl _ w).alloc (Nat.le_refl _) _).trans h4⟩

/-! ### Of -/
def ofGo (acc : List Rn) (l : List Nat) : List Rn := l.foldl (fun s x => joinL s (x, x)) acc
def ofL (l : List Nat) : List Rn := ofGo [] (sortN l)
theorem ofGo_spec : ∀ (l : List Nat) (acc : List Rn), Canon acc → l.Pairwise (fun x y => x ≤ y) → (∀ a ∈ acc, ∀ x ∈ l, a.1 ≤ x) →
    Canon (ofGo acc l) ∧ (∀ x, memR (ofGo acc l) x ↔ memR acc x ∨ x ∈ l)
  | [], acc, hc, _, _ => ⟨hc, fun x => by simp [ofGo]⟩
  | y :: l, acc, hc, hp, ho => by
    obtain ⟨h1, h2, h3⟩ := joinL_spec (r := (y, y)) hc (Nat.le_refl _) (fun a ha => ho a ha y List.mem_cons_self)
    obtain ⟨hp1, hp2⟩ := List.pairwise_cons.1 hp
    obtain ⟨k1, k2⟩ := ofGo_spec l (joinL acc (y, y)) h1 hp2 (fun a ha x hx => Nat.le_trans (h3 a ha) (hp1 x hx))
    refine ⟨k1, fun x => ?_⟩
    have := k2 x
    show memR (ofGo (joinL acc (y, y)) l) x ↔ _
    rw [this, h2, List.mem_cons]
    constructor
    · rintro ((h | ⟨h, h'⟩) | h)
      · exact .inl h
      · simp only at h h'; exact .inr (.inl (by omega))
      · exact .inr (.inr h)
    · rintro (h | rfl | h)
      · exact .inl (.inl h)
      · exact .inl (.inr ⟨Nat.le_refl _, Nat.le_refl _⟩)
      · exact .inr h
theorem ofGo_lt : ∀ (l : List Nat) (acc : List Rn), (∀ a ∈ acc, a.1 < two64 ∧ a.2 < two64) → (∀ x ∈ l, x < two64) → ∀ a ∈ ofGo acc l, a.1 < two64 ∧ a.2 < two64
  | [], acc, hc, _ => hc
  | y :: l, acc, hc, hl => by
    have hy := hl y List.mem_cons_self
    exact ofGo_lt l (joinL acc (y, y)) (joinL_lt hc ⟨hy, hy⟩) (fun x hx => hl x (List.mem_cons_of_mem _ hx))
theorem sortN_le (l : List Nat) : (sortN l).Pairwise (fun x y => x ≤ y) := by
  have := List.pairwise_mergeSort (le := fun x y : Nat => decide (x ≤ y)) (fun a b c h1 h2 => by simp at *; omega) (fun a b => by simp; omega) l
  exact this.imp fun h => by simpa using h
theorem sortN_mem (l : List Nat) (x : Nat) : x ∈ sortN l ↔ x ∈ l := by simp [sortN]
theorem of_ok {l : List Nat} (h : ∀ x ∈ l, x < two64) : Okl (ofL l) :=
  ⟨(ofGo_spec (sortN l) [] Canon.nil (sortN_le l) (fun a ha => by cases ha)).1, ofGo_lt _ _ (fun a ha => by cases ha) (fun x hx => h x ((sortN_mem l x).1 hx))⟩
theorem of_mem (l : List Nat) (x : Nat) : memR (ofL l) x ↔ x ∈ l := by
  have := (ofGo_spec (sortN l) [] Canon.nil (sortN_le l) (fun a ha => by cases ha)).2 x
  unfold ofL
  rw [this, sortN_mem]
  simp [memR_nil]
theorem ofGo_snoc (acc : List Rn) (l : List Nat) (x : Nat) : ofGo acc (l ++ [x]) = joinL (ofGo acc l) (x, x) := by simp [ofGo]
theorem ofGo_len (l : List Nat) : ∀ acc : List Rn, (ofGo acc l).length ≤ acc.length + l.length := by
  induction l with
  | nil => intro acc; simp [ofGo]
  | cons y l ih =>
    intro acc
    have h1 := ih (joinL acc (y, y))
    have h2 := (joinL_len acc (y, y)).1
    show (ofGo (joinL acc (y, y)) l).length ≤ _
    simp only [List.length_cons]
    omega

def OfRel (w : World) (n : Nat) (s : List Nat) (gk : Nat) (vl vi : Value) (wr : World) : Prop :=
  ∃ (k : Nat) (Al : Option Addr) (nl cl : Nat), gk + k = n ∧ vl = .slice Al nl cl ∧ vi = .int .i64 (k : Int) ∧ Own wr (w.heap.size) Al nl cl (ofGo [] (s.take k)) ∧ Below w.heap.size w wr

set_option maxRecDepth 100000 in
set_option maxHeartbeats 1000000 in
theorem ofR_any (w : World) (A : Option Addr) (n c : Nat) (l : List Nat) (hs : Sn w w.heap.size A n c 1 (nvs l)) (hl : ∀ x ∈ l, x < two64) (hn : n ≤ 12) (h0 : 0 < n) :
    Calls Try.prog 26 #[.slice A n c] w (SaysS w 0 (ofL l)) := by
  have HS := Lib.hid hs
  have HL := Lib.hid hl
  obtain ⟨s, HSS⟩ : ∃ s, Hid (s = sortN l) := ⟨_, rfl⟩
  rw [show ofL l = ofGo [] s from by rw [HSS.out]; rfl]
  clear hs hl
  go_enter Try.func26, Try.ntmps26
  go_wp2_with fail
  have hR : (w.alloc (Obj.cells #[.slice none 0 0] 28)).heap[w.heap.size]? = some (.cells #[.slice none 0 0] 28 (0, 0)) := heap_alloc_new w _
  have hb1 : Below w.heap.size w (w.alloc (Obj.cells #[.slice none 0 0] 28)) := below_box w _
  have hz1 : (w.alloc (Obj.cells #[.slice none 0 0] 28)).heap.size = w.heap.size + 1 := by simp
  have HS1 := Lib.hid (HS.out.onA (Obj.cells #[.slice none 0 0] 28))
  generalize w.alloc (Obj.cells #[.slice none 0 0] 28) = w1 at *
  have HR1 := Lib.hid hR
  have HZ1 := Lib.hid hz1
  clear hR hz1
  refine (cloneN_any w1 A n c l HS1.out (by omega)).mono ?_
  rintro e w2 ⟨A2, n2, c2, rfl, hown2, hb2⟩
  have hn2 : n2 = n := by rw [← hown2.len]; have := HS.out.len; rw [nvs_len] at this; omega
  subst hn2
  obtain ⟨g, rfl⟩ : ∃ g, A2 = some ⟨g, 0, none⟩ := by
    rcases hown2.2 with ⟨hv, hz⟩ | ⟨g, cap, cur, hv, _⟩
    · omega
    · injection hv with e1
      exact ⟨g, e1⟩
  have HGB := Lib.hid (hown2.lt g rfl)
  have HLEN : Hid (l.length = n2) := hown2.len
  have hsort := sort_small g 0 c2 l.toArray w2 hown2.holds (by simp; have := HLEN.out; omega)
  rw [sortN_ins, ← HSS.out, show l.toArray.size = n2 from by simpa using HLEN.out] at hsort
  have HSO := Lib.hid hsort
  have HOW := Lib.hid hown2
  have HB2 := Lib.hid hb2
  clear hsort hown2 hb2
  go_wp2_with fail
  refine HSO.out.mono ?_
  rintro e w3 ⟨rfl, m, hw3⟩
  obtain ⟨hown3, hb3, hz3⟩ := HOW.out.sorted (m := m) (l' := s) (by rw [HSS.out]; exact sortN_len l)
  rw [← hw3] at hown3 hb3 hz3
  have HZ3 : Hid (w.heap.size < w3.heap.size ∧ w1.heap.size = w.heap.size + 1) := by have := HZ1.out; have := HGB.out; exact ⟨by omega, by omega⟩
  have hbw3 : Below w.heap.size w w3 := hb1.trans ((HB2.out.mono (by have := HZ1.out; omega)).trans (hb3.mono (by have := HZ1.out; omega)))
  have HR3 := Lib.hid (((hb3.block w.heap.size (by have := HZ1.out; omega)).trans (HB2.out.block w.heap.size (by have := HZ1.out; omega))).trans HR1.out)
  have HOW3 := Lib.hid hown3
  have HSL : Hid (s.length = n2) := hown3.len
  have HLT : Hid (∀ x ∈ s, x < two64) := fun x hx => HL.out x ((sortN_mem l x).1 (HSS.out ▸ hx))
  clear hown3 hw3 hz3 hb3 HOW HSO HR1 HB2 HL HS HS1 hb1 HZ1 HLEN
  go_wp2_with fail
  go_loopg [4, 13] n2 (fun gk vl vi wr => OfRel w3 n2 s gk vl vi wr)
  case atStart =>
    exact ⟨0, none, 0, 0, by omega, rfl, rfl, ⟨rfl, .inl ⟨rfl, rfl⟩⟩, Below.refl _ _⟩
  case round =>
    obtain ⟨k, Al, nl, cl, hg, rfl, rfl, hown, hbel⟩ := hrel
    have HG := Lib.hid hg
    have HOWN := Lib.hid hown
    have HROW := Lib.hid ((Sn.of_own HOW3.out).below hbel (Nat.le_refl _))
    have hzr := hbel.size
    clear hg hown
    by_cases hk : k < n2
    · have hkI : (k : Int) < (n2 : Int) := by omega
      have hk0 : (0 : Int) ≤ (k : Int) := by omega
      obtain ⟨x, hx⟩ : ∃ x, s[k]? = some x := ⟨_, List.getElem?_eq_getElem (by rw [HSL.out]; exact hk)⟩
      have hc : wr.cell? ⟨g, k, none⟩ = some (.int .u64 (x : Int)) := by
        obtain ⟨b, o, he, _, hcell⟩ := HROW.out.cell (by omega)
        injection he with he
        injection he with he1 he2
        subst he1 he2
        have := hcell k (nv x) (by simp [nvs, hx])
        rwa [Nat.zero_add] at this
      have HXL := Lib.hid (HLT.out x (List.mem_of_getElem? hx))
      have HTK : Hid (s.take (k + 1) = s.take k ++ [x]) := by show _ = _; rw [List.take_add_one, hx]; rfl
      have HLL : Hid (∀ q ∈ ofGo [] (s.take k), q.1 < two64 ∧ q.2 < two64) := ofGo_lt _ _ (fun a ha => by cases ha) (fun y hy => HLT.out y (List.mem_of_mem_take hy))
      have HNL : Hid (nl ≤ n2) := by
        have h1 := HOWN.out.1
        rw [rvs_len] at h1
        have h2 := ofGo_len (s.take k) []
        rw [List.length_take] at h2
        simp only [List.length_nil] at h2
        show _ ≤ _
        omega
      clear hx
      go_wp2_with fail
      refine (join_any' wr w3.heap.size Al nl cl (ofGo [] (s.take k)) (x, x) HLL.out ⟨HXL.out, HXL.out⟩ (by have := HNL.out; omega) HOWN.out hzr).mono ?_
      rintro e w5 ⟨A5, n5, c5, rfl, hown5, hb5⟩
      have HO5 := Lib.hid hown5
      have HB5 := Lib.hid hb5
      clear hown5 hb5
      go_wp2
      go_roundg (gk - 1)
      case measure => have := HG.out; omega
      case rel =>
        refine ⟨k + 1, A5, n5, c5, by have := HG.out; omega, rfl, by go_num, by rw [HTK.out, ofGo_snoc]; exact HO5.out, hbel.trans HB5.out⟩
    · have hkI : ¬ (k : Int) < (n2 : Int) := by omega
      have HE : Hid (s.take k = s) := List.take_of_length_le (by have := HSL.out; have := HG.out; omega)
      have hR5 := (hbel.block w.heap.size HZ3.out.1).trans HR3.out
      have hq0 : wr.cell? ⟨w.heap.size, 0, none⟩ = some (.slice none 0 0) := by rw [cell_of_row wr _ 0 _ _ _ hR5]; rfl
      have hf0 := frz_row (i := 0) hR5
      have hown6 := HOWN.out.kept (set_grown wr w.heap.size 0 (.slice Al nl cl)) (own_ne HOWN.out HZ3.out.1)
      have hb6 : Below w.heap.size w (wr.setCell ⟨w.heap.size, 0, none⟩ (.slice Al nl cl)) := (hbw3.trans (hbel.mono hbw3.size)).setCell (Nat.le_refl _) _
      have hc6 : (wr.setCell ⟨w.heap.size, 0, none⟩ (.slice Al nl cl)).cell? ⟨w.heap.size, 0, none⟩ = some (.slice Al nl cl) := World.cell?_setCell_same _ _ _ hq0
      have HO6 := Lib.hid hown6
      clear hR5 hown6
      go_wp2
      refine bodyPost_ret (v := .agg #[.slice Al nl cl]) (by simp [results, Try.results26, go_sem, hc6]) rfl ?_
      have ho := HO6.out
      rw [HE.out] at ho
      have hs3 := hbw3.size
      exact ⟨Al, nl, cl, rfl, St.of_own ho (ofGo_lt _ _ (fun a ha => by cases ha) HLT.out), fun b o hb => .inr (by have := (ho.lt b (by rw [hb]; rfl)).1; omega), hb6⟩
end Go.Proofs.Ythhmgbeigeagdaa
