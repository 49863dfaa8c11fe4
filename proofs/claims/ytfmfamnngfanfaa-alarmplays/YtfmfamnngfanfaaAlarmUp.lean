/-
  THE LINE of an alarm in memory; CONTRACTS of its Less, Swap; of container/heap's up over it.
  No statement is proved here.
-/
import Derived.Test.YtfmfamnngfanfaaAlarmOne
namespace Go.Proofs.Ytfmfamnngfanfaa
open Go.RowKit Go.Sort

/-- A sleeper's cells; p: its place. -/
structure Ha (w : World) (s : Slp) (p : Nat) : Prop where
  c0 : w.cell? ⟨s.b, 0, none⟩ = some (.int .u64 (s.id : Int))
  c1 : w.cell? ⟨s.b, 1, none⟩ = some (.int .i64 s.at_)
  c2 : w.cell? ⟨s.b, 2, none⟩ = some (.int .i64 (p : Int))
  fz : ∀ o, w.frozen? ⟨s.b, o, none⟩ = false
theorem Ha.kept {w w' : World} {s : Slp} {p : Nat} (h : Ha w s p) (hb : w'.heap[s.b]? = w.heap[s.b]?) : Ha w' s p :=
  ⟨(World.cell?_of_block (a := ⟨s.b, 0, none⟩) hb).trans h.c0, (World.cell?_of_block (a := ⟨s.b, 1, none⟩) hb).trans h.c1, (World.cell?_of_block (a := ⟨s.b, 2, none⟩) hb).trans h.c2, fun o => (World.frozen?_of_block (a := ⟨s.b, o, none⟩) hb).trans (h.fz o)⟩
theorem Ha.lt {w : World} {s : Slp} {p : Nat} (h : Ha w s p) : s.b < w.heap.size := World.block_lt_of_cell? w _ h.c0
theorem Ha.place {w : World} {s : Slp} {p : Nat} (h : Ha w s p) (q : Nat) : Ha (w.setCell ⟨s.b, 2, none⟩ (.int .i64 (q : Int))) s q :=
  ⟨(World.cell?_setCell_other _ _ _ _ (by simp)).trans h.c0, (World.cell?_setCell_other _ _ _ _ (by simp)).trans h.c1, World.cell?_setCell_same _ _ _ h.c2, fun o => by rw [World.frozen?_setCell]; exact h.fz o⟩
theorem Ha.drew {w : World} {s : Slp} {p : Nat} (h : Ha w s p) : Ha w.drew s p := ⟨h.c0, h.c1, h.c2, h.fz⟩
theorem setCell_drew (w : World) (a : Addr) (v : Value) : (w.drew).setCell a v = (w.setCell a v).drew := by
  unfold World.setCell World.drew
  split <;> rfl
theorem Only.drew {S : Nat → Prop} {a b : World} (h : Only S a b) : Only S a b.drew := ⟨h.os, h.tape, h.output, h.size, h.block⟩
/-- The line: its variable is the second cell of block a; its row is one of the call's own, and holds d's sleepers, each at its place. -/
structure Hq (w : World) (base a : Nat) (A : Option Addr) (n c : Nat) (d : Array Slp) : Prop where
  cell : w.cell? ⟨a, 1, none⟩ = some (.slice A n c)
  frz : w.frozen? ⟨a, 1, none⟩ = false
  own : w.ownsRow base 141 1 (.slice A n c) n (pvs d.toList)
  off : (Value.slice A n c).ownBlock ≠ some a
  sl : ∀ i, i < n → Ha w d[i]! i
  apart : ∀ i j, i < n → j < n → d[i]!.b = d[j]!.b → i = j
  out : ∀ i, i < n → d[i]!.b ≠ a ∧ (Value.slice A n c).ownBlock ≠ some d[i]!.b
/-- The row's block and the sleepers'. -/
def Ft (A : Option Addr) (n c : Nat) (d : Array Slp) (k : Nat) : Prop := (Value.slice A n c).ownBlock = some k ∨ ∃ s ∈ d.toList, s.b = k
theorem Ft.perm {A : Option Addr} {n c n' c' : Nat} {d d' : Array Slp} (hp : d'.toList.Perm d.toList) {k : Nat} (h : Ft A n' c' d' k) : Ft A n c d k := by
  rcases h with h | ⟨s, hs, e⟩
  · exact .inl (by rw [own_block A n c n' c']; exact h)
  · exact .inr ⟨s, hp.mem_iff.1 hs, e⟩
theorem Only.andBelow {S : Nat → Prop} {a b c : World} (h : Only S a b) (hb : RowKit.Below b.heap.size b c) : Only S a c := h.trans (Only.of_below (S := S) hb) (fun _ _ k => k)
section
variable {w w' : World} {base a n c : Nat} {A : Option Addr} {d : Array Slp}
theorem Hq.size (h : Hq w base a A n c d) : d.size = n := by have := h.own.1; rw [pvs_len] at this; simpa using (show d.toList.length = n by omega)
theorem Hq.lt (h : Hq w base a A n c d) : a < w.heap.size := World.block_lt_of_cell? w _ h.cell
theorem get_mem {d : Array Slp} {i : Nat} (h : i < d.size) : d[i]! ∈ d.toList := by rw [getElem!_pos d i h]; simp
theorem mem_get {d : Array Slp} {s : Slp} (h : s ∈ d.toList) : ∃ i, i < d.size ∧ d[i]! = s := by
  obtain ⟨i, hi, e⟩ := List.getElem_of_mem h
  refine ⟨i, by simpa using hi, ?_⟩
  rw [getElem!_pos d i (by simpa using hi)]
  simpa using e
theorem Hq.ft (h : Hq w base a A n c d) {i : Nat} (hi : i < n) : Ft A n c d d[i]!.b := .inr ⟨_, get_mem (by rw [h.size]; exact hi), rfl⟩
/-- Other blocks have turned. -/
theorem Hq.only {Q : Nat → Prop} (h : Hq w base a A n c d) (ho : Only Q w w') (hq : ∀ k, k < w.heap.size → Q k → k ≠ a ∧ ¬ Ft A n c d k) : Hq w' base a A n c d := by
  have kp : ∀ k, k < w.heap.size → (k = a ∨ Ft A n c d k) → w'.heap[k]? = w.heap[k]? := fun k hk hs => ho.block k hk (fun hQ => by
    have := hq k hk hQ
    rcases hs with hs | hs
    · exact this.1 hs
    · exact this.2 hs)
  refine ⟨(World.cell?_of_block (a := ⟨a, 1, none⟩) (kp a h.lt (.inl rfl))).trans h.cell, (World.frozen?_of_block (a := ⟨a, 1, none⟩) (kp a h.lt (.inl rfl))).trans h.frz, ?_, h.off, fun i hi => ?_, h.apart, h.out⟩
  · exact own_same h.own (fun b hb => kp b (h.own.lt b hb).2 (.inr (.inl hb)))
  · exact (h.sl i hi).kept (kp _ (h.sl i hi).lt (.inr (h.ft hi)))
theorem Hq.below (h : Hq w base a A n c d) (hb : RowKit.Below w.heap.size w w') : Hq w' base a A n c d := h.only (Only.of_below (S := fun _ => False) hb) (fun _ _ k => k.elim)
theorem Hq.row (h : Hq w base a A n c d) (hn : 0 < n) : ∃ rb, A = some ⟨rb, 0, none⟩ := by
  rcases h.own.2 with ⟨_, h0⟩ | ⟨rb, cap, cur, hv, _⟩
  · omega
  · injection hv with e1 e2 e3
    exact ⟨rb, e1⟩
theorem Hq.at_ {rb i : Nat} (h : Hq w base a (some ⟨rb, 0, none⟩) n c d) (hi : i < n) : w.cell? ⟨rb, i, none⟩ = some (.pointer (some ⟨d[i]!.b, 0, none⟩)) := by
  rw [h.own.cellAt i (by omega)]
  have hz := h.size
  have : d.toList[i]? = some d[i]! := by
    rw [List.getElem?_eq_getElem (by simpa [hz] using hi), getElem!_pos d i (by omega)]
    simp
  simp [pvs, this, pv]
end
theorem pvs_swp {d : Array Slp} {i j : Nat} : pvs (swp d i j).toList = ((pvs d.toList).set i (pv d[j]!)).set j (pv d[i]!) := by simp [swp, pvs, List.map_set]
set_option maxRecDepth 100000 in
theorem aless_own (w : World) (base a rb n c i j : Nat) (d : Array Slp) (h : Hq w base a (some ⟨rb, 0, none⟩) n c d) (hi : i < n) (hj : j < n) :
    Calls Try.prog 136 #[.slice (some ⟨rb, 0, none⟩) n c, .int .i64 i, .int .i64 j] w (Says w (.bool (lessA d[i]! d[j]!))) := by
  have hx := h.sl i hi
  have hy := h.sl j hj
  exact aless_cells w rb 0 n c i j _ _ hi hj (by rw [Nat.zero_add]; exact h.at_ hi) (by rw [Nat.zero_add]; exact h.at_ hj) hx.c0 hx.c1 hy.c0 hy.c1
def Swapped (w : World) (base a rb n c i j : Nat) (d : Array Slp) (e : Ending) (w' : World) : Prop :=
  e = .returned (.tuple #[]) ∧ Hq w' base a (some ⟨rb, 0, none⟩) n c (swp d i j) ∧ Only (Ft (some ⟨rb, 0, none⟩) n c d) w w'
theorem aswap_own (w : World) (base a rb n c i j : Nat) (d : Array Slp) (h : Hq w base a (some ⟨rb, 0, none⟩) n c d) (hi : i < n) (hj : j < n) (hij : i ≠ j) :
    Calls Try.prog 137 #[.slice (some ⟨rb, 0, none⟩) n c, .int .i64 i, .int .i64 j] w (Swapped w base a rb n c i j d) := by
  have hx := h.sl i hi
  have hy := h.sl j hj
  have hox := h.out i hi
  have hoy := h.out j hj
  have hbx : rb ≠ d[i]!.b := fun e => hox.2 (by rw [← e]; rfl)
  have hby : rb ≠ d[j]!.b := fun e => hoy.2 (by rw [← e]; rfl)
  have hxy : d[i]!.b ≠ d[j]!.b := fun e => hij (h.apart i j hi hj e)
  have hz := h.size
  have hra : rb ≠ a := fun e => h.off (by rw [← e]; rfl)
  refine (aswap_cells w rb 0 n c i j d[i]! d[j]! hi hj hij hbx hby hxy (by rw [Nat.zero_add]; exact h.at_ hi) (h.own.frozenAt _) (by rw [Nat.zero_add]; exact h.at_ hj) (h.own.frozenAt _) hx.c2 (hx.fz 2) hy.c2 (hy.fz 2)).mono ?_
  rintro e w' ⟨rfl, rfl⟩
  rw [Nat.zero_add, Nat.zero_add, setCell_drew, setCell_drew]
  have s1 := h.own.stored i (pv d[j]!)
  have s2 := s1.1.stored j (pv d[i]!)
  rw [← pvs_swp] at s2
  unfold pv at s1 s2
  have o12 : Only (Ft (some ⟨rb, 0, none⟩) n c d) w ((w.setCell ⟨rb, i, none⟩ (.pointer (some ⟨d[j]!.b, 0, none⟩))).setCell ⟨rb, j, none⟩ (.pointer (some ⟨d[i]!.b, 0, none⟩))) :=
    Only.of_grown (grown_trans s1.2 s2.2) (fun k e => by injection e with e; subst e; exact .inl rfl)
  have keep12 : ∀ k, k ≠ rb → ((w.setCell ⟨rb, i, none⟩ (.pointer (some ⟨d[j]!.b, 0, none⟩))).setCell ⟨rb, j, none⟩ (.pointer (some ⟨d[i]!.b, 0, none⟩))).heap[k]? = w.heap[k]? := fun k hk =>
    (RowKit.Below.heap_setCell _ ⟨rb, j, none⟩ _ k hk).trans (RowKit.Below.heap_setCell w ⟨rb, i, none⟩ _ k hk)
  have hx2 := hx.kept (keep12 _ (fun e => hbx e.symm))
  have hy2 := hy.kept (keep12 _ (fun e => hby e.symm))
  have hrest : ∀ k, k < n → Ha ((w.setCell ⟨rb, i, none⟩ (.pointer (some ⟨d[j]!.b, 0, none⟩))).setCell ⟨rb, j, none⟩ (.pointer (some ⟨d[i]!.b, 0, none⟩))) d[k]! k := fun k hk =>
    (h.sl k hk).kept (keep12 _ (fun e => (h.out k hk).2 (by rw [e]; rfl)))
  have hcell2 := (World.cell?_of_block (a := ⟨a, 1, none⟩) (keep12 a (fun e => hra e.symm))).trans h.cell
  have hfrz2 := (World.frozen?_of_block (a := ⟨a, 1, none⟩) (keep12 a (fun e => hra e.symm))).trans h.frz
  have hown2 := s2.1
  clear s1 s2
  generalize (w.setCell ⟨rb, i, none⟩ (.pointer (some ⟨d[j]!.b, 0, none⟩))).setCell ⟨rb, j, none⟩ (.pointer (some ⟨d[i]!.b, 0, none⟩)) = w2 at *
  have hy3 := hy2.place i
  have hx3 := hx2.kept (RowKit.Below.heap_setCell w2 ⟨d[j]!.b, 2, none⟩ (.int .i64 (i : Int)) d[i]!.b hxy)
  have hx4 := hx3.place j
  have keep34 : ∀ k, k ≠ d[j]!.b → k ≠ d[i]!.b → (((w2.setCell ⟨d[j]!.b, 2, none⟩ (.int .i64 (i : Int))).setCell ⟨d[i]!.b, 2, none⟩ (.int .i64 (j : Int)))).heap[k]? = w2.heap[k]? := fun k h1 h2 =>
    (RowKit.Below.heap_setCell _ ⟨d[i]!.b, 2, none⟩ _ k h2).trans (RowKit.Below.heap_setCell w2 ⟨d[j]!.b, 2, none⟩ _ k h1)
  have hy4 := hy3.kept (RowKit.Below.heap_setCell (w2.setCell ⟨d[j]!.b, 2, none⟩ (.int .i64 (i : Int))) ⟨d[i]!.b, 2, none⟩ (.int .i64 (j : Int)) d[j]!.b (fun e => hxy e.symm))
  have g := swp_at (d := d) (i := i) (j := j) (by omega) (by omega)
  have h34 : Only (Ft (some ⟨rb, 0, none⟩) n c d) w2 ((w2.setCell ⟨d[j]!.b, 2, none⟩ (.int .i64 (i : Int))).setCell ⟨d[i]!.b, 2, none⟩ (.int .i64 (j : Int))) :=
    ((Only.setCell w2 d[j]!.b 2 _).mono (fun k _ e => by rw [e]; exact h.ft hj)).trans ((Only.setCell _ d[i]!.b 2 _).mono (S2 := Ft (some ⟨rb, 0, none⟩) n c d) (fun k _ e => by rw [e]; exact h.ft hi)) (fun _ _ k => k)
  have hfin : Only (Ft (some ⟨rb, 0, none⟩) n c d) w ((w2.setCell ⟨d[j]!.b, 2, none⟩ (.int .i64 (i : Int))).setCell ⟨d[i]!.b, 2, none⟩ (.int .i64 (j : Int))).drew.drew := (o12.trans h34 (fun _ _ k => k)).drew.drew
  refine ⟨rfl, ⟨?_, ?_, ?_, h.off, fun k hk => ?_, fun k l hk hl e => ?_, fun k hk => ?_⟩, hfin⟩
  · exact (World.cell?_of_block (a := ⟨a, 1, none⟩) (keep34 a (fun e => hoy.1 e.symm) (fun e => hox.1 e.symm))).trans hcell2
  · exact (World.frozen?_of_block (a := ⟨a, 1, none⟩) (keep34 a (fun e => hoy.1 e.symm) (fun e => hox.1 e.symm))).trans hfrz2
  · refine own_same hown2 (fun b hb => ?_)
    have hb2 : b = rb := by injection hb with hb; exact hb.symm
    subst hb2
    exact keep34 b hby hbx
  · rw [g k]
    by_cases e1 : k = j
    · subst e1; rw [if_pos rfl]; exact hx4.drew.drew
    · rw [if_neg e1]
      by_cases e2 : k = i
      · subst e2; rw [if_pos rfl]; exact hy4.drew.drew
      · rw [if_neg e2]
        exact (hrest k hk).kept (keep34 _ (fun e => e1 (h.apart k j hk hj e)) (fun e => e2 (h.apart k i hk hi e)))
  · rw [g k, g l] at e
    split at e <;> split at e <;> (try split at e) <;> (try split at e)
    all_goals first
      | omega
      | (have := h.apart _ _ (by assumption) (by assumption) e; omega)
  · rw [g k]
    split
    · exact hox
    · split
      · exact hoy
      · exact h.out k hk
def hva (a : Nat) : Value := .iface 147 (.pointer (some ⟨a, 1, none⟩))
section
variable {a : Nat} {w : World} {v : Value}
theorem ameth_len (h : w.cell? ⟨a, 1, none⟩ = some v) : (method 323 147 (.pointer (some ⟨a, 1, none⟩)) "Len").run Try.prog w = .ok (135, v) w :=
  method_ptr (by kernel_rfl) Try.underlying147 (by simp [loadVar, h])
theorem ameth_less (h : w.cell? ⟨a, 1, none⟩ = some v) : (method 323 147 (.pointer (some ⟨a, 1, none⟩)) "Less").run Try.prog w = .ok (136, v) w :=
  method_ptr (by kernel_rfl) Try.underlying147 (by simp [loadVar, h])
theorem ameth_swap (h : w.cell? ⟨a, 1, none⟩ = some v) : (method 323 147 (.pointer (some ⟨a, 1, none⟩)) "Swap").run Try.prog w = .ok (137, v) w :=
  method_ptr (by kernel_rfl) Try.underlying147 (by simp [loadVar, h])
end
theorem ameth_push (a : Addr) (w : World) : (method 323 147 (.pointer (some a)) "Push").run Try.prog w = .ok (143, .pointer (some a)) w := by kernel_rfl
theorem ameth_pop (a : Addr) (w : World) : (method 323 147 (.pointer (some a)) "Pop").run Try.prog w = .ok (142, .pointer (some a)) w := by kernel_rfl
def AUpRel (w : World) (base a rb n c m : Nat) (d : Array Slp) (gk : Nat) (vj : Value) (wr : World) : Prop :=
  ∃ (j : Nat) (dk : Array Slp), vj = .int .i64 (j : Int) ∧ j < m ∧ j ≤ gk ∧ Hq wr base a (some ⟨rb, 0, none⟩) n c dk ∧ UpInv lessA dk m j ∧ dk.toList.Perm d.toList ∧ (∀ k, m ≤ k → dk[k]! = d[k]!) ∧ Only (Ft (some ⟨rb, 0, none⟩) n c d) w wr
/-- What a call on the heap leaves. -/
def Risen (w : World) (base a rb n c m : Nat) (d : Array Slp) (e : Ending) (w' : World) : Prop :=
  e = .returned (.tuple #[]) ∧ ∃ d', Hq w' base a (some ⟨rb, 0, none⟩) n c d' ∧ Heap lessA d' m ∧ d'.toList.Perm d.toList ∧ (∀ k, m ≤ k → d'[k]! = d[k]!) ∧ Only (Ft (some ⟨rb, 0, none⟩) n c d) w w'
set_option maxRecDepth 100000 in
set_option maxHeartbeats 4000000 in
theorem aup_any (w : World) (base a rb n c m j : Nat) (d : Array Slp) (h : Hq w base a (some ⟨rb, 0, none⟩) n c d) (hj : j < m) (hm : m ≤ n) (hi : UpInv lessA d m j) (hn : n ≤ 1000000) :
    Calls Try.prog 95 #[hva a, .int .i64 j] w (Risen w base a rb n c m d) := by
  have H := Lib.hid h
  have HI := Lib.hid hi
  clear h hi
  unfold hva
  go_enter Try.func95, Try.ntmps95
  go_wp2_with fail
  go_loopg [1] j (fun gk vj wr => AUpRel w base a rb n c m d gk vj wr)
  case atStart => exact ⟨j, d, rfl, hj, Nat.le_refl _, H.out, HI.out, List.Perm.refl _, fun _ _ => rfl, Only.refl _ _⟩
  case round =>
    clear H HI hj
    obtain ⟨j, dk, rfl, hjm, hgk, h, hi, hp, hk, hg⟩ := hrel
    have H := Lib.hid h
    have HI := Lib.hid hi
    have HP := Lib.hid hp
    have HK := Lib.hid hk
    have HG := Lib.hid hg
    have hc := h.cell
    clear h hi hp hg hk
    by_cases h0 : j = 0
    · subst h0
      have HE := Lib.hid (up_stop0 HI.out)
      clear hc
      go_wp2_with fail
      go_end0
      exact ⟨rfl, dk, H.out, HE.out, HP.out, HK.out, HG.out⟩
    · obtain ⟨p, hp⟩ : ∃ p, p = (j - 1) / 2 := ⟨_, rfl⟩
      have hpI : ((j : Int) - 1) / 2 = (p : Int) := by omega
      have hpj : ((p : Int) == (j : Int)) = false := by simp; omega
      have hpn : p < n := by omega
      have hjn : j < n := by omega
      have hj1 : (1 : Int) ≤ (j : Int) := by omega
      have hpj2 : p < j := by omega
      have HPJ := Lib.hid hp
      have hml := ameth_less hc
      clear hp
      cases hl : lessA dk[j]! dk[p]!
      · have HE : Hid (Heap lessA dk m) := up_stop HI.out (by rw [← HPJ.out]; exact hl)
        have HL := Lib.hid hl
        clear hl
        go_wp2_with fail
        refine (aless_own wr base a rb n c j p dk H.out hjn hpn).mono ?_
        rintro e w2 ⟨rfl, hb⟩
        rw [HL.out]
        have H2 := Lib.hid (H.out.below hb)
        have HG2 := Lib.hid (HG.out.andBelow hb)
        clear hb hml hc
        go_wp2_with fail
        go_end0
        exact ⟨rfl, dk, H2.out, HE.out, HP.out, HK.out, HG2.out⟩
      · have HST := Lib.hid (up_step lessA_wk HI.out (by omega) hjm (by rw [H.out.size]; exact hm) HPJ.out hl)
        have HL := Lib.hid hl
        clear hl
        go_wp2_with fail
        refine (aless_own wr base a rb n c j p dk H.out hjn hpn).mono ?_
        rintro e w2 ⟨rfl, hb⟩
        rw [HL.out]
        have H2 := Lib.hid (H.out.below hb)
        have HG2 := Lib.hid (HG.out.andBelow hb)
        have hms := ameth_swap H2.out.cell
        clear hb hml hc
        go_wp2_with fail
        refine (aswap_own w2 base a rb n c p j dk H2.out hpn hjn (by omega)).mono ?_
        rintro e w3 ⟨rfl, ho, hg⟩
        have H3 := Lib.hid ho
        have HG3 := Lib.hid (HG2.out.trans hg (fun _ _ k => Ft.perm HP.out k))
        clear ho hg hms
        go_wp2_with fail
        go_roundg (gk - 1)
        case measure => omega
        case rel =>
          refine ⟨p, swp dk p j, rfl, by omega, by omega, H3.out, HST.out, ?_, ?_, HG3.out⟩
          · exact (swp_perm (by rw [H2.out.size]; exact hpn) (by rw [H2.out.size]; exact hjn)).trans HP.out
          · intro k hk
            rw [swp_at (by rw [H2.out.size]; omega) (by rw [H2.out.size]; omega), if_neg (by omega), if_neg (by omega)]
            exact HK.out k hk
end Go.Proofs.Ytfmfamnngfanfaa
