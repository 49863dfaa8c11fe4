/-
  CONTRACTS of container/heap's up, down over share's lines.
  No statement is proved here.
-/
import Derived.Test.YtfmfamnngfanfaaShareSwap
namespace Go.Proofs.Ytfmfamnngfanfaa
open Go.RowKit Go.Sort

section
variable {g : Nat} {w : World} {v : Value}
theorem meth_len (h : w.cell? ⟨g, 0, none⟩ = some v) : (method 323 153 (.pointer (some ⟨g, 0, none⟩)) "Len").run Try.prog w = .ok (144, v) w :=
  method_ptr (by kernel_rfl) Try.underlying153 (by simp [loadVar, h])
theorem meth_less (h : w.cell? ⟨g, 0, none⟩ = some v) : (method 323 153 (.pointer (some ⟨g, 0, none⟩)) "Less").run Try.prog w = .ok (145, v) w :=
  method_ptr (by kernel_rfl) Try.underlying153 (by simp [loadVar, h])
theorem meth_swap (h : w.cell? ⟨g, 0, none⟩ = some v) : (method 323 153 (.pointer (some ⟨g, 0, none⟩)) "Swap").run Try.prog w = .ok (146, v) w :=
  method_ptr (by kernel_rfl) Try.underlying153 (by simp [loadVar, h])
end
theorem meth_push (a : Addr) (w : World) : (method 323 153 (.pointer (some a)) "Push").run Try.prog w = .ok (150, .pointer (some a)) w := by kernel_rfl
theorem meth_pop (a : Addr) (w : World) : (method 323 153 (.pointer (some a)) "Pop").run Try.prog w = .ok (149, .pointer (some a)) w := by kernel_rfl

/-- The heap: its variable is block g, its row one of the call's own, and holds d. -/
structure Hp (w : World) (base g : Nat) (A : Option Addr) (n c : Nat) (d : Array Ln) : Prop where
  cell : w.cell? ⟨g, 0, none⟩ = some (.slice A n c)
  frz : w.frozen? ⟨g, 0, none⟩ = false
  own : w.ownsRow base 152 5 (.slice A n c) n (lvs d.toList)
  off : (Value.slice A n c).ownBlock ≠ some g
  gb : base ≤ g
section
variable {w w' : World} {base g n c : Nat} {A : Option Addr} {d : Array Ln}
theorem Hp.size (h : Hp w base g A n c d) : d.size = n := by have := h.own.1; rw [lvs_len] at this; simpa using (show d.toList.length = n by omega)
theorem Hp.lt (h : Hp w base g A n c d) : g < w.heap.size := World.block_lt_of_cell? w _ h.cell
theorem Hp.below (h : Hp w base g A n c d) (hb : RowKit.Below w.heap.size w w') : Hp w' base g A n c d :=
  ⟨(hb.cell (p := ⟨g, 0, none⟩) h.lt).trans h.cell, (hb.frozen (p := ⟨g, 0, none⟩) h.lt).trans h.frz, h.own.kept (below_grown hb none) (by cases (Value.slice A n c).ownBlock <;> simp), h.off, h.gb⟩
theorem Hp.turned (h : Hp w base g A n c d) {d' : Array Ln} {rb : Nat} (hr : (Value.slice A n c).ownBlock = some rb) (ho : w'.ownsRow base 152 5 (.slice A n c) n (lvs d'.toList)) (hg : w.grownBy w' (some rb)) : Hp w' base g A n c d' := by
  have hne : some g ≠ some rb := fun e => h.off (hr.trans e.symm)
  exact ⟨(World.cell?_of_block (a := ⟨g, 0, none⟩) (hg.block g h.lt hne)).trans h.cell, (World.frozen?_of_block (a := ⟨g, 0, none⟩) (hg.block g h.lt hne)).trans h.frz, ho, h.off, h.gb⟩
theorem Hp.row (h : Hp w base g A n c d) (hn : 0 < n) : ∃ rb, A = some ⟨rb, 0, none⟩ := by
  rcases h.own.2 with ⟨_, h0⟩ | ⟨rb, cap, cur, hv, _⟩
  · omega
  · injection hv with e1 e2 e3
    exact ⟨rb, e1⟩
end
def hv (g : Nat) : Value := .iface 153 (.pointer (some ⟨g, 0, none⟩))

def UpRel (w : World) (base g rb n c : Nat) (d : Array Ln) (gk : Nat) (vj : Value) (wr : World) : Prop :=
  ∃ (j : Nat) (dk : Array Ln), vj = .int .i64 (j : Int) ∧ j < n ∧ j ≤ gk ∧ Hp wr base g (some ⟨rb, 0, none⟩) n c dk ∧ UpInv lessL dk n j ∧ dk.toList.Perm d.toList ∧ w.grownBy wr (some rb)
/-- What a call on the heap leaves. -/
def Heaped (w : World) (base g rb n c : Nat) (d : Array Ln) (v : Value) (e : Ending) (w' : World) : Prop :=
  e = .returned v ∧ ∃ d', Hp w' base g (some ⟨rb, 0, none⟩) n c d' ∧ Heap lessL d' n ∧ d'.toList.Perm d.toList ∧ w.grownBy w' (some rb)
set_option maxRecDepth 100000 in
set_option maxHeartbeats 4000000 in
theorem up_any (w : World) (base g rb n c j : Nat) (d : Array Ln) (h : Hp w base g (some ⟨rb, 0, none⟩) n c d) (hj : j < n) (hi : UpInv lessL d n j) (hn : n ≤ 1000000) :
    Calls Try.prog 95 #[hv g, .int .i64 j] w (Heaped w base g rb n c d (.tuple #[])) := by
  have H := Lib.hid h
  have HI := Lib.hid hi
  clear h hi
  unfold hv
  go_enter Try.func95, Try.ntmps95
  go_wp2_with fail
  go_loopg [1] j (fun gk vj wr => UpRel w base g rb n c d gk vj wr)
  case atStart => exact ⟨j, d, rfl, hj, Nat.le_refl _, H.out, HI.out, List.Perm.refl _, ⟨rfl, rfl, rfl, Nat.le_refl _, fun _ _ _ => rfl⟩⟩
  case round =>
    clear H HI hj
    obtain ⟨j, dk, rfl, hjn, hgk, h, hi, hp, hg⟩ := hrel
    have H := Lib.hid h
    have HI := Lib.hid hi
    have HP := Lib.hid hp
    have HG := Lib.hid hg
    have hc := h.cell
    clear h hi hp hg
    by_cases h0 : j = 0
    · subst h0
      have HE := Lib.hid (up_stop0 HI.out)
      clear hc
      go_wp2_with fail
      go_end0
      exact ⟨rfl, dk, H.out, HE.out, HP.out, HG.out⟩
    · obtain ⟨p, hp⟩ : ∃ p, p = (j - 1) / 2 := ⟨_, rfl⟩
      have hpI : ((j : Int) - 1) / 2 = (p : Int) := by omega
      have hpj : ((p : Int) == (j : Int)) = false := by simp; omega
      have hpn : p < n := by omega
      have hj1 : (1 : Int) ≤ (j : Int) := by omega
      have hpj2 : p < j := by omega
      have HPJ := Lib.hid hp
      have hml := meth_less hc
      clear hp
      cases hl : lessL dk[j]! dk[p]!
      · have HE : Hid (Heap lessL dk n) := up_stop HI.out (by rw [← HPJ.out]; exact hl)
        have HL := Lib.hid hl
        clear hl
        go_wp2_with fail
        refine (less_own wr base rb n c j p dk H.out.own hjn hpn).mono ?_
        rintro e w2 ⟨rfl, hb⟩
        rw [HL.out]
        have H2 := Lib.hid (H.out.below hb)
        have HG2 := Lib.hid (grown_trans HG.out (below_grown hb _))
        clear hb hml hc
        go_wp2_with fail
        go_end0
        exact ⟨rfl, dk, H2.out, HE.out, HP.out, HG2.out⟩
      · have HST := Lib.hid (up_step lessL_wk HI.out (by omega) hjn (by rw [H.out.size]; exact Nat.le_refl _) HPJ.out hl)
        have HL := Lib.hid hl
        clear hl
        go_wp2_with fail
        refine (less_own wr base rb n c j p dk H.out.own hjn hpn).mono ?_
        rintro e w2 ⟨rfl, hb⟩
        rw [HL.out]
        have H2 := Lib.hid (H.out.below hb)
        have HG2 := Lib.hid (grown_trans HG.out (below_grown hb _))
        have hms := meth_swap H2.out.cell
        clear hb hml hc
        go_wp2_with fail
        refine (swap_own w2 base rb n c p j dk H2.out.own hpn hjn).mono ?_
        rintro e w3 ⟨rfl, ho, hg⟩
        have H3 := Lib.hid (H2.out.turned rfl ho hg)
        have HG3 := Lib.hid (grown_trans HG2.out hg)
        clear ho hg hms
        go_wp2_with fail
        go_roundg (gk - 1)
        case measure => omega
        case rel =>
          refine ⟨p, swp dk p j, rfl, hpn, by omega, H3.out, HST.out, ?_, HG3.out⟩
          exact (swp_perm (by rw [H2.out.size]; exact hpn) (by rw [H2.out.size]; exact hjn)).trans HP.out
end Go.Proofs.Ytfmfamnngfanfaa
