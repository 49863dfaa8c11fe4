/-
  CONTRACTS of the reference's small functions on bytes: Same, Join, Cut.
  No statement is proved here.
-/
import Derived.Test.YtlkcnpmgafckoaaDoorRows
import Derived.Test.YtlkcnpmgafckoaaDoorWords
import Derived.Deep.QuietTactic
import Derived.BigQuiet
import Derived.Deep.LoopGhost
import Derived.WalkSpells
namespace Go.Proofs.YtlkcnpmgafckoaaDoor
open Go.RowKit

theorem u8_info : (Tryd.prog.info? 5).map (fun i => (i.zero, i.size, i.bytes)) = some (some (.int .u8 0), 1, 1) := by kernel_rfl

/-- One part of a row of byte slices. -/
structure Pt where
  A : Option Addr
  n : Nat
  c : Nat
  l : List UInt8
def Pt.v (p : Pt) : Value := .slice p.A p.n p.c
def cat (ps : List Pt) : List UInt8 := ps.flatMap Pt.l
theorem cat_succ (ps : List Pt) (j : Nat) (h : j < ps.length) : cat (ps.take (j + 1)) = cat (ps.take j) ++ ps[j].l := by
  unfold cat
  rw [List.take_succ_eq_append_getElem h, List.flatMap_append]
  simp only [List.flatMap_cons, List.flatMap_nil, List.append_nil]
theorem cat_le (ps : List Pt) (j : Nat) : (cat (ps.take j)).length ≤ (cat ps).length := by
  have : cat ps = cat (ps.take j) ++ cat (ps.drop j) := by
    unfold cat; rw [← List.flatMap_append, List.take_append_drop]
  rw [this, List.length_append]; omega

/-- A new row with these bytes is handed back; nothing that was there has turned. -/
def Fresh (w : World) (l : List UInt8) (e : Ending) (w' : World) : Prop :=
  ∃ A n c, e = .returned (.slice A n c) ∧ w'.ownsRow w.heap.size 5 1 (.slice A n c) n (cbs l) ∧ Below w.heap.size w w'

def JoinRel (w : World) (ps : List Pt) (k : Nat) (out i : Value) (wr : World) : Prop :=
  ∃ (j : Nat) (A : Option Addr) (n c : Nat), k + j = ps.length ∧ n = (cat (ps.take j)).length ∧ i = .int .i64 (j : Int) ∧ out = .slice A n c ∧
    wr.ownsRow w.heap.size 5 1 (.slice A n c) n (cbs (cat (ps.take j))) ∧ Below w.heap.size w wr

set_option maxHeartbeats 400000 in
theorem join_any (w : World) (g : Nat) (ps : List Pt) (hc : ∀ j p, ps[j]? = some p → w.cell? ⟨g, j, none⟩ = some p.v) (hg : g < w.heap.size)
    (hs : ∀ p ∈ ps, Sl w w.heap.size p.A p.n p.c p.l) (hk : ps.length ≤ 1000) (hb : (cat ps).length ≤ 1000000) :
    Calls Tryd.prog 21 #[.slice (some ⟨g, 0, none⟩) ps.length ps.length] w (Fresh w (cat ps)) := by
  have HC := Lib.hid hc; clear hc
  have HS := Lib.hid hs; clear hs
  have HB := Lib.hid hb; clear hb
  go_enter Tryd.func21, Tryd.ntmps21
  go_wp2
  go_loopg [3, 8] ps.length (fun k out i wr => JoinRel w ps k out i wr)
  case atStart => exact ⟨0, none, 0, 0, by omega, rfl, rfl, rfl, ⟨rfl, .inl ⟨rfl, rfl⟩⟩, Below.refl _ _⟩
  case round =>
    obtain ⟨j, A, n, c, hj, hn, rfl, rfl, hown, hbel⟩ := hrel
    have HN := Lib.hid hn; clear hn
    have HJ := Lib.hid hj; clear hj
    by_cases hlt : j < ps.length
    · obtain ⟨i0, hi0, hz0, hz1, hz2⟩ := info_parts u8_info
      have hp : ps[j]? = some ps[j] := List.getElem?_eq_getElem hlt
      have hcell : wr.cell? ⟨g, j, none⟩ = some (.slice ps[j].A ps[j].n ps[j].c) := (hbel.cell (p := ⟨g, j, none⟩) hg).trans (HC.out j _ hp)
      have hsl : Sl wr w.heap.size ps[j].A ps[j].n ps[j].c ps[j].l := (HS.out _ (List.getElem_mem hlt)).below hbel (Nat.le_refl _)
      have hsum : (cat (ps.take (j + 1))) = cat (ps.take j) ++ ps[j].l := cat_succ ps j hlt
      have hle : (cat (ps.take (j + 1))).length ≤ (cat ps).length := cat_le ps (j + 1)
      have hbd : n + ps[j].n ≤ 140737488355328 := by
        have h1 := HB.out
        have h2 := HN.out
        have h3 := hsl.len
        rw [hsum, List.length_append] at hle
        omega
      have HSUM := Lib.hid hsum; clear hsum hle hp
      generalize ps[j] = p at *
      go_wp2_with (at_builtin; refine wpList_append_dst _ rfl (.tmp 12) (.tmp 13) 37 37 rfl w.heap.size 5 i0 Tryd.underlying37 hi0 hz0 hz1 hz2 A n c (cat (ps.take j)) rfl (.inr hown) _ p.n p.l rfl (hsl.src Tryd.underlying37) hbd hbel.size ?_; intro A' c' w' _ _ h4 h5 h6)
      go_roundg (gk - 1)
      case measure => have := HJ.out; omega
      case rel =>
        have h7 := h4 hown
        rw [← HSUM.out] at h7
        exact ⟨j + 1, A', n + p.n, c', by have := HJ.out; omega, by rw [HSUM.out, List.length_append, hsl.len, HN.out], by go_num, rfl, h7, hbel.trans h5⟩
    · have hjj : j = ps.length := by have := HJ.out; omega
      have HF : Hid (ps.take j = ps) := by rw [hjj]; exact List.take_length
      clear hjj
      go_wp2
      go_ret
      rw [HF.out] at hown
      exact ⟨A, n, c, rfl, hown, hbel⟩

/-- Join of one, of two. -/
theorem cat_one (p : Pt) : cat [p] = p.l := by simp [cat]
theorem cat_two (p q : Pt) : cat [p, q] = p.l ++ q.l := by simp [cat]

theorem join_one (w : World) (g : Nat) (A : Option Addr) (n c : Nat) (l : List UInt8) (hc : w.cell? ⟨g, 0, none⟩ = some (.slice A n c)) (hg : g < w.heap.size) (hs : Sl w w.heap.size A n c l) (hb : l.length ≤ 1000000) :
    Calls Tryd.prog 21 #[.slice (some ⟨g, 0, none⟩) 1 1] w (Fresh w l) := by
  have h := join_any w g [⟨A, n, c, l⟩] (fun j p hp => by
    rcases j with _ | j
    · simp at hp; subst hp; exact hc
    · simp at hp) hg (fun p hp => by simp at hp; subst hp; exact hs) (by simp) (by rw [cat_one]; exact hb)
  rw [cat_one] at h
  exact h
theorem join_two (w : World) (g : Nat) (A A' : Option Addr) (n c n' c' : Nat) (l l' : List UInt8) (hc : w.cell? ⟨g, 0, none⟩ = some (.slice A n c)) (hc' : w.cell? ⟨g, 1, none⟩ = some (.slice A' n' c')) (hg : g < w.heap.size)
    (hs : Sl w w.heap.size A n c l) (hs' : Sl w w.heap.size A' n' c' l') (hb : l.length + l'.length ≤ 1000000) :
    Calls Tryd.prog 21 #[.slice (some ⟨g, 0, none⟩) 2 2] w (Fresh w (l ++ l')) := by
  have h := join_any w g [⟨A, n, c, l⟩, ⟨A', n', c', l'⟩] (fun j p hp => by
    rcases j with _ | _ | j
    · simp at hp; subst hp; exact hc
    · simp at hp; subst hp; exact hc'
    · simp at hp) hg (fun p hp => by
      simp at hp
      rcases hp with rfl | rfl
      · exact hs
      · exact hs') (by simp) (by rw [cat_two, List.length_append]; exact hb)
  rw [cat_two] at h
  exact h

/-! ### Cut -/
theorem Fresh.of {w w1 w' : World} {l : List UInt8} {e : Ending} (h : Fresh w1 l e w') (hb : Below w.heap.size w w1) : Fresh w l e w' := by
  obtain ⟨A, n, c, he, hown, hbel⟩ := h
  have hz := hb.size
  refine ⟨A, n, c, he, ⟨hown.1, ?_⟩, hb.trans (hbel.mono hz)⟩
  rcases hown.2 with hn | ⟨g, cap, cur, hv, hbg, rest⟩
  · exact .inl hn
  · exact .inr ⟨g, cap, cur, hv, Nat.le_trans hz hbg, rest⟩

set_option maxHeartbeats 400000 in
theorem cut_any (w : World) (A : Option Addr) (n c : Nat) (l : List UInt8) (most : Nat) (hs : Sl w w.heap.size A n c l) (hm : most ≤ 1000000) :
    Calls Tryd.prog 20 #[.slice A n c, .int .i64 (most : Int)] w (Fresh w (l.take most)) := by
  have hle := hs.le
  have hmax := hs.max
  unfold maxLen at hmax
  by_cases h : most < n
  · have hsl := hs.take (k := most) (m := c) (by omega) (by omega) (Nat.le_refl _)
    go_enter Tryd.func20, Tryd.ntmps20
    go_wp2_with fail
    refine (join_one _ w.heap.size A most c (l.take most) ?_ ?_ ?_ ?_).mono ?_
    · simp
    · simp
    · exact (hsl.alloc (Nat.le_refl _) _).more (by simp)
    · rw [List.length_take]; omega
    rintro e w' h'
    have h2 := h'.of ((Below.refl _ w).alloc (Nat.le_refl _) _)
    obtain ⟨A', n', c', rfl, h3⟩ := h2
    go_wp2
    go_ret
    exact ⟨A', n', c', rfl, h3⟩
  · have hl : l.take most = l := List.take_of_length_le (by have := hs.len; omega)
    rw [hl]
    clear hl
    go_enter Tryd.func20, Tryd.ntmps20
    go_wp2_with fail
    refine (join_one _ w.heap.size A n c l ?_ ?_ ?_ ?_).mono ?_
    · simp
    · simp
    · exact (hs.alloc (Nat.le_refl _) _).more (by simp)
    · have := hs.len; omega
    rintro e w' h'
    have h2 := h'.of ((Below.refl _ w).alloc (Nat.le_refl _) _)
    obtain ⟨A', n', c', rfl, h3⟩ := h2
    go_wp2
    go_ret
    exact ⟨A', n', c', rfl, h3⟩

/-! ### Same -/
def sameB (l m : List UInt8) : Bool := decide (l = m)
theorem take_eq_succ {l m : List UInt8} {j : Nat} {x : UInt8} (h1 : l[j]? = some x) (h2 : m[j]? = some x) (h : l.take j = m.take j) : l.take (j + 1) = m.take (j + 1) := by
  rw [List.take_add_one, List.take_add_one, h, h1, h2]
def SameRel (w : World) (l m : List UInt8) (k : Nat) (i : Value) (wr : World) : Prop :=
  ∃ (j q : Nat), k + j = l.length ∧ i = .int .i64 (j : Int) ∧ wr = w.drewN q ∧ l.take j = m.take j

set_option maxHeartbeats 400000 in
theorem same_any (w : World) (B : Nat) (A A' : Option Addr) (n c n' c' : Nat) (l l' : List UInt8) (hs : Sl w B A n c l) (hs' : Sl w B A' n' c' l') :
    Calls Tryd.prog 18 #[.slice A n c, .slice A' n' c'] w fun e w' => e = .returned (.bool (sameB l l')) ∧ ∃ q, w' = w.drewN q := by
  have hle := hs.le
  have hmax := hs.max
  have hle' := hs'.le
  have hmax' := hs'.max
  unfold maxLen at hmax hmax'
  have hlen := Lib.hid hs.len
  have hlen' := Lib.hid hs'.len
  by_cases hnn : n = n'
  · subst hnn
    have HS := Lib.hid hs; clear hs
    have HS' := Lib.hid hs'; clear hs'
    have hne : ((n : Int) != (n : Int)) = false := by simp
    go_enter Tryd.func18, Tryd.ntmps18
    go_wp2
    go_loopg [13] n (fun k i wr => SameRel w l l' k i wr)
    case atStart => exact ⟨0, 0, by have := hlen.out; omega, rfl, rfl, rfl⟩
    case round =>
      obtain ⟨j, q, hj, rfl, rfl, hq⟩ := hrel
      have HJ := Lib.hid hj; clear hj
      have HQ := Lib.hid hq; clear hq
      by_cases hlt : j < n
      · obtain ⟨b, o, x, rfl, _, hx, hc⟩ := HS.out.at_ hlt
        obtain ⟨b', o', x', rfl, _, hx', hc'⟩ := HS'.out.at_ hlt
        have HX := Lib.hid hx; clear hx
        have HX' := Lib.hid hx'; clear hx'
        have hj0 : (0 : Int) ≤ (j : Int) := by omega
        have hjn : (j : Int) < (n : Int) := by omega
        by_cases hxx : x = x'
        · subst hxx
          have hb : ((x.toNat : Int) != (x.toNat : Int)) = false := by simp
          go_wp2
          go_quiet (fail)
          go_wp2
          go_roundg (gk - 1)
          case measure => have := HJ.out; have := hlen.out; omega
          case rel => exact ⟨j + 1, _, by have := HJ.out; have := hlen.out; omega, by go_num, rfl, take_eq_succ HX.out HX'.out HQ.out⟩
        · have hb : ((x.toNat : Int) != (x'.toNat : Int)) = true := by
            rw [bne_iff_ne]
            intro h
            exact hxx (UInt8.toNat_inj.1 (by omega))
          go_wp2
          go_quiet (fail)
          go_wp2
          go_ret
          have : sameB l l' = false := by
            unfold sameB
            rw [decide_eq_false_iff_not]
            rintro rfl
            have h1 := HX.out
            rw [HX'.out] at h1
            injection h1 with h1
            exact hxx h1.symm
          exact ⟨by rw [this]; rfl, _, World.drewN_drewN ..⟩
      · have hjj : j = n := by have := HJ.out; have := hlen.out; omega
        have : sameB l l' = true := by
          have h1 := HQ.out
          rw [List.take_of_length_le (by have := hlen.out; omega), List.take_of_length_le (by have := hlen'.out; omega)] at h1
          unfold sameB
          rw [h1]
          simp
        have HT := Lib.hid this
        clear this hjj
        go_wp2
        go_ret
        exact ⟨by rw [HT.out]; rfl, _, rfl⟩
  · have hne : ((n : Int) != (n' : Int)) = true := by simp; omega
    go_enter Tryd.func18, Tryd.ntmps18
    go_wp2
    go_ret
    have : sameB l l' = false := by
      unfold sameB
      rw [decide_eq_false_iff_not]
      rintro rfl
      exact hnn (hlen.out.symm.trans hlen'.out)
    exact ⟨by rw [this]; rfl, 0, rfl⟩

end Go.Proofs.YtlkcnpmgafckoaaDoor
