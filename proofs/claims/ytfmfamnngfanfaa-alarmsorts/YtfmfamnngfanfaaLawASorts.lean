/-
  WALK of AlarmSorts.
-/
import Derived.Test.YtfmfamnngfanfaaAlarmTwo
namespace Go.Proofs.Ytfmfamnngfanfaa
open Go.RowKit Go.Sort Go.Maps

theorem zero_i64 (w : World) : (zeroValue 2).run Try.prog w = .ok (.int .i64 0) w := by kernel_rfl
theorem timeOf_setE {id x : Nat} {t : Int} {l : List En} (h : Ord l) : timeOf id (setE x t l) = if id = x then some t else timeOf id l := by
  by_cases e : id = x
  · subst e
    rw [if_pos rfl, timeOf_set h]
  · rw [if_neg e]
    apply Option.ext
    intro u
    rw [timeOf_mem (setE_ord h).nd, timeOf_mem h.nd, setE_mem]
    constructor
    · rintro (h1 | h1)
      · injection h1 with h1; exact absurd h1 e
      · exact h1.1
    · exact fun h1 => .inr ⟨h1, e⟩
/-- What the map of last times holds. -/
def tf (l : List En) (id : Nat) : Option Value := (timeOf id l).map (Value.int .i64 ·)
theorem tf_set {x : Nat} {t : Int} {l : List En} (h : Ord l) : putF (tf l) x (.int .i64 t) = tf (setE x t l) := by
  funext id
  unfold putF tf
  rw [timeOf_setE h]
  split <;> rfl
theorem tf_len {x : Nat} {t : Int} {l : List En} (h : Ord l) : (if (tf l x).isSome then l.length else l.length + 1) = (setE x t l).length := by
  rw [setE_len]
  unfold tf
  cases ht : timeOf x l with
  | none =>
    rw [without_none (timeOf_none.1 ht)]
    rfl
  | some u =>
    have hm := (timeOf_mem h.nd).1 ht
    obtain ⟨i, hi, e⟩ := List.getElem_of_mem hm
    have h1 := set_perm (id := x) (t := u) (at_ := t) l i h.nd (by rw [List.getElem?_eq_getElem hi, e])
    have h2 := h1.length_eq
    rw [List.length_set] at h2
    simpa using h2
def SortsRel (w : World) (B1 a mb n gk : Nat) (vi : Value) (wr : World) : Prop :=
  ∃ (k : Nat) (Sa : Nat → Prop) (la : List En), gk + k = n ∧ vi = .int .i64 (k : Int) ∧ la.length ≤ k ∧ la.length ≤ 80 ∧ Al wr Sa B1 a la ∧ Ord la ∧ Late la ∧ Mv Try.prog 47 wr mb la.length (tf la) ∧ ¬ Sa mb ∧ RowKit.Below w.heap.size w wr
def Sorts2 (w : World) (n gk : Nat) (vi : Value) (wr : World) : Prop := ∃ k, gk + k = n ∧ vi = .int .i64 (k : Int) ∧ w = wr
set_option maxRecDepth 100000 in
set_option maxHeartbeats 8000000 in
theorem alarmSorts_law (w : World) (A : Option Addr) (n c : Nat) (L : List Ac) (hL : As w w.heap.size A n c L) :
    Calls Try.prog 10 #[.slice A n c] w (Says w (.bool true)) := by
  have hmm := @run_makeMap Try.prog
  have HLA := Lib.hid hL
  have hnm : n ≤ 9223372036854775807 := Nat.le_trans hL.sn.le hL.sn.max
  clear hL
  go_enter Try.func10, Try.ntmps10
  go_wp2_with fail
  refine (awake12_any w).mono ?_
  rintro e w1 ⟨rfl, hb1⟩
  have HB1 := Lib.hid hb1
  clear hb1
  go_wp2_with fail
  refine (anew_any w1).mono ?_
  rintro e w2 ⟨a, S1, rfl, h1, hb2⟩
  have H1 := Lib.hid h1
  have HB2 := Lib.hid hb2
  have HB12 := Lib.hid (HB1.out.trans (hb2.mono HB1.out.size))
  clear h1 hb2
  go_wp2_with fail
  obtain ⟨mb, HMB⟩ : ∃ mb, Hid (mb = w2.heap.size) := ⟨_, rfl⟩
  have HG0 : Hid (w.heap.size ≤ w1.heap.size ∧ w.heap.size ≤ mb) := ⟨HB1.out.size, by rw [HMB.out]; exact HB12.out.size⟩
  obtain ⟨B1, HBB⟩ : ∃ B1, Hid (B1 = w1.heap.size) := ⟨_, rfl⟩
  rw [← HBB.out] at H1 HG0
  rw [← HMB.out]
  go_loopg [18] n (fun gk vi wr => SortsRel w B1 a mb n gk vi wr)
  case atStart =>
    have hm0 := Mv.made Try.prog 47 w2
    rw [← HMB.out] at hm0
    have e : (fun _ => none : Nat → Option Value) = tf [] := by funext id; rfl
    rw [e] at hm0
    exact ⟨0, S1, [], rfl, rfl, Nat.le_refl _, by simp, H1.out.below (below_box _ _), ord_nil, fun e he => (by cases he), hm0, fun hs => (by have := (H1.out.sl _ hs).2; rw [HMB.out] at this; omega), HB12.out.trans ((below_box w2 _).mono HB12.out.size)⟩
  case round =>
    clear H1 HB1 HB2 HB12
    obtain ⟨k, Sa, la, hgk, rfl, hlk, hl80, hal, hord, hlate, hmv, hnm2, hbel⟩ := hrel
    have HAL := Lib.hid hal
    have HORD := Lib.hid hord
    have HLT := Lib.hid hlate
    have HMV := Lib.hid hmv
    have HNM : Hid (¬ Sa mb) := hnm2
    have HBL := Lib.hid hbel
    clear hal hord hlate hmv hnm2 hbel
    by_cases hlt : k < n
    · obtain ⟨bb, o, x, rfl, hbb, hx, c0, c1, c2, hok⟩ := (HLA.out.below HBL.out (Nat.le_refl _)).at_ hlt
      have HOK := Lib.hid hok
      clear hx hok
      by_cases hk80 : k < 80
      · have hk80I : (k : Int) < 80 := by omega
        have hbx := below_box wr (.cells #[.int .u8 (x.d : Int), .int .u64 (x.id : Int), .int .i64 x.t] 85)
        have HBX := Lib.hid hbx
        have h1 := aset_any _ Sa B1 a x.id x.t la (HAL.out.below hbx) HOK.out.id (by omega)
        have HS1 := Lib.hid h1
        have HBS : Hid (¬ Sa wr.heap.size) := fun hs => by have := (HAL.out.sl _ hs).2; omega
        have hkey := key64 Try.underlying47 HOK.out.id
        clear h1 hbx
        go_wp2_with fail
        refine HS1.out.mono ?_
        rintro e w5 ⟨rfl, Sa', h5, ho5, hs5⟩
        have HA5 := Lib.hid h5
        have hx5 : w5.heap[wr.heap.size]? = some (.cells #[.int .u8 (x.d : Int), .int .u64 (x.id : Int), .int .i64 x.t] 85 (0, 0)) := (ho5.block _ (by simp) HBS.out).trans (heap_alloc_new _ _)
        have hx1 : w5.cell? ⟨wr.heap.size, 1, none⟩ = some (.int .u64 (x.id : Int)) := (cell_of_row _ _ _ _ _ _ hx5).trans rfl
        have hx2 : w5.cell? ⟨wr.heap.size, 2, none⟩ = some (.int .i64 x.t) := (cell_of_row _ _ _ _ _ _ hx5).trans rfl
        have hmlt := HMV.out.lt
        have HM5 : Hid (Mv Try.prog 47 w5 mb la.length (tf la)) := HMV.out.kept ((ho5.block mb (by simp; omega) HNM.out).trans (HBX.out.block mb hmlt))
        have HN5 : Hid (¬ Sa' mb) := fun hs => by
          rcases hs5 mb hs with hs | hs
          · exact HNM.out hs
          · simp at hs; omega
        have hb5 := ho5.toBelow (B := w.heap.size) (fun k hk => Nat.le_trans HG0.out.1 (HAL.out.sl k hk).1) (by simp; have := HBL.out.size; omega)
        have HB5 := Lib.hid ((HBL.out.trans (HBX.out.mono HBL.out.size)).trans hb5)
        have HMX : Hid (la.length < maxLen) := by show la.length < maxLen; unfold maxLen; omega
        clear h5 ho5 hs5 hx5 hb5 hmlt
        go_wp2_with (at_mapUpdate; refine wpList_mvPut _ rfl _ _ _ 101 rfl 47 2 u64_keyed Try.underlying101 mb la.length (tf la) rfl HM5.out HMX.out x.id (.int .i64 x.t) rfl rfl hkey ?_; intro w6 hm6 ho6; have HM6 := Lib.hid hm6; have HO6 := Lib.hid ho6; clear hm6 ho6)
        go_roundg (gk - 1)
        case measure => omega
        case rel =>
          have h6 := HM6.out
          rw [tf_set HORD.out, tf_len (t := x.t) HORD.out] at h6
          exact ⟨k + 1, Sa', setE x.id x.t la, by omega, by go_num, by have := setE_le x.id x.t la; omega, by have := setE_le x.id x.t la; omega, HA5.out.only HO6.out (fun k _ e => by subst e; exact HN5.out), setE_ord HORD.out, HLT.out.set HOK.out.t.2, h6, HN5.out, HB5.out.trans (HO6.out.toBelow (fun k e => by subst e; exact HG0.out.2) HB5.out.size)⟩
      · have hk80I : ¬ (k : Int) < 80 := by omega
        go_wp2_with fail
        go_roundg (gk - 1)
        case measure => omega
        case rel => exact ⟨k + 1, Sa, la, by omega, by go_num, by omega, hl80, HAL.out.below (below_box _ _), HORD.out, HLT.out, HMV.out.kept ((below_box wr _).block mb HMV.out.lt), HNM.out, HBL.out.trans ((below_box wr _).mono HBL.out.size)⟩
    · clear HLA
      have h2 := adue_any wr Sa B1 a 9223372036854775807 la HAL.out HORD.out (by omega)
      have HD := Lib.hid h2
      clear h2
      go_wp2_with fail
      refine HD.out.mono ?_
      rintro e w7 ⟨Ad, nd, cd, rfl, hown, ha7, ho7⟩
      rw [HLT.out.due.1] at hown
      rw [HLT.out.due.2] at ha7
      have HOWN := Lib.hid (Sn.of_own hown)
      have HA7 := Lib.hid ha7
      have hb7 := ho7.toBelow (B := w.heap.size) (fun k hk => Nat.le_trans HG0.out.1 (HAL.out.sl k hk).1) HBL.out.size
      have HB7 := Lib.hid (HBL.out.trans hb7)
      have HM7 : Hid (Mv Try.prog 47 w7 mb la.length (tf la)) := HMV.out.kept (ho7.block mb HMV.out.lt HNM.out)
      have HXL : Hid (∀ x ∈ ids la, x < 18446744073709551616) := fun x hx => by
        obtain ⟨mb', A', n', c', d', f', g1, _, g3⟩ := HAL.out.ex
        obtain ⟨e, he, rfl⟩ := List.mem_map.1 hx
        obtain ⟨s, hs, rfl⟩ := List.mem_map.1 (g3.mem_iff.2 he)
        exact g1.idl s hs
      have hnd : nd = la.length := by have := HOWN.out.len; rw [unvs_len] at this; unfold ids at this; rw [List.length_map] at this; omega
      subst hnd
      have hlen := HM7.out.len Try.underlying101 3
      clear hown ha7 ho7 hb7
      have hne1 : ((la.length : Int) != (la.length : Int)) = false := by simp
      go_wp2_with (at_len; refine wpList_mvLen _ rfl _ 101 rfl 47 2 Try.underlying101 mb la.length (tf la) rfl HM7.out ?_)
      refine (alen2_any w7 Sa B1 a [] HA7.out).mono ?_
      rintro e w8 ⟨rfl, rfl⟩
      go_wp2_with fail
      have HLA2 : Hid (la.length ≤ 80) := hl80
      go_loopg [51] la.length (fun gk vi wr => Sorts2 w7 la.length gk vi wr)
      case atStart => exact ⟨0, rfl, rfl, rfl⟩
      case round =>
        obtain ⟨i, hgi, rfl, rfl⟩ := hrel
        by_cases hil : i < la.length
        · obtain ⟨b2, o2, x, rfl, hb2, hx, hc⟩ := sn_nat HOWN.out hil
          obtain ⟨e1, he1⟩ : ∃ e, la[i]? = some e := ⟨_, List.getElem?_eq_getElem hil⟩
          have hxe : x = e1.1 := by
            unfold ids at hx
            rw [List.getElem?_map, he1] at hx
            injection hx with hx
            exact hx.symm
          have ht1 : tf la x = some (.int .i64 e1.2) := by
            unfold tf
            rw [hxe, (timeOf_mem HORD.out.nd).2 (List.mem_of_getElem? he1)]
            rfl
          have hxl := HXL.out x (by rw [hxe]; exact List.mem_map_of_mem (List.mem_of_getElem? he1))
          have hrun1 := HM7.out.look2 (z := .int .i64 0) u64_keyed Try.underlying101 (zero_i64 w7) (key64 Try.underlying47 hxl)
          rw [ht1] at hrun1
          simp only [Option.getD_some, Option.isSome_some] at hrun1
          obtain ⟨t1, ht1e⟩ : ∃ t, t = e1.2 := ⟨_, rfl⟩
          rw [← ht1e] at hrun1
          have HX := Lib.hid hx
          have HE1 := Lib.hid he1
          have HXE := Lib.hid (And.intro hxe ht1e)
          clear hx he1 hxe ht1 ht1e hxl
          by_cases hi0 : i = 0
          · subst hi0
            rw [Nat.add_zero] at hc
            go_wp2_with fail
            go_roundg (gk - 1)
            case measure => omega
            case rel => exact ⟨1, by omega, by go_num, rfl⟩
          · obtain ⟨p, hp⟩ : ∃ p, i = p + 1 := ⟨i - 1, by omega⟩
            have hpl : p < la.length := by omega
            obtain ⟨b3, o3, y, hA3, hb3, hy, hc3⟩ := sn_nat HOWN.out hpl
            injection hA3 with hA3
            injection hA3 with hA3 hA4
            subst hA3 hA4
            obtain ⟨e0, he0⟩ : ∃ e, la[p]? = some e := ⟨_, List.getElem?_eq_getElem hpl⟩
            have hye : y = e0.1 := by
              unfold ids at hy
              rw [List.getElem?_map, he0] at hy
              injection hy with hy
              exact hy.symm
            have ht0 : tf la y = some (.int .i64 e0.2) := by
              unfold tf
              rw [hye, (timeOf_mem HORD.out.nd).2 (List.mem_of_getElem? he0)]
              rfl
            have hyl := HXL.out y (by rw [hye]; exact List.mem_map_of_mem (List.mem_of_getElem? he0))
            have hrun0 := HM7.out.look1 (z := .int .i64 0) u64_keyed Try.underlying101 (zero_i64 w7) (key64 Try.underlying47 hyl)
            rw [ht0] at hrun0
            simp only [Option.getD_some] at hrun0
            obtain ⟨t0, ht0e⟩ : ∃ t, t = e0.2 := ⟨_, rfl⟩
            rw [← ht0e] at hrun0
            have hlt01 : ltE e0 e1 = true := by
              have h1 := List.pairwise_iff_getElem.1 HORD.out.sort p i hpl hil (by omega)
              rw [List.getElem?_eq_getElem hpl] at he0
              have he1 := HE1.out
              rw [List.getElem?_eq_getElem hil] at he1
              injection he0 with he0
              injection he1 with he1
              rw [he0, he1] at h1
              exact h1
            rw [ltE_iff, ← ht0e, ← hye, ← HXE.out.1, ← HXE.out.2] at hlt01
            have hpI : (i : Int) - 1 = (p : Int) := by omega
            have hi0I : (0 : Int) < (i : Int) := by omega
            have hplI : (p : Int) < (la.length : Int) := by omega
            clear hy he0 hye ht0 ht0e hyl hp
            by_cases htt : t0 < t1
            · have h1 : ¬ t1 < t0 := by omega
              have h2 : (t1 == t0) = false := by simp; omega
              clear hlt01
              go_wp2_with fail
              go_roundg (gk - 1)
              case measure => omega
              case rel => exact ⟨i + 1, by omega, by go_num, rfl⟩
            · have h3 : t1 = t0 ∧ y < x := by omega
              have h1 : ¬ t1 < t0 := by omega
              have h2 : (t1 == t0) = true := by simp; omega
              have h4 : ¬ (x : Int) ≤ (y : Int) := by omega
              clear hlt01 h3 htt
              go_wp2_with fail
              go_roundg (gk - 1)
              case measure => omega
              case rel => exact ⟨i + 1, by omega, by go_num, rfl⟩
        · go_wp2_with fail
          go_ret
          exact ⟨rfl, HB7.out⟩
end Go.Proofs.Ytfmfamnngfanfaa
