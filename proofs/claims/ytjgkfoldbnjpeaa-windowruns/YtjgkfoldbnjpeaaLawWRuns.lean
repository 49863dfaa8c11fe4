/-
  WALK of WindowRuns.
-/
import Derived.Test.YtjgkfoldbnjpeaaWinFine
namespace Go.Proofs.Ytjgkfoldbnjpeaa
open Go.RowKit

def WRuns (w : World) (K X n gk : Nat) (vi : Value) (wr : World) : Prop :=
  ∃ (i : Nat) (A' : Option Addr) (n' c' : Nat) (W : Wn), gk + i = n ∧ vi = .int .i64 (i : Int) ∧ Kept X A' n' c' W w wr ∧ Fine W K (min i 80)
def WRuns2 (wr : World) (m gk : Nat) (vi : Value) (w' : World) : Prop := ∃ i : Nat, gk + i = m ∧ vi = .int .i64 (i : Int) ∧ RowKit.Below wr.heap.size wr w'
set_option maxRecDepth 100000 in
set_option maxHeartbeats 4000000 in
theorem windowRuns_walk (w : World) (wd : Nat) (hwd : wd < 65536) (A : Option Addr) (n c : Nat) (L : List Aw) (hL : Aws w w.heap.size A n c L) (most : Int) (hm : -9223372036854775808 ≤ most ∧ most ≤ 9223372036854775807) :
    Calls Try.prog 11 #[.int .u16 (wd : Int), .slice A n c, .int .i64 most] w (Says w (.bool true)) := by
  obtain ⟨K, hK⟩ : ∃ K, K = 1 + wd % 64 := ⟨_, rfl⟩
  have hKI : 1 + (wd : Int) % 64 = (K : Int) := by omega
  have HK : Hid (1 ≤ K ∧ K ≤ 64) := by exact ⟨by omega, by omega⟩
  have HLA := Lib.hid hL
  have HM := Lib.hid hm
  have hnm : n ≤ 9223372036854775807 := Nat.le_trans hL.sn.le hL.sn.max
  clear hL hK hm
  go_enter Try.func11, Try.ntmps11
  go_wp2_with fail
  refine (awake15_any w).mono ?_
  rintro e w1 ⟨rfl, hb1⟩
  have HB1 := Lib.hid hb1
  clear hb1
  go_wp2_with fail
  try rw [hKI]
  refine (new_any w1 K (by have := HK.out; unfold two64; omega)).mono ?_
  rintro e w2 hs
  obtain ⟨A2, n2, c2, rfl, hw2, hb2⟩ := hs.ex
  clear hs
  have hkp := Kept.made hw2 (HB1.out.trans (hb2.mono HB1.out.size))
  have HX : Hid (w.heap.size ≤ w2.heap.size) := Nat.le_trans HB1.out.size hb2.size
  have HF : Hid (Fine (newW K) K 0) := ⟨new_ok HK.out.1 (by have := HK.out.2; omega), rfl, by show 0 ≤ _; omega⟩
  have HKP := Lib.hid hkp
  clear hw2 hb2 hkp HB1
  go_wp2_with fail
  generalize newW K = W2 at *
  generalize w2.alloc (.cells #[.int .u64 (W2.low : Int), .int .u64 (W2.width : Int), .slice A2 n2 c2] 84) = w3 at *
  generalize w2.heap.size = X at *
  go_loopg [23] n (fun gk vi wr => WRuns w K X n gk vi wr)
  case atStart => exact ⟨0, A2, n2, c2, W2, rfl, rfl, HKP.out, HF.out⟩
  case round =>
    clear HKP HF
    obtain ⟨i, A', n', c', W, hgk, rfl, hkp, hfine⟩ := hrel
    have HKP := Lib.hid hkp
    have HF := Lib.hid hfine
    clear hkp hfine
    by_cases hlt : i < n
    · obtain ⟨bb, o, x, rfl, hbb, hx, c0, c1, c2', hok⟩ := (HLA.out.below HKP.out.bel (Nat.le_refl _)).at_ hlt
      have HOK := Lib.hid hok
      clear hx hok
      have hltI : (i : Int) < (n : Int) := by omega
      have hkx := HKP.out.next (below_box wr (.cells #[.int .u8 (x.d : Int), .int .u8 (x.n : Int), .int .u64 (x.m : Int)] 89))
      obtain ⟨hbx, y0, y1, y2⟩ := box_cells wr (.int .u8 (x.d : Int)) (.int .u8 (x.n : Int)) (.int .u64 (x.m : Int)) 89
      have HKX := Lib.hid hkx
      have HXW : Hid (X < wr.heap.size) := HKP.out.lt
      clear hkx hbx
      by_cases h80 : i < 80
      · have h80I : (i : Int) < 80 := by omega
        have hp := puts_any (wr.alloc (.cells #[.int .u8 (x.d : Int), .int .u8 (x.n : Int), .int .u64 (x.m : Int)] 89)) x HOK.out
        have HP := Lib.hid hp
        clear hp
        go_wp2_with fail
        generalize wr.alloc (.cells #[.int .u8 (x.d : Int), .int .u8 (x.n : Int), .int .u64 (x.m : Int)] 89) = wx at *
        refine HP.out.mono ?_
        rintro e w4 ⟨rfl, hb4⟩
        have HK4 := Lib.hid (HKX.out.next hb4)
        have HA4 : Hid (w4.cell? ⟨wr.heap.size, 0, none⟩ = some (.int .u8 (x.d : Int)) ∧ w4.cell? ⟨wr.heap.size, 1, none⟩ = some (.int .u8 (x.n : Int)) ∧ w4.cell? ⟨wr.heap.size, 2, none⟩ = some (.int .u64 (x.m : Int))) :=
          ⟨(hb4.cell (p := ⟨wr.heap.size, 0, none⟩) (World.block_lt_of_cell? _ _ y0)).trans y0, (hb4.cell (p := ⟨wr.heap.size, 1, none⟩) (World.block_lt_of_cell? _ _ y1)).trans y1, (hb4.cell (p := ⟨wr.heap.size, 2, none⟩) (World.block_lt_of_cell? _ _ y2)).trans y2⟩
        clear hb4 HKX HP
        cases hput : putsW x
        · go_wp2_with fail
          go_roundg (gk - 1)
          case measure => omega
          case rel => exact ⟨i + 1, A', n', c', W, by omega, by go_num, HK4.out, HF.out.mono (by omega)⟩
        · go_wp2_with fail
          generalize wr.heap.size = Y at *
          have hS : (w4.cell? ⟨X, 0, none⟩ = some (.int .u64 (W.low : Int)) ∧ w4.cell? ⟨X, 1, none⟩ = some (.int .u64 (W.width : Int)) ∧ w4.cell? ⟨X, 2, none⟩ = some (.slice A' n' c')) ∧ w4.cell? ⟨Y, 0, none⟩ = some (.int .u8 (x.d : Int)) ∧ w4.cell? ⟨Y, 1, none⟩ = some (.int .u8 (x.n : Int)) ∧ w4.cell? ⟨Y, 2, none⟩ = some (.int .u64 (x.m : Int)) := ⟨⟨HK4.out.c0, HK4.out.c1, HK4.out.c2⟩, HA4.out⟩
          have HNW : Hid (numW x W.low < two64 ∧ W.low < 4611686018427387904) := by have h1 := numW_lt HOK.out (low := W.low); have h2 := HF.out.low; constructor <;> (unfold two64 at *; omega)
          refine wp_region_noPanic ?_
          refine wp_region_F (S := (fun w' => (w'.cell? ⟨X, 0, none⟩ = some (.int .u64 (W.low : Int)) ∧ w'.cell? ⟨X, 1, none⟩ = some (.int .u64 (W.width : Int)) ∧ w'.cell? ⟨X, 2, none⟩ = some (.slice A' n' c')) ∧ w'.cell? ⟨Y, 0, none⟩ = some (.int .u8 (x.d : Int)) ∧ w'.cell? ⟨Y, 1, none⟩ = some (.int .u8 (x.n : Int)) ∧ w'.cell? ⟨Y, 2, none⟩ = some (.int .u64 (x.m : Int)))) (F := (fun j => j == 6)) (by kernel_rfl) hS (fun hHeld => ?_)
          refine wpAnyF_take (i := 0) (oi := { dst := some 34, op := Op.load 84 (Operand.tmp 7), type := 84, pos := "law.go:119", after := #[], guard := none }) (v := ?_) (fun j hj => by simp only [beq_iff_eq] at hj; subst hj; exact of_decide_eq_true (by kernel_rfl)) rfl (by kernel_rfl) (by kernel_rfl) (by kernel_rfl) (by kernel_rfl) (by kernel_rfl) (fun _ _ _ h => h) (Or.inl ⟨by rfl, ?_⟩) (by assumption) ?_
          rotate_left
          · intro w hSw; (try dsimp only at hSw); first | (go_simp; done) | (go_simp; with_reducible rfl)
          try simp only [Act.put, List.setIfInBounds_toArray, List.set_cons_zero, List.set_cons_succ]
          refine wpAnyF_take (i := 1) (oi := { dst := some 35, op := Op.load 89 (Operand.tmp 9), type := 89, pos := "law.go:119", after := #[], guard := none }) (v := ?_) (fun j hj => by simp only [beq_iff_eq] at hj; subst hj; exact of_decide_eq_true (by kernel_rfl)) rfl (by kernel_rfl) (by kernel_rfl) (by kernel_rfl) (by kernel_rfl) (by kernel_rfl) (fun _ _ _ h => h) (Or.inl ⟨by rfl, ?_⟩) (by assumption) ?_
          rotate_left
          · intro w hSw; (try dsimp only at hSw); first | (go_simp; done) | (go_simp; with_reducible rfl)
          try simp only [Act.put, List.setIfInBounds_toArray, List.set_cons_zero, List.set_cons_succ]
          refine wpAnyF_take0 (i := 2) (oi := { dst := some 36, op := Op.fieldAddr 84 (Operand.tmp 7) 0, type := 0, pos := "law.go:119", after := #[], guard := none }) (v := ?_) rfl (by kernel_rfl) (by kernel_rfl) (by kernel_rfl) (fun _ _ _ h => h) (Or.inl ⟨by rfl, ?_⟩) ?_
          rotate_left
          · intro w hSw; (try dsimp only at hSw); first | (go_simp; done) | (go_simp; with_reducible rfl)
          try simp only [Act.put, List.setIfInBounds_toArray, List.set_cons_zero, List.set_cons_succ]
          refine wpAnyF_take (i := 3) (oi := { dst := some 37, op := Op.load 25 (Operand.tmp 36), type := 25, pos := "law.go:119", after := #[{ on := 2, ground := Ground.data }], guard := none }) (v := ?_) (fun j hj => by simp only [beq_iff_eq] at hj; subst hj; exact of_decide_eq_true (by kernel_rfl)) rfl (by kernel_rfl) (by kernel_rfl) (by kernel_rfl) (by kernel_rfl) (by kernel_rfl) (fun _ _ _ h => h) (Or.inl ⟨by rfl, ?_⟩) (by assumption) ?_
          rotate_left
          · intro w hSw; (try dsimp only at hSw); first | (go_simp; done) | (go_simp; with_reducible rfl)
          try simp only [Act.put, List.setIfInBounds_toArray, List.set_cons_zero, List.set_cons_succ]
          refine wpAnyF_one (i := 4) (o := { dst := some 38, op := Op.call { callee := Callee.value (Operand.func 49), args := #[Operand.tmp 35, Operand.tmp 37], argTypes := #[89, 25] }, type := 25, pos := "law.go:119", after := #[{ on := 1, ground := Ground.data }, { on := 3, ground := Ground.data }], guard := none }) (by kernel_rfl) rfl (fun K hK => ?_)
          go_simp
          go_at_call 49
          refine (number_any _ x HOK.out W.low HNW.out.2).mono ?_
          rintro e w5 ⟨rfl, hb5'⟩
          have hb5 : Below w4.heap.size w4 w5 := (below_drewN (Below.refl _ _) 1).trans hb5'
          have hS5 : (w5.cell? ⟨X, 0, none⟩ = some (.int .u64 (W.low : Int)) ∧ w5.cell? ⟨X, 1, none⟩ = some (.int .u64 (W.width : Int)) ∧ w5.cell? ⟨X, 2, none⟩ = some (.slice A' n' c')) ∧ w5.cell? ⟨Y, 0, none⟩ = some (.int .u8 (x.d : Int)) ∧ w5.cell? ⟨Y, 1, none⟩ = some (.int .u8 (x.n : Int)) ∧ w5.cell? ⟨Y, 2, none⟩ = some (.int .u64 (x.m : Int)) :=
            ⟨⟨(hb5.cell (p := ⟨X, 0, none⟩) (World.block_lt_of_cell? _ _ hS.1.1)).trans hS.1.1, (hb5.cell (p := ⟨X, 1, none⟩) (World.block_lt_of_cell? _ _ hS.1.2.1)).trans hS.1.2.1, (hb5.cell (p := ⟨X, 2, none⟩) (World.block_lt_of_cell? _ _ hS.1.2.2)).trans hS.1.2.2⟩, (hb5.cell (p := ⟨Y, 0, none⟩) (World.block_lt_of_cell? _ _ hS.2.1)).trans hS.2.1, (hb5.cell (p := ⟨Y, 1, none⟩) (World.block_lt_of_cell? _ _ hS.2.2.1)).trans hS.2.2.1, (hb5.cell (p := ⟨Y, 2, none⟩) (World.block_lt_of_cell? _ _ hS.2.2.2)).trans hS.2.2.2⟩
          have HK5 := Lib.hid (HK4.out.next hb5)
          clear hb5 hb5'
          try go_wp2_with fail
          try clear hHeld
          refine hK.out _ _ (by first | exact hS5 | exact hS6) (fun hHeld => ?_)
          clear hK K
          try simp only [Act.put, List.setIfInBounds_toArray, List.set_cons_zero, List.set_cons_succ]
          refine wpAnyF_one (i := 5) (o := { dst := some 39, op := Op.call { callee := Callee.value (Operand.func 55), args := #[Operand.tmp 34, Operand.tmp 38], argTypes := #[84, 25] }, type := 84, pos := "law.go:119", after := #[{ on := 0, ground := Ground.data }, { on := 4, ground := Ground.data }, { on := 4, ground := Ground.chain }], guard := none }) (by kernel_rfl) rfl (fun K hK => ?_)
          go_simp
          go_at_call 55
          refine (put_b _ A' n' c' W HK5.out.at_ HF.out.ok (by have h1 := HF.out.width; have h2 := HK.out; omega) (numW x W.low) HNW.out.1).mono ?_
          rintro e w6 ⟨A6, n6, c6, rfl, hw6, hp6, hb6⟩
          have HK6 := Lib.hid (HK5.out.next hb6)
          have HK7 := Lib.hid (HK6.out.store HX.out HK5.out.lt hw6 hp6)
          have HF6 := Lib.hid (HF.out.put (k := numW x W.low) (by omega) HK.out.2 HNW.out.1)
          have hS6 : (w6.cell? ⟨X, 0, none⟩ = some (.int .u64 (W.low : Int)) ∧ w6.cell? ⟨X, 1, none⟩ = some (.int .u64 (W.width : Int)) ∧ w6.cell? ⟨X, 2, none⟩ = some (.slice A' n' c')) ∧ w6.cell? ⟨Y, 0, none⟩ = some (.int .u8 (x.d : Int)) ∧ w6.cell? ⟨Y, 1, none⟩ = some (.int .u8 (x.n : Int)) ∧ w6.cell? ⟨Y, 2, none⟩ = some (.int .u64 (x.m : Int)) :=
            ⟨⟨HK6.out.c0, HK6.out.c1, HK6.out.c2⟩, (hb6.cell (p := ⟨Y, 0, none⟩) (World.block_lt_of_cell? _ _ hS5.2.1)).trans hS5.2.1, (hb6.cell (p := ⟨Y, 1, none⟩) (World.block_lt_of_cell? _ _ hS5.2.2.1)).trans hS5.2.2.1, (hb6.cell (p := ⟨Y, 2, none⟩) (World.block_lt_of_cell? _ _ hS5.2.2.2)).trans hS5.2.2.2⟩
          have hx0 := HK6.out.c0
          have hx1 := HK6.out.c1
          have hx2 := HK6.out.c2
          have hf0 := HK6.out.frz 0
          have hf1 := HK6.out.frz 1
          have hf2 := HK6.out.frz 2
          clear hw6 hp6 hb6
          generalize putW W (numW x W.low) = W6 at *
          try go_wp2_with fail
          try clear hHeld
          refine hK.out _ _ (by first | exact hS5 | exact hS6) (fun hHeld => ?_)
          clear hK K
          try simp only [Act.put, List.setIfInBounds_toArray, List.set_cons_zero, List.set_cons_succ]
          refine wpAnyF_oneF (i := 6) (o := { dst := none, op := Op.store 84 (Operand.tmp 7) (Operand.tmp 39), type := 0, pos := "law.go:119", after := #[{ on := 5, ground := Ground.data }, { on := 5, ground := Ground.chain }, { on := 0, ground := Ground.phase }, { on := 1, ground := Ground.phase }, { on := 2, ground := Ground.phase }, { on := 3, ground := Ground.phase }, { on := 4, ground := Ground.phase }, { on := 5, ground := Ground.phase }], guard := none }) (by kernel_rfl) (by kernel_rfl) rfl (fun K hK => ?_)
          go_simp
          skip
          try go_wp2_with fail
          refine hK.out _ _ ?_
          clear hK K
          try simp only [Act.put, List.setIfInBounds_toArray, List.set_cons_zero, List.set_cons_succ]
          refine wpAnyF_done (by kernel_rfl) ?_ _
          refine NoPanic.normal ?_
          go_wp2
          go_roundg (gk - 1)
          case measure => omega
          case rel => exact ⟨i + 1, A6, n6, c6, W6, by omega, by go_num, HK7.out, HF6.out.mono (by omega)⟩
      · have h80I : ¬ (i : Int) < 80 := by omega
        go_wp2_with fail
        go_roundg (gk - 1)
        case measure => omega
        case rel => exact ⟨i + 1, A', n', c', W, by omega, by go_num, HKX.out, HF.out.mono (by omega)⟩
    · have hx0 := HKP.out.c0
      have hx1 := HKP.out.c1
      have hx2 := HKP.out.c2
      have HNW : Hid (n' < W.width) := HKP.out.at_.n_le HF.out.ok
      have HWW := Lib.hid HF.out.width
      go_wp2_with fail
      go_region_held3 (fun w' => w'.cell? ⟨X, 0, none⟩ = some (.int .u64 (W.low : Int)) ∧ w'.cell? ⟨X, 1, none⟩ = some (.int .u64 (W.width : Int)) ∧ w'.cell? ⟨X, 2, none⟩ = some (.slice A' n' c')) (first | exact ⟨hx0, hx1, hx2⟩ | exact hk5 | exact hk6) (first
        | (go_at_call 61
           refine (winRuns_any _ A' n' c' W (HKP.out.next (below_drewN (Below.refl _ _) 1)).at_ (by have := HNW.out; have := HK.out; have := HWW.out; omega) most).mono ?_
           rintro e w5 ⟨A5, c5, rfl, hr5, hb5⟩
           have HK5 := Lib.hid ((HKP.out.next (below_drewN (Below.refl _ _) 1)).next hb5)
           have hk5 : w5.cell? ⟨X, 0, none⟩ = some (.int .u64 (W.low : Int)) ∧ w5.cell? ⟨X, 1, none⟩ = some (.int .u64 (W.width : Int)) ∧ w5.cell? ⟨X, 2, none⟩ = some (.slice A' n' c') := ⟨HK5.out.c0, HK5.out.c1, HK5.out.c2⟩
           have HR5 := Lib.hid hr5)
        | (go_at_call 62
           refine (runs_any w5 A' n' c' W.L HK5.out.at_.st.rs (by have := HNW.out; have := HK.out; have := HWW.out; omega)).mono ?_
           rintro e w6 ⟨A6, n6, c6, rfl, hown6, hb6⟩
           have HK6 := Lib.hid (HK5.out.next hb6)
           have hk6 : w6.cell? ⟨X, 0, none⟩ = some (.int .u64 (W.low : Int)) ∧ w6.cell? ⟨X, 1, none⟩ = some (.int .u64 (W.width : Int)) ∧ w6.cell? ⟨X, 2, none⟩ = some (.slice A' n' c') := ⟨HK6.out.c0, HK6.out.c1, HK6.out.c2⟩
           have HR6 := Lib.hid (Rs.of_own hown6 (fun q hq => HK5.out.at_.ok.lt q hq))
           have HR56 := Lib.hid (HR5.out.on hb6 (Nat.le_refl _))))
      have hn6 : n6 = n' := by rw [← HR6.out.len, HKP.out.at_.st.rs.len]
      subst hn6
      have HCM : Hid (n6 ≤ 64) := by have := HNW.out; have := HK.out; have := HWW.out; show n6 ≤ 64; omega
      clear hk5 hk6 hr5 hb5 hown6 hb6 hx0 hx1 hx2 HK5 HR5
      obtain ⟨k, hkk⟩ : ∃ k, k = mostN most n6 := ⟨_, rfl⟩
      rw [← hkk] at HR56 ⊢
      have HKN : Hid (k ≤ n6) := by show k ≤ n6; rw [hkk]; unfold mostN; omega
      have HB := Lib.hid HK6.out.bel
      have HBK := Lib.hid HKN.out
      have hcase : (most < 0 ∧ k = 0) ∨ (¬ most < 0 ∧ (n6 : Int) < most ∧ k = n6) ∨ (¬ most < 0 ∧ ¬ (n6 : Int) < most ∧ most = (k : Int)) := by
        rw [hkk]
        unfold mostN
        omega
      have hkm : k ≤ 64 := by have := HCM.out; have := HKN.out; omega
      clear hkk HNW HWW
      have hne : ((k : Int) != (k : Int)) = false := by simp
      have hx0 := HK6.out.c0
      have hx1 := HK6.out.c1
      have hx2 := HK6.out.c2
      have HF6 := Lib.hid HF.out
      rcases hcase with ⟨h1, rfl⟩ | ⟨h1, h2, rfl⟩ | ⟨h1, h2, rfl⟩
      all_goals go_wp2_with fail
      · skip
        go_loopg [57] 0 (fun gk vi w' => WRuns2 w6 0 gk vi w')
        case atStart => exact ⟨0, rfl, rfl, Below.refl _ _⟩
        case round =>
          obtain ⟨j, hgj, rfl, hbj⟩ := hrel
          have hj : ¬ (j : Int) < 0 := by omega
          go_wp2_with fail
          go_ret
          exact ⟨rfl, HB.out.trans (hbj.mono HB.out.size)⟩
      · skip
        have hG := guard_eqR
        go_loopg [57] k (fun gk vi w' => WRuns2 w6 k gk vi w')
        case atStart => exact ⟨0, rfl, rfl, Below.refl _ _⟩
        case round =>
          clear hx0 hx1 hx2
          obtain ⟨j, hgj, rfl, hbj⟩ := hrel
          have HBJ := Lib.hid hbj
          clear hbj
          by_cases hj : j < k
          · have hjI : (j : Int) < (k : Int) := by omega
            obtain ⟨b, o, r, rfl, hbb, hr, q0, q1, r1, r2⟩ := (HR56.out.on HBJ.out (Nat.le_refl _)).at_ hj
            obtain ⟨b', o', r', rfl, hbb', hr', q0', q1', r1', r2'⟩ := (HR6.out.on HBJ.out (Nat.le_refl _)).at_ (Nat.lt_of_lt_of_le hj HKN.out)
            have hjn : (j : Int) < (k : Int) := by have := HKN.out; omega
            have hrr : r' = r := by rw [List.getElem?_take_of_lt hj, hr'] at hr; injection hr
            subst hrr
            have HM' := Lib.hid (List.mem_of_getElem? hr')
            have hlo := HF6.out.ok.lo r'.1 ⟨r', HM'.out, Nat.le_refl _, HF6.out.ok.ok.can.ok r' HM'.out⟩
            have hhi := HF6.out.ok.lo r'.2 ⟨r', HM'.out, HF6.out.ok.ok.can.ok r' HM'.out, Nat.le_refl _⟩
            have hll := HF6.out.low
            have hww := HF6.out.width
            have hK2 := HK.out.2
            have e1 : decide ((r'.1 : Int) ≤ (W.low : Int) + 1) = false := by simp; omega
            obtain ⟨lim, hlim⟩ : ∃ lim, lim = W.low + W.width := ⟨_, rfl⟩
            have hLW : Hid (limW W = lim) := by show limW W = lim; unfold limW; omega
            have e2 : decide ((lim : Int) < (r'.2 : Int)) = false := by simp; omega
            have hwl : IntKind.u64.wrap ((W.low : Int) + 1) = (W.low : Int) + 1 := by rw [IntKind.wrap_u64]; omega
            have HKJ := Lib.hid (HK6.out.next HBJ.out)
            have he : ∀ w, (Op.equalIn 10000 57 (.agg #[.int .u64 (r'.1 : Int), .int .u64 (r'.2 : Int)]) (.agg #[.int .u64 (r'.1 : Int), .int .u64 (r'.2 : Int)])).run Try.prog w = .ok true w := fun w => by
              have := eqIn_eqR r' r' w
              rwa [decide_eq_true rfl] at this
            clear hr hr' hlo hhi hll hww hlim
            go_wp2_with fail
            have hbx := below_box wr (.cells #[.int .u64 (r'.1 : Int), .int .u64 (r'.2 : Int)] 57)
            have z0 := cell_last wr #[.int .u64 (r'.1 : Int), .int .u64 (r'.2 : Int)] 57 wr.heap.size 0 rfl
            have z1 := cell_last wr #[.int .u64 (r'.1 : Int), .int .u64 (r'.2 : Int)] 57 wr.heap.size 1 rfl
            have HKX := Lib.hid (HKJ.out.next hbx)
            have p0 := (hbx.cell (p := ⟨b', o' + j * 2, none⟩) (World.block_lt_of_cell? _ _ q0')).trans q0'
            have p1 := (hbx.cell (p := ⟨b', o' + j * 2 + 1, none⟩) (World.block_lt_of_cell? _ _ q1')).trans q1'
            have HBX := Lib.hid (HBJ.out.trans (hbx.mono HBJ.out.size))
            clear q0 q1 q0' q1' hbx
            generalize wr.alloc (.cells #[.int .u64 (r'.1 : Int), .int .u64 (r'.2 : Int)] 57) = wx at *
            generalize wr.heap.size = Z at *
            have hc : (wx.cell? ⟨Z, 0, none⟩ = some (.int .u64 (r'.1 : Int)) ∧ wx.cell? ⟨Z, 1, none⟩ = some (.int .u64 (r'.2 : Int))) ∧ (wx.cell? ⟨b', o' + j * 2, none⟩ = some (.int .u64 (r'.1 : Int)) ∧ wx.cell? ⟨b', o' + j * 2 + 1, none⟩ = some (.int .u64 (r'.2 : Int))) ∧ wx.cell? ⟨X, 0, none⟩ = some (.int .u64 (W.low : Int)) ∧ wx.cell? ⟨X, 1, none⟩ = some (.int .u64 (W.width : Int)) ∧ wx.cell? ⟨X, 2, none⟩ = some (.slice A' k c') := ⟨⟨z0, z1⟩, ⟨p0, p1⟩, HKX.out.c0, HKX.out.c1, HKX.out.c2⟩
            go_region_held3 (fun w' => (w'.cell? ⟨Z, 0, none⟩ = some (.int .u64 (r'.1 : Int)) ∧ w'.cell? ⟨Z, 1, none⟩ = some (.int .u64 (r'.2 : Int))) ∧ (w'.cell? ⟨b', o' + j * 2, none⟩ = some (.int .u64 (r'.1 : Int)) ∧ w'.cell? ⟨b', o' + j * 2 + 1, none⟩ = some (.int .u64 (r'.2 : Int))) ∧ w'.cell? ⟨X, 0, none⟩ = some (.int .u64 (W.low : Int)) ∧ w'.cell? ⟨X, 1, none⟩ = some (.int .u64 (W.width : Int)) ∧ w'.cell? ⟨X, 2, none⟩ = some (.slice A' k c')) (first | exact hc | exact hd) (first
              | (go_at_call 63
                 refine (limit_b _ A' k c' W lim hLW.out).mono ?_
                 rintro e wl ⟨rfl, hbl'⟩
                 have hbl : Below wx.heap.size wx wl := (below_drewN (Below.refl _ _) 1).trans hbl'
                 have HKL := Lib.hid (HKX.out.next hbl)
                 have HBL := Lib.hid (HBX.out.trans (hbl.mono HBX.out.size))
                 have hd : (wl.cell? ⟨Z, 0, none⟩ = some (.int .u64 (r'.1 : Int)) ∧ wl.cell? ⟨Z, 1, none⟩ = some (.int .u64 (r'.2 : Int))) ∧ (wl.cell? ⟨b', o' + j * 2, none⟩ = some (.int .u64 (r'.1 : Int)) ∧ wl.cell? ⟨b', o' + j * 2 + 1, none⟩ = some (.int .u64 (r'.2 : Int))) ∧ wl.cell? ⟨X, 0, none⟩ = some (.int .u64 (W.low : Int)) ∧ wl.cell? ⟨X, 1, none⟩ = some (.int .u64 (W.width : Int)) ∧ wl.cell? ⟨X, 2, none⟩ = some (.slice A' k c') := ⟨⟨(hbl.cell (p := ⟨Z, 0, none⟩) (World.block_lt_of_cell? _ _ z0)).trans z0, (hbl.cell (p := ⟨Z, 1, none⟩) (World.block_lt_of_cell? _ _ z1)).trans z1⟩, ⟨(hbl.cell (p := ⟨b', o' + j * 2, none⟩) (World.block_lt_of_cell? _ _ p0)).trans p0, (hbl.cell (p := ⟨b', o' + j * 2 + 1, none⟩) (World.block_lt_of_cell? _ _ p1)).trans p1⟩, HKL.out.c0, HKL.out.c1, HKL.out.c2⟩))
            have e3 : ¬ (lim : Int) < (r'.2 : Int) := by have := of_decide_eq_false e2; exact this
            go_wp2_with fail
            go_roundg (gk - 1)
            case measure => omega
            case rel => exact ⟨j + 1, by omega, by go_num, HBL.out⟩
          · have hjI : ¬ (j : Int) < (k : Int) := by omega
            go_wp2_with fail
            go_ret
            exact ⟨rfl, HB.out.trans (HBJ.out.mono HB.out.size)⟩
      · skip
        have hG := guard_eqR
        go_loopg [57] k (fun gk vi w' => WRuns2 w6 k gk vi w')
        case atStart => exact ⟨0, rfl, rfl, Below.refl _ _⟩
        case round =>
          clear hx0 hx1 hx2
          obtain ⟨j, hgj, rfl, hbj⟩ := hrel
          have HBJ := Lib.hid hbj
          clear hbj
          by_cases hj : j < k
          · have hjI : (j : Int) < (k : Int) := by omega
            obtain ⟨b, o, r, rfl, hbb, hr, q0, q1, r1, r2⟩ := (HR56.out.on HBJ.out (Nat.le_refl _)).at_ hj
            obtain ⟨b', o', r', rfl, hbb', hr', q0', q1', r1', r2'⟩ := (HR6.out.on HBJ.out (Nat.le_refl _)).at_ (Nat.lt_of_lt_of_le hj HKN.out)
            have hjn : (j : Int) < (n6 : Int) := by have := HKN.out; omega
            have hrr : r' = r := by rw [List.getElem?_take_of_lt hj, hr'] at hr; injection hr
            subst hrr
            have HM' := Lib.hid (List.mem_of_getElem? hr')
            have hlo := HF6.out.ok.lo r'.1 ⟨r', HM'.out, Nat.le_refl _, HF6.out.ok.ok.can.ok r' HM'.out⟩
            have hhi := HF6.out.ok.lo r'.2 ⟨r', HM'.out, HF6.out.ok.ok.can.ok r' HM'.out, Nat.le_refl _⟩
            have hll := HF6.out.low
            have hww := HF6.out.width
            have hK2 := HK.out.2
            have e1 : decide ((r'.1 : Int) ≤ (W.low : Int) + 1) = false := by simp; omega
            obtain ⟨lim, hlim⟩ : ∃ lim, lim = W.low + W.width := ⟨_, rfl⟩
            have hLW : Hid (limW W = lim) := by show limW W = lim; unfold limW; omega
            have e2 : decide ((lim : Int) < (r'.2 : Int)) = false := by simp; omega
            have hwl : IntKind.u64.wrap ((W.low : Int) + 1) = (W.low : Int) + 1 := by rw [IntKind.wrap_u64]; omega
            have HKJ := Lib.hid (HK6.out.next HBJ.out)
            have he : ∀ w, (Op.equalIn 10000 57 (.agg #[.int .u64 (r'.1 : Int), .int .u64 (r'.2 : Int)]) (.agg #[.int .u64 (r'.1 : Int), .int .u64 (r'.2 : Int)])).run Try.prog w = .ok true w := fun w => by
              have := eqIn_eqR r' r' w
              rwa [decide_eq_true rfl] at this
            clear hr hr' hlo hhi hll hww hlim
            go_wp2_with fail
            have hbx := below_box wr (.cells #[.int .u64 (r'.1 : Int), .int .u64 (r'.2 : Int)] 57)
            have z0 := cell_last wr #[.int .u64 (r'.1 : Int), .int .u64 (r'.2 : Int)] 57 wr.heap.size 0 rfl
            have z1 := cell_last wr #[.int .u64 (r'.1 : Int), .int .u64 (r'.2 : Int)] 57 wr.heap.size 1 rfl
            have HKX := Lib.hid (HKJ.out.next hbx)
            have p0 := (hbx.cell (p := ⟨b', o' + j * 2, none⟩) (World.block_lt_of_cell? _ _ q0')).trans q0'
            have p1 := (hbx.cell (p := ⟨b', o' + j * 2 + 1, none⟩) (World.block_lt_of_cell? _ _ q1')).trans q1'
            have HBX := Lib.hid (HBJ.out.trans (hbx.mono HBJ.out.size))
            clear q0 q1 q0' q1' hbx
            generalize wr.alloc (.cells #[.int .u64 (r'.1 : Int), .int .u64 (r'.2 : Int)] 57) = wx at *
            generalize wr.heap.size = Z at *
            have hc : (wx.cell? ⟨Z, 0, none⟩ = some (.int .u64 (r'.1 : Int)) ∧ wx.cell? ⟨Z, 1, none⟩ = some (.int .u64 (r'.2 : Int))) ∧ (wx.cell? ⟨b', o' + j * 2, none⟩ = some (.int .u64 (r'.1 : Int)) ∧ wx.cell? ⟨b', o' + j * 2 + 1, none⟩ = some (.int .u64 (r'.2 : Int))) ∧ wx.cell? ⟨X, 0, none⟩ = some (.int .u64 (W.low : Int)) ∧ wx.cell? ⟨X, 1, none⟩ = some (.int .u64 (W.width : Int)) ∧ wx.cell? ⟨X, 2, none⟩ = some (.slice A' n6 c') := ⟨⟨z0, z1⟩, ⟨p0, p1⟩, HKX.out.c0, HKX.out.c1, HKX.out.c2⟩
            go_region_held3 (fun w' => (w'.cell? ⟨Z, 0, none⟩ = some (.int .u64 (r'.1 : Int)) ∧ w'.cell? ⟨Z, 1, none⟩ = some (.int .u64 (r'.2 : Int))) ∧ (w'.cell? ⟨b', o' + j * 2, none⟩ = some (.int .u64 (r'.1 : Int)) ∧ w'.cell? ⟨b', o' + j * 2 + 1, none⟩ = some (.int .u64 (r'.2 : Int))) ∧ w'.cell? ⟨X, 0, none⟩ = some (.int .u64 (W.low : Int)) ∧ w'.cell? ⟨X, 1, none⟩ = some (.int .u64 (W.width : Int)) ∧ w'.cell? ⟨X, 2, none⟩ = some (.slice A' n6 c')) (first | exact hc | exact hd) (first
              | (go_at_call 63
                 refine (limit_b _ A' n6 c' W lim hLW.out).mono ?_
                 rintro e wl ⟨rfl, hbl'⟩
                 have hbl : Below wx.heap.size wx wl := (below_drewN (Below.refl _ _) 1).trans hbl'
                 have HKL := Lib.hid (HKX.out.next hbl)
                 have HBL := Lib.hid (HBX.out.trans (hbl.mono HBX.out.size))
                 have hd : (wl.cell? ⟨Z, 0, none⟩ = some (.int .u64 (r'.1 : Int)) ∧ wl.cell? ⟨Z, 1, none⟩ = some (.int .u64 (r'.2 : Int))) ∧ (wl.cell? ⟨b', o' + j * 2, none⟩ = some (.int .u64 (r'.1 : Int)) ∧ wl.cell? ⟨b', o' + j * 2 + 1, none⟩ = some (.int .u64 (r'.2 : Int))) ∧ wl.cell? ⟨X, 0, none⟩ = some (.int .u64 (W.low : Int)) ∧ wl.cell? ⟨X, 1, none⟩ = some (.int .u64 (W.width : Int)) ∧ wl.cell? ⟨X, 2, none⟩ = some (.slice A' n6 c') := ⟨⟨(hbl.cell (p := ⟨Z, 0, none⟩) (World.block_lt_of_cell? _ _ z0)).trans z0, (hbl.cell (p := ⟨Z, 1, none⟩) (World.block_lt_of_cell? _ _ z1)).trans z1⟩, ⟨(hbl.cell (p := ⟨b', o' + j * 2, none⟩) (World.block_lt_of_cell? _ _ p0)).trans p0, (hbl.cell (p := ⟨b', o' + j * 2 + 1, none⟩) (World.block_lt_of_cell? _ _ p1)).trans p1⟩, HKL.out.c0, HKL.out.c1, HKL.out.c2⟩))
            have e3 : ¬ (lim : Int) < (r'.2 : Int) := by have := of_decide_eq_false e2; exact this
            go_wp2_with fail
            go_roundg (gk - 1)
            case measure => omega
            case rel => exact ⟨j + 1, by omega, by go_num, HBL.out⟩
          · have hjI : ¬ (j : Int) < (k : Int) := by omega
            go_wp2_with fail
            go_ret
            exact ⟨rfl, HB.out.trans (HBJ.out.mono HB.out.size)⟩
theorem windowRuns_law (w : World) (a : Int) (ha : 0 ≤ a ∧ a ≤ 65535) (A : Option Addr) (n c : Nat) (L : List Aw) (hL : Aws w w.heap.size A n c L) (most : Int) (hm : -9223372036854775808 ≤ most ∧ most ≤ 9223372036854775807) :
    Calls Try.prog 11 #[.int .u16 a, .slice A n c, .int .i64 most] w (Says w (.bool true)) := by
  obtain ⟨x, rfl⟩ := Int.eq_ofNat_of_zero_le ha.1
  exact windowRuns_walk w x (by omega) A n c L hL most hm
end Go.Proofs.Ytjgkfoldbnjpeaa
