/-
  WALK of WindowPlays.
-/
import Derived.Test.YthhmgbeigeagdaaWinLikeB
import Derived.Deep.CutRange
namespace Go.Proofs.Ythhmgbeigeagdaa
open Go.RowKit

def WPl (w : World) (K X Y n gk : Nat) (vi : Value) (wr : World) : Prop :=
  ∃ (i : Nat) (A : Option Addr) (n1 c1 : Nat) (W : Wn) (A' : Option Addr) (n' c' : Nat) (V : Wr), gk + i = n ∧ vi = .int .i64 (i : Int) ∧ Tw w X Y A n1 c1 W A' n' c' V wr ∧ Like W V ∧ Fine W K (min i 80) ∧ V.l.length ≤ i ∧ i ≤ 80
theorem num_facts {x : Aw} (hx : AwOk x) {W : Wn} {K i : Nat} (hF : Fine W K (min i 80)) : numW x W.low < max (W.low + 256) 2305843009213693952 ∧ numW x W.low < two64 ∧ W.low < 4611686018427387904 := by
  have h1 := numW_lt hx (low := W.low)
  have h2 := hF.low
  generalize numW x W.low = k at *
  have h3 : k < 2305843009213693952 + 256 * 81 := by omega
  exact ⟨h1, by unfold two64; omega, by omega⟩
theorem num_small {k low i : Nat} (h : k < max (low + 256) 2305843009213693952) (h2 : low ≤ 2305843009213693952 + 256 * min i 80) : k < 4611686018427380000 ∧ low < 4611686018427380000 := by
  have h3 : k < 2305843009213693952 + 256 * 81 := by omega
  exact ⟨by omega, by omega⟩
/-- Behind the act. -/
def WPlCut (w : World) (K X Y Z i low : Nat) (wr : World) : Prop :=
  ∃ (A : Option Addr) (n1 c1 : Nat) (W : Wn) (A' : Option Addr) (n' c' : Nat) (V : Wr), Tw w X Y A n1 c1 W A' n' c' V wr ∧ Like W V ∧ Fine W K (i + 1) ∧ V.l.length ≤ i + 1 ∧ low ≤ W.low ∧ wr.cell? ⟨Z, 0, none⟩ = some (.int .u64 (low : Int))
set_option maxRecDepth 100000 in
set_option maxHeartbeats 4000000 in
theorem windowPlays_walk (w : World) (wd : Nat) (hwd : wd < 65536) (A : Option Addr) (n c : Nat) (L : List Aw) (hL : Aws w w.heap.size A n c L) :
    Calls Try.prog 3 #[.int .u16 (wd : Int), .slice A n c] w (Says w (.bool true)) := by
  obtain ⟨K, hK⟩ : ∃ K, K = 1 + wd % 64 := ⟨_, rfl⟩
  have hKI : 1 + (wd : Int) % 64 = (K : Int) := by omega
  have HK : Hid (1 ≤ K ∧ K ≤ 64) := by exact ⟨by omega, by omega⟩
  have HLA := Lib.hid hL
  have hnm : n ≤ 9223372036854775807 := Nat.le_trans hL.sn.le hL.sn.max
  clear hL hK
  go_enter Try.func3, Try.ntmps3
  go_wp2_with fail
  refine (awake15_any w).mono ?_
  rintro e w1 ⟨rfl, hb1⟩
  have HB1 := Lib.hid hb1
  clear hb1
  go_wp2_with fail
  try rw [hKI]
  refine (new_any w1 K (by have := HK.out; unfold two64; omega)).mono ?_
  rintro e w2 hs
  obtain ⟨A2, n2, c2, rfl, hw2, hb2⟩ := hs.ex
  clear hs
  have HTW := Lib.hid (Tw.made (w0 := w) hw2 (HB1.out.trans (hb2.mono HB1.out.size)) K)
  have HF : Hid (Fine (newW K) K 0) := ⟨new_ok HK.out.1 (by have := HK.out.2; omega), rfl, by show 0 ≤ _; omega⟩
  have HLK : Hid (Like (newW K) ⟨0, K, []⟩) := Like.new HF.out.ok (new_D K)
  clear hw2 hb2 HB1
  go_wp2_with fail
  generalize newW K = W2 at *
  generalize (w2.alloc (.cells #[.int .u64 (W2.low : Int), .int .u64 (W2.width : Int), .slice A2 n2 c2] 30)).alloc (.cells #[.int .u64 0, .int .u64 (K : Int), .slice none 0 0] 34) = w3 at *
  generalize w2.heap.size = X at *
  obtain ⟨Y, hY⟩ : ∃ Y, X + 1 = Y := ⟨_, rfl⟩
  rw [hY] at HTW ⊢
  clear hY
  go_loopg [24] n (fun gk vi wr => WPl w K X Y n gk vi wr)
  case atStart => exact ⟨0, A2, n2, c2, W2, none, 0, 0, ⟨0, K, []⟩, rfl, rfl, HTW.out, HLK.out, HF.out, Nat.le_refl _, by omega⟩
  case round =>
    clear HTW HLK HF
    obtain ⟨i, A1, n1, c1, W, A', n', c', V, hgk, rfl, htw, hlk, hfine, hll, hi80⟩ := hrel
    have HT := Lib.hid htw
    have HLK := Lib.hid hlk
    have HF := Lib.hid hfine
    have HLL := Lib.hid hll
    clear htw hlk hfine hll
    by_cases hlt : i < n
    · obtain ⟨bb, o, x, rfl, hbb, hx, c0, c1', c2', hok⟩ := (HLA.out.below HT.out.kp.bel (Nat.le_refl _)).at_ hlt
      have HOK := Lib.hid hok
      clear hx hok
      have hltI : (i : Int) < (n : Int) := by omega
      obtain ⟨hbx, y0, y1, y2⟩ := box_cells wr (.int .u8 (x.d : Int)) (.int .u8 (x.n : Int)) (.int .u64 (x.m : Int)) 36
      have HTX := Lib.hid (HT.out.next hbx)
      have HXW : Hid (X < wr.heap.size ∧ Y < wr.heap.size) := ⟨HT.out.kp.lt, HT.out.ltY⟩
      clear hbx
      by_cases h80 : i < 80
      · have h80I : ¬ (80 : Int) ≤ (i : Int) := by omega
        obtain ⟨⟨hx0, hx1, hx2⟩, hy0, hy1, hy2⟩ := HTX.out.six
        obtain ⟨k, hk⟩ : ∃ k, k = numW x W.low := ⟨_, rfl⟩
        have HNW : Hid (k < max (W.low + 256) 2305843009213693952 ∧ k < two64 ∧ W.low < 4611686018427387904) := by rw [hk]; exact num_facts HOK.out HF.out
        have HSM := Lib.hid (num_small HNW.out.1 HF.out.low)
        have hnum := number_any (wr.alloc (.cells #[.int .u8 (x.d : Int), .int .u8 (x.n : Int), .int .u64 (x.m : Int)] 36)) x HOK.out W.low HNW.out.2.2
        rw [← hk] at hnum
        have HNUM := Lib.hid hnum
        clear hnum hk
        go_wp2_with fail
        generalize wr.alloc (.cells #[.int .u8 (x.d : Int), .int .u8 (x.n : Int), .int .u64 (x.m : Int)] 36) = wx at *
        obtain ⟨Q, hQ⟩ : ∃ Q, wr.heap.size = Q := ⟨_, rfl⟩
        rw [hQ] at HXW y0 y1 y2 ⊢
        clear hQ
        refine HNUM.out.mono ?_
        rintro e w5 ⟨rfl, hb5⟩
        have HT5 := Lib.hid (HTX.out.next hb5)
        have hq0 := (hb5.cell (p := ⟨Q, 0, none⟩) (World.block_lt_of_cell? _ _ y0)).trans y0
        have hq1 := (hb5.cell (p := ⟨Q, 1, none⟩) (World.block_lt_of_cell? _ _ y1)).trans y1
        have hq2 := (hb5.cell (p := ⟨Q, 2, none⟩) (World.block_lt_of_cell? _ _ y2)).trans y2
        clear hb5 hx0 hx1 hx2 hy0 hy1 hy2 HTX HNUM y0 y1 y2
        have hx0 := HT5.out.kp.c0
        have hx1 := HT5.out.kp.c1
        have hx2 := HT5.out.kp.c2
        obtain ⟨hbz, z0, z1, z2⟩ := box_cells w5 (.int .u64 (W.low : Int)) (.int .u64 (W.width : Int)) (.slice A1 n1 c1) 30
        have HT6 := Lib.hid (HT5.out.next hbz)
        have hq0' := (hbz.cell (p := ⟨Q, 0, none⟩) (World.block_lt_of_cell? _ _ hq0)).trans hq0
        have hq1' := (hbz.cell (p := ⟨Q, 1, none⟩) (World.block_lt_of_cell? _ _ hq1)).trans hq1
        have hq2' := (hbz.cell (p := ⟨Q, 2, none⟩) (World.block_lt_of_cell? _ _ hq2)).trans hq2
        have HXZ : Hid (X < w5.heap.size ∧ Y < w5.heap.size) := ⟨HT5.out.kp.lt, HT5.out.ltY⟩
        go_wp2_with fail
        clear hx0 hx1 hx2 hbz HT5 hq0 hq1 hq2
        generalize w5.alloc (.cells #[.int .u64 (W.low : Int), .int .u64 (W.width : Int), .slice A1 n1 c1] 30) = w6 at *
        obtain ⟨Z, hZ⟩ : ∃ Z, w5.heap.size = Z := ⟨_, rfl⟩
        rw [hZ] at HXZ z0 z1 z2 ⊢
        clear hZ
        have HQ : Hid (w6.cell? ⟨Q, 0, none⟩ = some (.int .u8 (x.d : Int)) ∧ w6.cell? ⟨Q, 1, none⟩ = some (.int .u8 (x.n : Int)) ∧ w6.cell? ⟨Q, 2, none⟩ = some (.int .u64 (x.m : Int))) := ⟨hq0', hq1', hq2'⟩
        have HZ0 := Lib.hid z0
        clear z0 z1 z2 hq0' hq1' hq2'
        have HSUM : Hid (W.low + W.width < two64 ∧ V.low + V.width < two64) := by have h1 := HF.out.low; have h2 := HF.out.width; have h3 := HK.out; have h4 := HLK.out.low; have h5 := HLK.out.width; constructor <;> (unfold two64; omega)
        have HNN : Hid (n1 ≤ 64 ∧ n' ≤ 80) := by
          have h1 := HT6.out.kp.at_.n_le HF.out.ok
          have h2 := HF.out.width
          have h3 := HK.out
          have h4 := HT6.out.sn.len
          rw [nvs_len] at h4
          have h5 := HLL.out
          exact ⟨by omega, by omega⟩
        obtain ⟨tk, htk⟩ : ∃ tk, takesW W k = tk := ⟨_, rfl⟩
        obtain ⟨hd, hhd⟩ : ∃ hd, hadW W k = hd := ⟨_, rfl⟩
        have HTK : Hid (takesW W k = tk ∧ takesR V k = tk) := ⟨htk, by rw [← HLK.out.takes]; exact htk⟩
        have HHD : Hid (hadW W k = hd ∧ hadR V k = hd) := ⟨hhd, by rw [← HLK.out.had]; exact hhd⟩
        have hne1 : (tk != tk) = false := by cases tk <;> rfl
        have hne2 : (hd != hd) = false := by cases hd <;> rfl
        clear htk hhd
        have hS := HT6.out.six
        unfold Six at hS
        have HSX : Hid (∀ w', Below w6.heap.size w6 w' → (w'.cell? ⟨X, 0, none⟩ = some (.int .u64 (W.low : Int)) ∧ w'.cell? ⟨X, 1, none⟩ = some (.int .u64 (W.width : Int)) ∧ w'.cell? ⟨X, 2, none⟩ = some (.slice A1 n1 c1)) ∧ w'.cell? ⟨Y, 0, none⟩ = some (.int .u64 (V.low : Int)) ∧ w'.cell? ⟨Y, 1, none⟩ = some (.int .u64 (V.width : Int)) ∧ w'.cell? ⟨Y, 2, none⟩ = some (.slice A' n' c')) := fun w' hb => (HT6.out.next hb).six
        go_region_held3 (fun w' => (w'.cell? ⟨X, 0, none⟩ = some (.int .u64 (W.low : Int)) ∧ w'.cell? ⟨X, 1, none⟩ = some (.int .u64 (W.width : Int)) ∧ w'.cell? ⟨X, 2, none⟩ = some (.slice A1 n1 c1)) ∧ w'.cell? ⟨Y, 0, none⟩ = some (.int .u64 (V.low : Int)) ∧ w'.cell? ⟨Y, 1, none⟩ = some (.int .u64 (V.width : Int)) ∧ w'.cell? ⟨Y, 2, none⟩ = some (.slice A' n' c')) (first | exact hS | exact hk7 | exact hk8 | exact hk9 | exact hk10) (first
          | (go_at_call 11
             refine (takes_b _ A1 n1 c1 W (HT6.out.next (below_drewN (Below.refl _ _) 1)).kp.at_ HSUM.out.1 (by have := HNN.out.1; omega) k tk HTK.out.1).mono ?_
             rintro e w7 ⟨rfl, hb7⟩
             have HB7 : Hid (Below w6.heap.size w6 w7) := (below_drewN (Below.refl _ _) 1).trans hb7
             have hk7 := HSX.out _ HB7.out
             clear hb7)
          | (go_at_call 12
             refine (takesR_b w7 A' n' c' V (HT6.out.next HB7.out).sn HSUM.out.2 k tk HTK.out.2).mono ?_
             rintro e w8 ⟨rfl, hb8⟩
             have HB8 : Hid (Below w6.heap.size w6 w8) := HB7.out.trans (hb8.mono HB7.out.size)
             have hk8 := HSX.out _ HB8.out
             clear hb8)
          | (go_at_call 13
             refine (had_b w8 A1 n1 c1 W (HT6.out.next HB8.out).kp.at_ (by have := HNN.out.1; omega) k hd HHD.out.1).mono ?_
             rintro e w9 ⟨rfl, hb9⟩
             have HB9 : Hid (Below w6.heap.size w6 w9) := HB8.out.trans (hb9.mono HB8.out.size)
             have hk9 := HSX.out _ HB9.out
             clear hb9)
          | (go_at_call 14
             refine (hadR_b w9 A' n' c' V (HT6.out.next HB9.out).sn k hd HHD.out.2).mono ?_
             rintro e w10 ⟨rfl, hb10⟩
             have HB10 : Hid (Below w6.heap.size w6 w10) := HB9.out.trans (hb10.mono HB9.out.size)
             have hk10 := HSX.out _ HB10.out
             clear hb10))
        have hq0 := (HB10.out.cell (p := ⟨Q, 0, none⟩) (World.block_lt_of_cell? _ _ HQ.out.1)).trans HQ.out.1
        have hq1 := (HB10.out.cell (p := ⟨Q, 1, none⟩) (World.block_lt_of_cell? _ _ HQ.out.2.1)).trans HQ.out.2.1
        have hq2 := (HB10.out.cell (p := ⟨Q, 2, none⟩) (World.block_lt_of_cell? _ _ HQ.out.2.2)).trans HQ.out.2.2
        have hp := puts_any w10 x HOK.out
        have HP := Lib.hid hp
        clear hp hS hk7 hk8 hk9 hk10 HTK HHD hne1 hne2 HB7 HB8 HB9 HSX HQ
        go_wp2_with fail
        refine HP.out.mono ?_
        rintro e w11 ⟨rfl, hb11⟩
        have HB11 : Hid (Below w6.heap.size w6 w11) := HB10.out.trans (hb11.mono HB10.out.size)
        have HT11 := Lib.hid (HT6.out.next HB11.out)
        have HZ11 : Hid (w11.cell? ⟨Z, 0, none⟩ = some (.int .u64 (W.low : Int))) := (HB11.out.cell (p := ⟨Z, 0, none⟩) (World.block_lt_of_cell? _ _ HZ0.out)).trans HZ0.out
        have HXY11 : Hid (X < w11.heap.size ∧ Y < w11.heap.size) := ⟨HT11.out.kp.lt, HT11.out.ltY⟩
        have HSML : Hid (V.low < 9000000000000000000 ∧ V.low + V.width < 9000000000000000000 ∧ ∀ y ∈ V.l, y < 9000000000000000000) := by
          have h1 := HLK.out.low
          have h2 := HLK.out.width
          have h3 := HF.out.width
          have h4 := HK.out
          have h5 := HSM.out.2
          exact ⟨by omega, by omega, fun y hy => by have h6 := (HF.out.ok.lo y ((HLK.out.mem y).2 hy)).2; omega⟩
        clear hb11 HB10 HP hq0 hq1 hq2 HB11 HT6 HZ0
        go_upto_if 53 with fail
        go_cut [] from 25 to 83 (fun wx => WPlCut w K X Y Z i W.low wx)
        case first =>
          have hS6 := HT11.out.six
          unfold Six at hS6
          obtain ⟨⟨hx0, hx1, hx2⟩, hS⟩ := hS6
          have hxd0 : w11.drew.cell? ⟨X, 0, none⟩ = some (.int .u64 (W.low : Int)) := hx0
          have hxd1 : w11.drew.cell? ⟨X, 1, none⟩ = some (.int .u64 (W.width : Int)) := hx1
          have hxd2 : w11.drew.cell? ⟨X, 2, none⟩ = some (.slice A1 n1 c1) := hx2
          cases hput : putsW x
          · have HLOWS := Lib.hid ((skip_spec HF.out.ok HSM.out.2 k HSM.out.1).2.2.1)
            go_wp2_with fail
            refine wp_region_noPanic ?_
            refine wp_region_F (S := (fun w' => w'.cell? ⟨Y, 0, none⟩ = some (.int .u64 (V.low : Int)) ∧ w'.cell? ⟨Y, 1, none⟩ = some (.int .u64 (V.width : Int)) ∧ w'.cell? ⟨Y, 2, none⟩ = some (.slice A' n' c'))) (F := (fun j => j == 7)) (by kernel_rfl) hS (fun hHeld => ?_)
            refine wpAnyF_take0 (i := 1) (oi := { dst := some 61, op := Op.move (Operand.tmp 10), type := 25, pos := "law.go:62", after := #[], guard := none }) (v := ?_) rfl (by kernel_rfl) (by kernel_rfl) (by kernel_rfl) (fun _ _ _ h => h) (Or.inl ⟨by rfl, ?_⟩) ?_
            rotate_left
            · intro w hSw; (try dsimp only at hSw); first | (go_simp; done) | (go_simp; with_reducible rfl)
            try simp only [Act.put, List.setIfInBounds_toArray, List.set_cons_zero, List.set_cons_succ]
            refine wpAnyF_take (i := 3) (oi := { dst := some 63, op := Op.load 34 (Operand.tmp 7), type := 34, pos := "law.go:62", after := #[], guard := none }) (v := ?_) (fun j hj => by simp only [beq_iff_eq] at hj; subst hj; exact of_decide_eq_true (by kernel_rfl)) rfl (by kernel_rfl) (by kernel_rfl) (by kernel_rfl) (by kernel_rfl) (by kernel_rfl) (fun _ _ _ h => h) (Or.inl ⟨by rfl, ?_⟩) (by assumption) ?_
            rotate_left
            · intro w hSw; (try dsimp only at hSw); first | (go_simp; done) | (go_simp; with_reducible rfl)
            try simp only [Act.put, List.setIfInBounds_toArray, List.set_cons_zero, List.set_cons_succ]
            refine wpAnyF_take0 (i := 4) (oi := { dst := some 64, op := Op.move (Operand.tmp 10), type := 25, pos := "law.go:62", after := #[], guard := none }) (v := ?_) rfl (by kernel_rfl) (by kernel_rfl) (by kernel_rfl) (fun _ _ _ h => h) (Or.inl ⟨by rfl, ?_⟩) ?_
            rotate_left
            · intro w hSw; (try dsimp only at hSw); first | (go_simp; done) | (go_simp; with_reducible rfl)
            try simp only [Act.put, List.setIfInBounds_toArray, List.set_cons_zero, List.set_cons_succ]
            refine wpAnyF_one (i := 0) (o := { dst := some 60, op := Op.load 30 (Operand.tmp 6), type := 30, pos := "law.go:62", after := #[], guard := none }) (by kernel_rfl) rfl (fun K hK => ?_)
            go_simp
            skip
            try go_wp2_with fail
            try clear hHeld
            refine hK.out _ _ (by first | exact hS14 | exact hS13 | exact hS12 | exact hS) (fun hHeld => ?_)
            clear hK K
            try simp only [Act.put, List.setIfInBounds_toArray, List.set_cons_zero, List.set_cons_succ]
            refine wpAnyF_one (i := 2) (o := { dst := some 62, op := Op.call { callee := Callee.value (Operand.func 18), args := #[Operand.tmp 60, Operand.tmp 61], argTypes := #[30, 25] }, type := 30, pos := "law.go:62", after := #[{ on := 0, ground := Ground.data }, { on := 1, ground := Ground.data }], guard := none }) (by kernel_rfl) rfl (fun K hK => ?_)
            go_simp
            go_at_call 18
            refine (skip_b _ A1 n1 c1 W (HT11.out.next (below_drewN (Below.refl _ _) 1)).kp.at_ HF.out.ok (by have h1 := HF.out.width; have h2 := HK.out; omega) k HNW.out.2.1).mono ?_
            rintro e w12 ⟨A2, n2, c2, rfl, hw2, hp2, hb12'⟩
            have hb12 : Below w11.heap.size w11 w12 := (below_drewN (Below.refl _ _) 1).trans hb12'
            have HT12 := Lib.hid (HT11.out.next hb12)
            have HW2 := Lib.hid hw2
            have HP2 : Hid (∀ b o, A2 = some ⟨b, o, none⟩ → A2 = A1 ∨ w11.heap.size ≤ b) := hp2
            have HB12 := Lib.hid hb12
            have hS12 := (show _ ∧ _ from HT12.out.six).2
            clear hw2 hp2 hb12 hb12'
            try go_wp2_with fail
            try clear hHeld
            refine hK.out _ _ (by first | exact hS14 | exact hS13 | exact hS12 | exact hS) (fun hHeld => ?_)
            clear hK K
            try simp only [Act.put, List.setIfInBounds_toArray, List.set_cons_zero, List.set_cons_succ]
            refine wpAnyF_one (i := 5) (o := { dst := some 65, op := Op.call { callee := Callee.value (Operand.func 19), args := #[Operand.tmp 63, Operand.tmp 64], argTypes := #[34, 25] }, type := 34, pos := "law.go:62", after := #[{ on := 3, ground := Ground.data }, { on := 4, ground := Ground.data }, { on := 2, ground := Ground.chain }], guard := none }) (by kernel_rfl) rfl (fun K hK => ?_)
            go_simp
            go_at_call 19
            refine (refSkip_any w12 A' n' c' V HT12.out.sn HSML.out.1 HSML.out.2.2 (by have := HNN.out.2; omega) k (by have := HSM.out.1; omega)).mono ?_
            rintro e w13 ⟨V2, A4, n4, c4, rfl, hv2, hsn4, hb13, hp4⟩
            have HT13 := Lib.hid (HT12.out.next hb13)
            have hS13 := (show _ ∧ _ from HT13.out.six).2
            have HLK2 : Hid (Like (skipW W k) V2 ∧ V2.l.length ≤ i + 1) := ⟨HLK.out.skip HSM.out.2 HSM.out.1 hv2, by have h3 := hv2.len; simp at h3; have := HLL.out; omega⟩
            have HTS := Lib.hid (HT13.out.store (s := w11.heap.size) HXY11.out.1 HXY11.out.2 (HW2.out.on hb13) HP2.out hsn4 (fun b o e => (hp4 b o e).imp id (fun h => Nat.le_trans HB12.out.size h)))
            have HZ13 : Hid ((set3 (set3 w13 X (.int .u64 ((skipW W k).low : Int)) (.int .u64 ((skipW W k).width : Int)) (.slice A2 n2 c2)) Y (.int .u64 (V2.low : Int)) (.int .u64 (V2.width : Int)) (.slice A4 n4 c4)).cell? ⟨Z, 0, none⟩ = some (.int .u64 (W.low : Int))) := by
              show _ = _
              rw [set3_other _ _ _ _ (by have := HXZ.out; omega), set3_other _ _ _ _ (by have := HXZ.out; omega)]
              exact ((HB12.out.trans (hb13.mono HB12.out.size)).cell (p := ⟨Z, 0, none⟩) (World.block_lt_of_cell? _ _ HZ11.out)).trans HZ11.out
            have hr := (set3_off (Z := X) (.int .u64 ((skipW W k).low : Int)) (.int .u64 ((skipW W k).width : Int)) (.slice A2 n2 c2) (Ne.symm HT13.out.ne)).trans HT13.out.row
            have HF2 := Lib.hid ((HF.out.skip (k := k) (by omega) HK.out.2 HNW.out.1).mono (show min i 80 + 1 ≤ i + 1 by omega))
            have hx0 := HT13.out.kp.c0
            have hx1 := HT13.out.kp.c1
            have hx2 := HT13.out.kp.c2
            have hf0 := HT13.out.kp.frz 0
            have hf1 := HT13.out.kp.frz 1
            have hf2 := HT13.out.kp.frz 2
            generalize skipW W k = W2 at *
            have gy0 := row_at (i := 0) hr rfl
            have gy1 := row_at (i := 1) hr rfl
            have gy2 := row_at (i := 2) hr rfl
            have gf0 := frz_row (i := 0) hr
            have gf1 := frz_row (i := 1) hr
            have gf2 := frz_row (i := 2) hr
            unfold set3 at gy0 gy1 gy2 gf0 gf1 gf2
            have hS14 := And.intro gy0 (And.intro gy1 gy2)
            clear hr hv2 hsn4 hb13 hp4
            try go_wp2_with fail
            try clear hHeld
            refine hK.out _ _ (by first | exact hS14 | exact hS13 | exact hS12 | exact hS) (fun hHeld => ?_)
            clear hK K
            try simp only [Act.put, List.setIfInBounds_toArray, List.set_cons_zero, List.set_cons_succ]
            refine wpAnyF_one (i := 6) (o := { dst := none, op := Op.store 30 (Operand.tmp 6) (Operand.tmp 62), type := 0, pos := "law.go:62", after := #[{ on := 2, ground := Ground.data }, { on := 5, ground := Ground.chain }, { on := 0, ground := Ground.phase }, { on := 1, ground := Ground.phase }, { on := 2, ground := Ground.phase }, { on := 3, ground := Ground.textOnly Departure.lateStores }, { on := 4, ground := Ground.textOnly Departure.lateStores }, { on := 5, ground := Ground.textOnly Departure.lateStoresUnsure }], guard := none }) (by kernel_rfl) rfl (fun K hK => ?_)
            go_simp
            skip
            try go_wp2_with fail
            try clear hHeld
            refine hK.out _ _ (by first | exact hS14 | exact hS13 | exact hS12 | exact hS) (fun hHeld => ?_)
            clear hK K
            try simp only [Act.put, List.setIfInBounds_toArray, List.set_cons_zero, List.set_cons_succ]
            refine wpAnyF_oneF (i := 7) (o := { dst := none, op := Op.store 34 (Operand.tmp 7) (Operand.tmp 65), type := 0, pos := "law.go:62", after := #[{ on := 5, ground := Ground.data }, { on := 6, ground := Ground.chain }, { on := 0, ground := Ground.phase }, { on := 1, ground := Ground.phase }, { on := 2, ground := Ground.phase }, { on := 3, ground := Ground.phase }, { on := 4, ground := Ground.phase }, { on := 5, ground := Ground.phase }, { on := 6, ground := Ground.phase }], guard := none }) (by kernel_rfl) (by kernel_rfl) rfl (fun K hK => ?_)
            go_simp
            skip
            try go_wp2_with fail
            refine hK.out _ _ ?_
            clear hK K
            try simp only [Act.put, List.setIfInBounds_toArray, List.set_cons_zero, List.set_cons_succ]
            refine wpAnyF_done (by kernel_rfl) ?_ _
            refine NoPanic.normal ?_
            go_wp2
            go_meet
            exact ⟨A2, n2, c2, W2, A4, n4, c4, V2, HTS.out, HLK2.out.1, HF2.out, HLK2.out.2, HLOWS.out, HZ13.out⟩
          · have HLOWS := Lib.hid ((put_spec HF.out.ok HSM.out.2 k HNW.out.2.1).2.2.1)
            go_wp2_with fail
            refine wp_region_noPanic ?_
            refine wp_region_F (S := (fun w' => w'.cell? ⟨Y, 0, none⟩ = some (.int .u64 (V.low : Int)) ∧ w'.cell? ⟨Y, 1, none⟩ = some (.int .u64 (V.width : Int)) ∧ w'.cell? ⟨Y, 2, none⟩ = some (.slice A' n' c'))) (F := (fun j => j == 7)) (by kernel_rfl) hS (fun hHeld => ?_)
            refine wpAnyF_take0 (i := 1) (oi := { dst := some 55, op := Op.move (Operand.tmp 10), type := 25, pos := "law.go:60", after := #[], guard := none }) (v := ?_) rfl (by kernel_rfl) (by kernel_rfl) (by kernel_rfl) (fun _ _ _ h => h) (Or.inl ⟨by rfl, ?_⟩) ?_
            rotate_left
            · intro w hSw; (try dsimp only at hSw); first | (go_simp; done) | (go_simp; with_reducible rfl)
            try simp only [Act.put, List.setIfInBounds_toArray, List.set_cons_zero, List.set_cons_succ]
            refine wpAnyF_take (i := 3) (oi := { dst := some 57, op := Op.load 34 (Operand.tmp 7), type := 34, pos := "law.go:60", after := #[], guard := none }) (v := ?_) (fun j hj => by simp only [beq_iff_eq] at hj; subst hj; exact of_decide_eq_true (by kernel_rfl)) rfl (by kernel_rfl) (by kernel_rfl) (by kernel_rfl) (by kernel_rfl) (by kernel_rfl) (fun _ _ _ h => h) (Or.inl ⟨by rfl, ?_⟩) (by assumption) ?_
            rotate_left
            · intro w hSw; (try dsimp only at hSw); first | (go_simp; done) | (go_simp; with_reducible rfl)
            try simp only [Act.put, List.setIfInBounds_toArray, List.set_cons_zero, List.set_cons_succ]
            refine wpAnyF_take0 (i := 4) (oi := { dst := some 58, op := Op.move (Operand.tmp 10), type := 25, pos := "law.go:60", after := #[], guard := none }) (v := ?_) rfl (by kernel_rfl) (by kernel_rfl) (by kernel_rfl) (fun _ _ _ h => h) (Or.inl ⟨by rfl, ?_⟩) ?_
            rotate_left
            · intro w hSw; (try dsimp only at hSw); first | (go_simp; done) | (go_simp; with_reducible rfl)
            try simp only [Act.put, List.setIfInBounds_toArray, List.set_cons_zero, List.set_cons_succ]
            refine wpAnyF_one (i := 0) (o := { dst := some 54, op := Op.load 30 (Operand.tmp 6), type := 30, pos := "law.go:60", after := #[], guard := none }) (by kernel_rfl) rfl (fun K hK => ?_)
            go_simp
            skip
            try go_wp2_with fail
            try clear hHeld
            refine hK.out _ _ (by first | exact hS14 | exact hS13 | exact hS12 | exact hS) (fun hHeld => ?_)
            clear hK K
            try simp only [Act.put, List.setIfInBounds_toArray, List.set_cons_zero, List.set_cons_succ]
            refine wpAnyF_one (i := 2) (o := { dst := some 56, op := Op.call { callee := Callee.value (Operand.func 16), args := #[Operand.tmp 54, Operand.tmp 55], argTypes := #[30, 25] }, type := 30, pos := "law.go:60", after := #[{ on := 0, ground := Ground.data }, { on := 1, ground := Ground.data }], guard := none }) (by kernel_rfl) rfl (fun K hK => ?_)
            go_simp
            go_at_call 16
            refine (put_b _ A1 n1 c1 W (HT11.out.next (below_drewN (Below.refl _ _) 1)).kp.at_ HF.out.ok (by have h1 := HF.out.width; have h2 := HK.out; omega) k HNW.out.2.1).mono ?_
            rintro e w12 ⟨A2, n2, c2, rfl, hw2, hp2, hb12'⟩
            have hb12 : Below w11.heap.size w11 w12 := (below_drewN (Below.refl _ _) 1).trans hb12'
            have HT12 := Lib.hid (HT11.out.next hb12)
            have HW2 := Lib.hid hw2
            have HP2 : Hid (∀ b o, A2 = some ⟨b, o, none⟩ → A2 = A1 ∨ w11.heap.size ≤ b) := hp2
            have HB12 := Lib.hid hb12
            have hS12 := (show _ ∧ _ from HT12.out.six).2
            clear hw2 hp2 hb12 hb12'
            try go_wp2_with fail
            try clear hHeld
            refine hK.out _ _ (by first | exact hS14 | exact hS13 | exact hS12 | exact hS) (fun hHeld => ?_)
            clear hK K
            try simp only [Act.put, List.setIfInBounds_toArray, List.set_cons_zero, List.set_cons_succ]
            refine wpAnyF_one (i := 5) (o := { dst := some 59, op := Op.call { callee := Callee.value (Operand.func 17), args := #[Operand.tmp 57, Operand.tmp 58], argTypes := #[34, 25] }, type := 34, pos := "law.go:60", after := #[{ on := 3, ground := Ground.data }, { on := 4, ground := Ground.data }, { on := 2, ground := Ground.chain }], guard := none }) (by kernel_rfl) rfl (fun K hK => ?_)
            go_simp
            go_at_call 17
            refine (refPut_any w12 A' n' c' V HT12.out.sn HSML.out.1 HSML.out.2.2 (by have := HNN.out.2; omega) HSML.out.2.1 k).mono ?_
            rintro e w13 ⟨V2, A4, n4, c4, rfl, hv2, hsn4, hb13, hp4⟩
            have HT13 := Lib.hid (HT12.out.next hb13)
            have hS13 := (show _ ∧ _ from HT13.out.six).2
            have HLK2 : Hid (Like (putW W k) V2 ∧ V2.l.length ≤ i + 1) := by
              rcases hv2 with ⟨h1, rfl⟩ | ⟨h1, h2⟩
              · exact ⟨by rw [HLK.out.put_no h1]; exact HLK.out, by have := HLL.out; omega⟩
              · exact ⟨HLK.out.put HSM.out.2 HNW.out.2.1 h1 h2, by have h3 := h2.len; simp at h3; have := HLL.out; omega⟩
            have HTS := Lib.hid (HT13.out.store (s := w11.heap.size) HXY11.out.1 HXY11.out.2 (HW2.out.on hb13) HP2.out hsn4 (fun b o e => (hp4 b o e).imp id (fun h => Nat.le_trans HB12.out.size h)))
            have HZ13 : Hid ((set3 (set3 w13 X (.int .u64 ((putW W k).low : Int)) (.int .u64 ((putW W k).width : Int)) (.slice A2 n2 c2)) Y (.int .u64 (V2.low : Int)) (.int .u64 (V2.width : Int)) (.slice A4 n4 c4)).cell? ⟨Z, 0, none⟩ = some (.int .u64 (W.low : Int))) := by
              show _ = _
              rw [set3_other _ _ _ _ (by have := HXZ.out; omega), set3_other _ _ _ _ (by have := HXZ.out; omega)]
              exact ((HB12.out.trans (hb13.mono HB12.out.size)).cell (p := ⟨Z, 0, none⟩) (World.block_lt_of_cell? _ _ HZ11.out)).trans HZ11.out
            have hr := (set3_off (Z := X) (.int .u64 ((putW W k).low : Int)) (.int .u64 ((putW W k).width : Int)) (.slice A2 n2 c2) (Ne.symm HT13.out.ne)).trans HT13.out.row
            have HF2 := Lib.hid ((HF.out.put (k := k) (by omega) HK.out.2 HNW.out.2.1).mono (show min i 80 + 1 ≤ i + 1 by omega))
            have hx0 := HT13.out.kp.c0
            have hx1 := HT13.out.kp.c1
            have hx2 := HT13.out.kp.c2
            have hf0 := HT13.out.kp.frz 0
            have hf1 := HT13.out.kp.frz 1
            have hf2 := HT13.out.kp.frz 2
            generalize putW W k = W2 at *
            have gy0 := row_at (i := 0) hr rfl
            have gy1 := row_at (i := 1) hr rfl
            have gy2 := row_at (i := 2) hr rfl
            have gf0 := frz_row (i := 0) hr
            have gf1 := frz_row (i := 1) hr
            have gf2 := frz_row (i := 2) hr
            unfold set3 at gy0 gy1 gy2 gf0 gf1 gf2
            have hS14 := And.intro gy0 (And.intro gy1 gy2)
            clear hr hv2 hsn4 hb13 hp4
            try go_wp2_with fail
            try clear hHeld
            refine hK.out _ _ (by first | exact hS14 | exact hS13 | exact hS12 | exact hS) (fun hHeld => ?_)
            clear hK K
            try simp only [Act.put, List.setIfInBounds_toArray, List.set_cons_zero, List.set_cons_succ]
            refine wpAnyF_one (i := 6) (o := { dst := none, op := Op.store 30 (Operand.tmp 6) (Operand.tmp 56), type := 0, pos := "law.go:60", after := #[{ on := 2, ground := Ground.data }, { on := 5, ground := Ground.chain }, { on := 0, ground := Ground.phase }, { on := 1, ground := Ground.phase }, { on := 2, ground := Ground.phase }, { on := 3, ground := Ground.textOnly Departure.lateStores }, { on := 4, ground := Ground.textOnly Departure.lateStores }, { on := 5, ground := Ground.textOnly Departure.lateStoresUnsure }], guard := none }) (by kernel_rfl) rfl (fun K hK => ?_)
            go_simp
            skip
            try go_wp2_with fail
            try clear hHeld
            refine hK.out _ _ (by first | exact hS14 | exact hS13 | exact hS12 | exact hS) (fun hHeld => ?_)
            clear hK K
            try simp only [Act.put, List.setIfInBounds_toArray, List.set_cons_zero, List.set_cons_succ]
            refine wpAnyF_oneF (i := 7) (o := { dst := none, op := Op.store 34 (Operand.tmp 7) (Operand.tmp 59), type := 0, pos := "law.go:60", after := #[{ on := 5, ground := Ground.data }, { on := 6, ground := Ground.chain }, { on := 0, ground := Ground.phase }, { on := 1, ground := Ground.phase }, { on := 2, ground := Ground.phase }, { on := 3, ground := Ground.phase }, { on := 4, ground := Ground.phase }, { on := 5, ground := Ground.phase }, { on := 6, ground := Ground.phase }], guard := none }) (by kernel_rfl) (by kernel_rfl) rfl (fun K hK => ?_)
            go_simp
            skip
            try go_wp2_with fail
            refine hK.out _ _ ?_
            clear hK K
            try simp only [Act.put, List.setIfInBounds_toArray, List.set_cons_zero, List.set_cons_succ]
            refine wpAnyF_done (by kernel_rfl) ?_ _
            refine NoPanic.normal ?_
            go_wp2
            go_meet
            exact ⟨A2, n2, c2, W2, A4, n4, c4, V2, HTS.out, HLK2.out.1, HF2.out, HLK2.out.2, HLOWS.out, HZ13.out⟩
        case rest =>
          obtain ⟨A8, n8, c8, W8, A9, n9, c9, V8, ht8, hlk8, hf8, hl8, hlo8, hz8⟩ := hcut
          clear HT11 HZ11 HXY11 HSML HLK HF HLL HSUM HNN HNW HSM HT HOK
          have HT8 := Lib.hid ht8
          have HF8 := Lib.hid hf8
          have HLK8 := Lib.hid hlk8
          have HL8 := Lib.hid hl8
          have HZ8 := Lib.hid hz8
          have hloI : ¬ (W8.low : Int) < (W.low : Int) := by omega
          have hloD : decide ((W8.low : Int) < (W.low : Int)) = false := by simp; omega
          have hloN : decide (W8.low < W.low) = false := by simp; omega
          have HNN : Hid (n8 ≤ 64 ∧ n9 ≤ 81) := by
            have h1 := ht8.kp.at_.n_le hf8.ok
            have h2 := hf8.width
            have h3 := HK.out
            have h4 := ht8.sn.len
            rw [nvs_len] at h4
            exact ⟨by omega, by omega⟩
          have hx0 := HT8.out.kp.c0
          have hx1 := HT8.out.kp.c1
          have hx2 := HT8.out.kp.c2
          have hy0 := HT8.out.y0
          have hy1 := HT8.out.y1
          have hy2 := HT8.out.y2
          clear ht8 hf8 hlk8 hl8 hlo8 hz8
          have hli := like15_any wc A8 n8 c8 W8 HT8.out.kp.at_ A9 n9 c9 V8 HT8.out.sn HLK8.out (by have := HNN.out.1; omega) (by have := HNN.out.2; omega)
          have HLI := Lib.hid hli
          clear hli
          go_wp2_with fail
          refine HLI.out.mono ?_
          rintro e w14 ⟨rfl, hb14⟩
          have HT14 := Lib.hid (HT8.out.next hb14)
          have hz0 := (hb14.cell (p := ⟨Z, 0, none⟩) (World.block_lt_of_cell? _ _ HZ8.out)).trans HZ8.out
          clear hx0 hx1 hx2 hy0 hy1 hy2 HLI hb14 HT8 HZ8
          have hx0 := HT14.out.kp.c0
          have hx1 := HT14.out.kp.c1
          have hx2 := HT14.out.kp.c2
          have hsa := winSame_b w14 A8 n8 c8 W8 HT14.out.kp.at_ A8 n8 c8 W8 HT14.out.kp.at_ true (sameW_refl W8)
          have HSA := Lib.hid hsa
          clear hsa
          go_wp2_with fail
          refine HSA.out.mono ?_
          rintro e w15 ⟨rfl, hb15⟩
          have HT15 := Lib.hid (HT14.out.next hb15)
          clear hx0 hx1 hx2 hb15 HT14 HSA hz0
          go_wp2
          go_roundg (n - (i + 1))
          case measure => omega
          case rel => exact ⟨i + 1, A8, n8, c8, W8, A9, n9, c9, V8, by omega, by go_num, HT15.out, HLK8.out, HF8.out.mono (by omega), HL8.out, by omega⟩
      · have h80I : (80 : Int) ≤ (i : Int) := by omega
        clear h80
        go_wp2
        go_ret
        exact ⟨rfl, HTX.out.kp.bel⟩
    · have hltI : ¬ (i : Int) < (n : Int) := by omega
      go_wp2
      go_ret
      exact ⟨rfl, HT.out.kp.bel⟩
theorem windowPlays_law (w : World) (a : Int) (ha : 0 ≤ a ∧ a ≤ 65535) (A : Option Addr) (n c : Nat) (L : List Aw) (hL : Aws w w.heap.size A n c L) :
    Calls Try.prog 3 #[.int .u16 a, .slice A n c] w (Says w (.bool true)) := by
  obtain ⟨x, rfl⟩ := Int.eq_ofNat_of_zero_le ha.1
  exact windowPlays_walk w x (by omega) A n c L hL
end Go.Proofs.Ythhmgbeigeagdaa
