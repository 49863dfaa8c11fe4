/-
  CONTRACTS of share's difference, has, Right, Excess.
  No statement is proved here.
-/
import Derived.Test.YtfmfamnngfanfaaShareOne
namespace Go.Proofs.Ytfmfamnngfanfaa
open Go.RowKit

set_option maxRecDepth 100000 in
set_option maxHeartbeats 1000000 in
theorem has_any (w : World) (A : Option Addr) (n c : Nat) (k : Int) :
    Calls Try.prog 51 #[.slice A n c, .int .i64 k] w fun e w' => e = .returned (.bool (decide (0 ≤ k) && decide (k < n))) ∧ w = w' := by
  by_cases h0 : 0 ≤ k
  · go_enter Try.func51, Try.ntmps51
    go_wp2_with fail
    go_ret
    simp [h0]
  · go_enter Try.func51, Try.ntmps51
    go_wp2_with fail
    go_ret
    simp
    omega
def okW (x : Int) : Bool := decide (1 ≤ x) && decide (x ≤ 1000)
def rightW (L : List Int) : Bool := L.all okW && decide (1 ≤ L.length) && decide (L.length ≤ 8)
def RightRel (w : World) (L : List Int) (n gk : Nat) (vi : Value) (wr : World) : Prop :=
  ∃ k, gk + k = n ∧ vi = .int .i64 (k : Int) ∧ (∀ x ∈ L.take k, okW x = true) ∧ w = wr
set_option maxRecDepth 100000 in
set_option maxHeartbeats 1000000 in
theorem shRight_any (w : World) (A : Option Addr) (n c : Nat) (L : List Int) (h : Is w w.heap.size A n c L) :
    Calls Try.prog 17 #[.slice A n c] w fun e w' => e = .returned (.bool (rightW L)) ∧ w = w' := by
  have H := Lib.hid h
  have HL := Lib.hid h.len
  have hn : n ≤ 9223372036854775807 := Nat.le_trans h.sn.le h.sn.max
  clear h
  go_enter Try.func17, Try.ntmps17
  go_wp2_with fail
  go_loopg [7] n (fun gk vi wr => RightRel w L n gk vi wr)
  case atStart => exact ⟨0, rfl, rfl, by simp, rfl⟩
  case round =>
    obtain ⟨k, hk, rfl, hall, rfl⟩ := hrel
    have HALL := Lib.hid hall
    clear hall
    by_cases hlt : k < n
    · obtain ⟨b, o, x, rfl, hb, hx, hc, hxr⟩ := H.out.at_ hlt
      have HX := Lib.hid hx
      clear hx
      have hbad : okW x = false → rightW L = false := fun h => by
        unfold rightW
        have : L.all okW = false := by
          rw [List.all_eq_false]
          exact ⟨x, List.mem_of_getElem? HX.out, by simp [h]⟩
        rw [this]; rfl
      have HBAD := Lib.hid hbad
      clear hbad
      by_cases h1 : x < 1
      · go_wp2_with fail
        go_ret
        rw [HBAD.out (by unfold okW; simp; omega)]
        exact ⟨rfl, rfl⟩
      · by_cases h2 : 1000 < x
        · go_wp2_with fail
          go_ret
          rw [HBAD.out (by unfold okW; simp; omega)]
          exact ⟨rfl, rfl⟩
        · go_wp2_with fail
          go_roundg (gk - 1)
          case measure => omega
          case rel =>
            refine ⟨k + 1, by omega, by go_num, fun y hy => ?_, rfl⟩
            rw [List.take_add_one, HX.out] at hy
            rcases List.mem_append.1 hy with hy | hy
            · exact HALL.out y hy
            · simp at hy
              subst hy
              unfold okW
              simp
              omega
    · have hT : L.all okW = true := by
        rw [List.all_eq_true]
        intro x hx
        exact HALL.out x (by rw [List.take_of_length_le (by have := HL.out; omega)]; exact hx)
      have HR : Hid (rightW L = (decide (1 ≤ (n : Int)) && decide ((n : Int) ≤ 8))) := by
        show _ = _
        unfold rightW
        rw [hT, HL.out, Bool.eq_iff_iff]
        simp
        omega
      clear hT
      by_cases h1 : (1 : Int) ≤ n
      · go_wp2_with fail
        go_ret
        rw [HR.out]
        simp [h1]
      · go_wp2_with fail
        go_ret
        rw [HR.out]
        simp
        omega
theorem and32 (n : Int) : bits .and .i64 n 4294967295 = n % 4294967296 := by
  have h7 : (BitVec.ofInt 64 4294967295).toNat = 2 ^ 32 - 1 := by decide
  have key : (BitVec.ofInt 64 n &&& BitVec.ofInt 64 4294967295).toNat = (n % ((2 ^ 64 : Nat) : Int)).toNat % 2 ^ 32 := by
    rw [BitVec.toNat_and, BitVec.toNat_ofInt, h7, Nat.and_two_pow_sub_one_eq_mod]
  show IntKind.i64.wrap ((BitVec.ofInt 64 n &&& BitVec.ofInt 64 4294967295).toNat : Nat) = n % 4294967296
  rw [key, IntKind.wrap_i64]
  omega
theorem or32 (h l : Int) (hh : -2147483648 ≤ h ∧ h ≤ 2147483647) (hl : 0 ≤ l ∧ l < 4294967296) : bits .or .i64 (h * 4294967296) l = h * 4294967296 + l := by
  have e1 : ((h * 4294967296) % ((2 ^ 64 : Nat) : Int)).toNat = 2 ^ 32 * (h % 4294967296).toNat := by omega
  have e2 : (l % ((2 ^ 64 : Nat) : Int)).toNat = l.toNat := by omega
  have key : (BitVec.ofInt 64 (h * 4294967296) ||| BitVec.ofInt 64 l).toNat = 2 ^ 32 * (h % 4294967296).toNat + l.toNat := by
    rw [BitVec.toNat_or, BitVec.toNat_ofInt, BitVec.toNat_ofInt, e1, e2, Nat.two_pow_add_eq_or_of_lt (by omega)]
  show IntKind.i64.wrap ((BitVec.ofInt 64 (h * 4294967296) ||| BitVec.ofInt 64 l).toNat : Nat) = _
  rw [key, IntKind.wrap_i64]
  omega
theorem w64 {x : Int} (h : -9223372036854775808 ≤ x ∧ x ≤ 9223372036854775807) : wrap64 x = x := by unfold wrap64; omega
theorem mul_in {x m X M : Int} (h1 : -X ≤ x ∧ x ≤ X) (h2 : 0 ≤ m ∧ m ≤ M) (_hX : 0 ≤ X) : -(X * M) ≤ x * m ∧ x * m ≤ X * M := by
  have a1 : x * m ≤ X * m := Int.mul_le_mul_of_nonneg_right h1.2 h2.1
  have a2 : X * m ≤ X * M := Int.mul_le_mul_of_nonneg_left h2.2 _hX
  have a3 : -X * m ≤ x * m := Int.mul_le_mul_of_nonneg_right h1.1 h2.1
  rw [Int.neg_mul] at a3
  omega
set_option maxRecDepth 100000 in
set_option maxHeartbeats 1000000 in
theorem diff_any (w : World) (a m b n : Int) (ha : -281474976710656 ≤ a ∧ a ≤ 281474976710656) (hm : 0 ≤ m ∧ m ≤ 8000) (hb : -281474976710656 ≤ b ∧ b ≤ 281474976710656) (hn : 0 ≤ n ∧ n ≤ 1000) :
    Calls Try.prog 96 #[.int .i64 a, .int .i64 m, .int .i64 b, .int .i64 n] w fun e w' => e = .returned (.int .i64 (a * m - b * n)) ∧ w = w' := by
  obtain ⟨al, hal⟩ : ∃ al, al = a % 4294967296 := ⟨_, rfl⟩
  obtain ⟨ah, hah⟩ : ∃ ah, ah = a / 4294967296 := ⟨_, rfl⟩
  obtain ⟨bl, hbl⟩ : ∃ bl, bl = b % 4294967296 := ⟨_, rfl⟩
  obtain ⟨bh, hbh⟩ : ∃ bh, bh = b / 4294967296 := ⟨_, rfl⟩
  obtain ⟨P1, hP1⟩ : ∃ x, x = al * m := ⟨_, rfl⟩
  obtain ⟨P2, hP2⟩ : ∃ x, x = bl * n := ⟨_, rfl⟩
  obtain ⟨Q1, hQ1⟩ : ∃ x, x = ah * m := ⟨_, rfl⟩
  obtain ⟨Q2, hQ2⟩ : ∃ x, x = bh * n := ⟨_, rfl⟩
  have b1 := mul_in (x := al) (m := m) (X := 4294967296) (M := 8000) (by omega) hm (by omega)
  have b2 := mul_in (x := bl) (m := n) (X := 4294967296) (M := 1000) (by omega) hn (by omega)
  have b3 := mul_in (x := ah) (m := m) (X := 65536) (M := 8000) (by omega) hm (by omega)
  have b4 := mul_in (x := bh) (m := n) (X := 65536) (M := 1000) (by omega) hn (by omega)
  rw [← hP1] at b1
  rw [← hP2] at b2
  rw [← hQ1] at b3
  rw [← hQ2] at b4
  have etot : a * m - b * n = 4294967296 * (Q1 - Q2) + (P1 - P2) := by
    have h1 : a = 4294967296 * ah + al := by omega
    have h2 : b = 4294967296 * bh + bl := by omega
    have h3 : a * m = 4294967296 * Q1 + P1 := by rw [h1, Int.add_mul, Int.mul_assoc, ← hQ1, ← hP1]
    have h4 : b * n = 4294967296 * Q2 + P2 := by rw [h2, Int.add_mul, Int.mul_assoc, ← hQ2, ← hP2]
    omega
  obtain ⟨T, hT⟩ : ∃ T, T = a * m - b * n := ⟨_, rfl⟩
  rw [← hT]
  rw [← hT] at etot
  clear hT
  have ea : bits .and .i64 a 4294967295 = al := by rw [and32, hal]
  have eb : bits .and .i64 b 4294967295 = bl := by rw [and32, hbl]
  have ec : a / 4294967296 = ah := hah.symm
  have ed : b / 4294967296 = bh := hbh.symm
  have w1 : wrap64 (al * m) = P1 := by rw [← hP1]; exact w64 (by omega)
  have w2 : wrap64 (bl * n) = P2 := by rw [← hP2]; exact w64 (by omega)
  have w3 : wrap64 (ah * m) = Q1 := by rw [← hQ1]; exact w64 (by omega)
  have w4 : wrap64 (bh * n) = Q2 := by rw [← hQ2]; exact w64 (by omega)
  obtain ⟨Lo, hLo⟩ : ∃ x, x = P1 - P2 := ⟨_, rfl⟩
  obtain ⟨Hi, hHi⟩ : ∃ x, x = Q1 - Q2 + Lo / 4294967296 := ⟨_, rfl⟩
  obtain ⟨Mk, hMk⟩ : ∃ x, x = Lo % 4294967296 := ⟨_, rfl⟩
  have e5 : bits .and .i64 Lo 4294967295 = Mk := by rw [and32, hMk]
  have hHb : -2147483648 ≤ Hi ∧ Hi ≤ 2147483647 := by omega
  have hres : bits .or .i64 (Hi * 4294967296) Mk = T := by rw [or32 Hi Mk hHb (by omega)]; omega
  have h8 : wrap64 (Hi * 4294967296) = Hi * 4294967296 := w64 (by omega)
  have e6 : wrap64 (P1 - P2) = Lo := by rw [← hLo]; exact w64 (by omega)
  have e7 : wrap64 (Q1 - Q2) = Q1 - Q2 := w64 (by omega)
  have e8 : wrap64 (Q1 - Q2 + Lo / 4294967296) = Hi := by rw [← hHi]; exact w64 (by omega)
  have HX := Lib.hid (And.intro hres h8)
  have d1 : decide (2147483647 < Hi) = false := by simp; omega
  have d2 : decide (Hi < -2147483648) = false := by simp; omega
  clear hal hah hbl hbh hP1 hP2 hQ1 hQ2 b1 b2 b3 b4 etot hLo hHi hMk hres h8 ha hb hHb
  go_enter Try.func96, Try.ntmps96
  go_wp2_with fail
  go_ret
  refine ⟨?_, rfl⟩
  have h1 := HX.out.1
  have h2 := HX.out.2
  show Ending.returned (.int .i64 (bits .or .i64 (wrap64 (Hi * 4294967296)) Mk)) = _
  rw [h2, h1]
def excW (cap : Int) (L : List Int) (k b : Int) : Int := if rightW L = true ∧ 0 ≤ k ∧ k < L.length then b * isum L - cap * L.getD k.toNat 0 else 0
theorem right_facts {L : List Int} (h : rightW L = true) : 1 ≤ L.length ∧ L.length ≤ 8 ∧ (∀ x ∈ L, 1 ≤ x ∧ x ≤ 1000) ∧ Small L ∧ isum L ≤ 8000 := by
  unfold rightW at h
  simp only [Bool.and_eq_true, List.all_eq_true, decide_eq_true_eq] at h
  obtain ⟨⟨h1, h2⟩, h3⟩ := h
  have h4 : ∀ x ∈ L, 1 ≤ x ∧ x ≤ 1000 := fun x hx => by have := h1 x hx; unfold okW at this; simpa using this
  have h5 : ∀ M : List Int, (∀ x ∈ M, 1 ≤ x ∧ x ≤ 1000) → isum M ≤ 1000 * M.length := by
    intro M
    induction M with
    | nil => intro _; simp [isum]
    | cons x M ih =>
      intro hM
      have a := ih (fun y hy => hM y (List.mem_cons_of_mem _ hy))
      have b := hM x List.mem_cons_self
      rw [isum_cons, List.length_cons]
      omega
  have h6 := h5 L h4
  exact ⟨h2, h3, h4, ⟨fun x hx => by have := h4 x hx; omega, by omega⟩, by omega⟩
set_option maxRecDepth 100000 in
set_option maxHeartbeats 1000000 in
theorem exc_any (w : World) (cap : Int) (A : Option Addr) (n c : Nat) (L : List Int) (k b : Int) (h : Is w w.heap.size A n c L) (hcap : -281474976710656 ≤ cap ∧ cap ≤ 281474976710656) (hb : -281474976710656 ≤ b ∧ b ≤ 281474976710656) :
    Calls Try.prog 78 #[.int .i64 cap, .slice A n c, .int .i64 k, .int .i64 b] w (Says w (.int .i64 (excW cap L k b))) := by
  have H := Lib.hid h
  have HL := Lib.hid h.len
  clear h
  by_cases hr : rightW L = true
  · have HF := Lib.hid (right_facts hr)
    by_cases hk : 0 ≤ k ∧ k < (n : Int)
    · obtain ⟨hk0, hk1⟩ := hk
      have hd : (decide (0 ≤ k) && decide (k < (n : Int))) = true := by simp [hk0, hk1]
      obtain ⟨j, rfl⟩ := Int.eq_ofNat_of_zero_le hk0
      obtain ⟨blk, o, x, rfl, hbl, hx, hc, hxr⟩ := H.out.at_ (j := j) (by omega)
      have hxx := HF.out.2.2.1 x (List.mem_of_getElem? hx)
      have he : excW cap L j b = b * isum L - cap * x := by
        unfold excW
        rw [if_pos ⟨hr, by omega, by have := HL.out; omega⟩]
        simp [hx]
      have HE := Lib.hid he
      have HR := Lib.hid hr
      have HD := Lib.hid hd
      have hS := HF.out.2.2.2.1
      have hS2 := HF.out.2.2.2.2
      have hS3 := isum_nn hS.nn
      have HS := Lib.hid hS
      clear he hr hd hx hS
      go_enter Try.func78, Try.ntmps78
      go_wp2_with fail
      refine (shRight_any w _ n c L H.out).mono ?_
      rintro e w1 ⟨rfl, rfl⟩
      rw [HR.out]
      go_wp2_with fail
      refine (has_any w _ n c j).mono ?_
      rintro e w1 ⟨rfl, rfl⟩
      rw [HD.out]
      go_wp2_with fail
      go_quiet (first | (go_at_call 79; exact Calls.quiet_of_same ((sum_any _ _ n c L (H.out.drewN _) HS.out).mono fun _ _ h => ⟨h.1, h.2.symm⟩)) | (go_at_call 96; exact Calls.quiet_of_same ((diff_any _ _ _ _ _ hb (And.intro hS3 hS2) hcap (And.intro (by omega) hxx.2)).mono fun _ _ h => ⟨h.1, h.2.symm⟩)))
      go_wp2_with fail
      go_ret
      refine ⟨by rw [HE.out]; rfl, below_drewN (Below.refl _ _) _⟩
    · have hd : (decide (0 ≤ k) && decide (k < (n : Int))) = false := by simp; omega
      have he : excW cap L k b = 0 := by
        unfold excW
        rw [if_neg (fun h => hk ⟨h.2.1, by have := HL.out; omega⟩)]
      have HE := Lib.hid he
      have HR := Lib.hid hr
      have HD := Lib.hid hd
      clear he hr hd
      go_enter Try.func78, Try.ntmps78
      go_wp2_with fail
      refine (shRight_any w A n c L H.out).mono ?_
      rintro e w1 ⟨rfl, rfl⟩
      rw [HR.out]
      go_wp2_with fail
      refine (has_any w A n c k).mono ?_
      rintro e w1 ⟨rfl, rfl⟩
      rw [HD.out]
      go_wp2_with fail
      go_ret
      exact ⟨by rw [HE.out]; rfl, Below.refl _ _⟩
  · have hr2 : rightW L = false := by simpa using hr
    have he : excW cap L k b = 0 := by
      unfold excW
      rw [if_neg (fun h => hr h.1)]
    have HE := Lib.hid he
    have HR := Lib.hid hr2
    clear he hr hr2
    go_enter Try.func78, Try.ntmps78
    go_wp2_with fail
    refine (shRight_any w A n c L H.out).mono ?_
    rintro e w1 ⟨rfl, rfl⟩
    rw [HR.out]
    go_wp2_with fail
    go_ret
    exact ⟨by rw [HE.out]; rfl, Below.refl _ _⟩
end Go.Proofs.Ytfmfamnngfanfaa
