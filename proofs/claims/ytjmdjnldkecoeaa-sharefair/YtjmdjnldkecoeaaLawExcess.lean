/-
  THE WALK of ShareExcess.
-/
import Derived.Test.YtjmdjnldkecoeaaShareSmall
namespace Go.Proofs.Ytjmdjnldkecoeaa
open Go.RowKit Go.Sort

/-- A call of this law hands back true, and nothing that was there has turned. -/
theorem excW_at {cap b : Int} {W : List Int} {k : Nat} {x : Int} (h : rightW W = true) (hx : W[k]? = some x) : excW cap W k b = b * isum W - cap * x := by
  have hl := (List.getElem?_eq_some_iff.1 hx).1
  unfold excW
  rw [if_pos ⟨h, by omega, by omega⟩]
  simp [hx]
theorem excW_out {cap b k : Int} {W : List Int} (h : ¬ (0 ≤ k ∧ k < W.length)) : excW cap W k b = 0 := by
  unfold excW
  rw [if_neg (fun e => h e.2)]
def ERel (w w2 : World) (W : List Int) (cap : Int) (n gk : Nat) (vs va vi : Value) (wr : World) : Prop :=
  ∃ (k : Nat) (sm al : Int), gk + k = n ∧ vs = .int .i64 sm ∧ va = .int .i64 al ∧ vi = .int .i64 (k : Int) ∧ sm = al * isum W - cap * isum (W.take k) ∧ 0 ≤ al ∧ al ≤ k * 4294967296 ∧ RowKit.Below w.heap.size w wr ∧ RowKit.Below w2.heap.size w2 wr
set_option maxRecDepth 100000 in
set_option maxHeartbeats 4000000 in
theorem shareExcess_law (w : World) (cap : Int) (_hcap : -9223372036854775808 ≤ cap ∧ cap ≤ 9223372036854775807) (Au : Option Addr) (nu cu : Nat) (U : List Nat) (hu : Us .u16 65536 w w.heap.size Au nu cu U)
    (Ab : Option Addr) (nb cb : Nat) (Bs : List Nat) (hbs : Us .u32 4294967296 w w.heap.size Ab nb cb Bs) (cl : Int) (_hcl : -9223372036854775808 ≤ cl ∧ cl ≤ 9223372036854775807) :
    Calls Try.prog 6 #[.int .i64 cap, .slice Au nu cu, .slice Ab nb cb, .int .i64 cl] w (Says w (.bool true)) := by
  clear _hcl
  have HU := Lib.hid hu
  have HBS := Lib.hid hbs
  have hnb : nb ≤ 9223372036854775807 := Nat.le_trans hbs.sn.le hbs.sn.max
  obtain ⟨cp, hcp⟩ : ∃ cp, cp = cap.tmod 1099511627776 := ⟨_, rfl⟩
  have hcp2 : -1099511627776 < cp ∧ cp < 1099511627776 := by
    rw [hcp]
    have := Int.tmod_lt_of_pos cap (show (0 : Int) < 1099511627776 by omega)
    have := Int.lt_tmod_of_pos cap (show (0 : Int) < 1099511627776 by omega)
    omega
  have HCP : Hid (wrap64 (cap.tmod 1099511627776) = cp) := by show _ = _; rw [← hcp]; exact w64 (by omega)
  have HCP1 := Lib.hid hcp
  clear hu hbs hcp
  go_enter Try.func6, Try.ntmps6
  go_wp2_with fail
  refine (awake8_any _).mono ?_
  rintro e w1 ⟨rfl, hb1⟩
  go_wp2_with fail
  refine (small_nil w1 Au nu cu U (HU.out.on hb1 (Nat.le_refl _))).mono ?_
  rintro e w2 ⟨room, A, n, c, Aq, nq, cq, R, cls, sz, rfl, hm⟩
  have HWI := Lib.hid hm.wi
  have HB2 := Lib.hid (hb1.trans (hm.bel.mono hb1.size))
  have HWL := Lib.hid hm.wi.len
  clear hm hb1
  have HR := Lib.hid (wOf_right U)
  obtain ⟨W, HW⟩ : ∃ W, Hid (W = wOf U) := ⟨_, rfl⟩
  rw [← HW.out] at HWI HWL HR
  have HF := Lib.hid (right_facts HR.out)
  have hn8 : n ≤ 8 := by have := HF.out.2.1; have := HWL.out; omega
  go_wp2_with fail
  rw [← HCP1.out]
  go_loopg [14, 15, 33] n (fun gk vs va vi wr => ERel w w2 W cp n gk vs va vi wr)
  case atStart => exact ⟨0, 0, 0, by omega, rfl, rfl, rfl, by simp [isum], by omega, by omega, HB2.out, RowKit.Below.refl _ _⟩
  case round =>
    obtain ⟨k, sm, al, hgk, rfl, rfl, rfl, hsm, hal0, hal1, hbel, hbw⟩ := hrel
    have HSM := Lib.hid hsm
    have HBEL := Lib.hid hbel
    have HBW := Lib.hid hbw
    have hS0 := isum_nn HF.out.2.2.2.1.nn
    have hS1 := HF.out.2.2.2.2
    have hT := isum_pre HF.out.2.2.2.1.nn k
    have m1 := mul_in (x := al) (m := isum W) (X := 34359738368) (M := 8000) (by omega) ⟨hS0, hS1⟩ (by omega)
    have m2 := mul_in (x := cp) (m := isum (W.take k)) (X := 1099511627776) (M := 8000) (by omega) ⟨by omega, by omega⟩ (by omega)
    have hsmb : -9007199254740992000 ≤ sm ∧ sm ≤ 9007199254740992000 := by omega
    have hsmb2 : -18014398509481984 ≤ sm ∧ sm ≤ 18014398509481984 := by omega
    clear hsm hbel hbw m1 m2 hsmb
    by_cases hlt : k < n
    · obtain ⟨b0, o0, x, hA, _, hx, _, _⟩ := HWI.out.at_ hlt
      have hxx := HF.out.2.2.1 x (List.mem_of_getElem? hx)
      have HTK := Lib.hid (isum_take hx)
      have HXE := fun b => excW_at (cap := cp) (b := b) HR.out hx
      clear hx hA hT
      by_cases hkb : k < nb
      · obtain ⟨b1, o1, y, rfl, _, _, hyc, hyM⟩ := (HBS.out.on HBEL.out (Nat.le_refl _)).at_ hkb
        have hkbI : (k : Int) < (nb : Int) := by omega
        have n1 := mul_in (x := (y : Int)) (m := isum W) (X := 4294967296) (M := 8000) (by omega) ⟨hS0, hS1⟩ (by omega)
        have n2 := mul_in (x := cp) (m := x) (X := 1099511627776) (M := 1000) (by omega) ⟨by omega, hxx.2⟩ (by omega)
        obtain ⟨X, HX⟩ : ∃ X : Int, Hid (X = (y : Int) * isum W - cp * x) := ⟨_, rfl⟩
        have HEX : Hid (excW cp W k y = X) := by show _ = _; rw [HX.out]; exact HXE y
        have hXb : -9007199254740992 ≤ X ∧ X ≤ 9007199254740992 := by have := HX.out; omega
        clear HXE n1 n2
        have hcalls := exc_any wr cp A n c W k (y : Int) (HWI.out.on HBW.out (Nat.le_refl _)) (by omega) (by omega)
        rw [HEX.out] at hcalls
        have HC1 := Lib.hid hcalls
        clear hcalls
        go_wp2_with fail
        refine HC1.out.mono ?_
        rintro e w4 ⟨rfl, hb4⟩
        have HB4 := Lib.hid hb4
        have HBW4 := Lib.hid (HBW.out.trans (hb4.mono HBW.out.size))
        clear hb4
        have hcalls := refExc_any w4 cp A n c W k (y : Int) (HWI.out.on HBW4.out (Nat.le_refl _)) (by omega) (by omega)
        rw [HEX.out] at hcalls
        have HC2 := Lib.hid hcalls
        clear hcalls
        go_wp2_with fail
        refine HC2.out.mono ?_
        rintro e w5 ⟨rfl, hb5⟩
        have HBW5 := Lib.hid (HBW4.out.trans (hb5.mono HBW4.out.size))
        have HB5 := Lib.hid ((HBEL.out.trans (HB4.out.mono HBEL.out.size)).trans (hb5.mono (Nat.le_trans HBEL.out.size HB4.out.size)))
        clear hb5
        go_wp2_with fail
        go_roundg (gk - 1)
        case measure => omega
        case rel =>
          refine ⟨k + 1, sm + X, al + (y : Int), by omega, rfl, rfl, by go_num, ?_, by omega, by omega, HB5.out, HBW5.out⟩
          rw [HTK.out, HSM.out, HX.out, Int.mul_add, Int.add_mul]
          omega
      · have hkbI : ¬ (k : Int) < (nb : Int) := by omega
        have n2 := mul_in (x := cp) (m := x) (X := 1099511627776) (M := 1000) (by omega) ⟨by omega, hxx.2⟩ (by omega)
        obtain ⟨X, HX⟩ : ∃ X : Int, Hid (X = 0 * isum W - cp * x) := ⟨_, rfl⟩
        have HEX : Hid (excW cp W k 0 = X) := by show _ = _; rw [HX.out]; exact HXE 0
        have hXb : -9007199254740992 ≤ X ∧ X ≤ 9007199254740992 := by have := HX.out; omega
        clear HXE n2
        have hcalls := exc_any wr cp A n c W k 0 (HWI.out.on HBW.out (Nat.le_refl _)) (by omega) (by omega)
        rw [HEX.out] at hcalls
        have HC1 := Lib.hid hcalls
        clear hcalls
        go_wp2_with fail
        refine HC1.out.mono ?_
        rintro e w4 ⟨rfl, hb4⟩
        have HB4 := Lib.hid hb4
        have HBW4 := Lib.hid (HBW.out.trans (hb4.mono HBW.out.size))
        clear hb4
        have hcalls := refExc_any w4 cp A n c W k 0 (HWI.out.on HBW4.out (Nat.le_refl _)) (by omega) (by omega)
        rw [HEX.out] at hcalls
        have HC2 := Lib.hid hcalls
        clear hcalls
        go_wp2_with fail
        refine HC2.out.mono ?_
        rintro e w5 ⟨rfl, hb5⟩
        have HBW5 := Lib.hid (HBW4.out.trans (hb5.mono HBW4.out.size))
        have HB5 := Lib.hid ((HBEL.out.trans (HB4.out.mono HBEL.out.size)).trans (hb5.mono (Nat.le_trans HBEL.out.size HB4.out.size)))
        clear hb5
        go_wp2_with fail
        go_roundg (gk - 1)
        case measure => omega
        case rel =>
          refine ⟨k + 1, sm + X, al, by omega, rfl, rfl, by go_num, ?_, by omega, by omega, HB5.out, HBW5.out⟩
          rw [HTK.out, HSM.out, HX.out, Int.mul_add, Int.zero_mul]
          omega
    · obtain rfl : k = n := by omega
      have HT := Lib.hid (List.take_of_length_le (l := W) (i := k) (by have := HWL.out; omega))
      have m3 := mul_in (x := al - cp) (m := isum W) (X := 1134907106097) (M := 8000) (by omega) ⟨hS0, hS1⟩ (by omega)
      have HEQ : Hid (sm = wrap64 ((al - cp) * isum W)) := by
        show _ = _
        rw [w64 (by omega), HSM.out, HT.out, Int.sub_mul]
      have HSS := Lib.hid HF.out.2.2.2.1
      have HO : Hid (∀ w', Calls Try.prog 23 #[.int .i64 cp, .slice none 0 0, .int .i64 0, .int .i64 5] w' (Says w' (.int .i64 0))) := fun w' => by
        have h := exc_any w' cp none 0 0 [] 0 5 (Is.nil_ _ _ _ _ (Nat.zero_le _)) (by omega) (by omega)
        rw [excW_out (by simp)] at h
        exact h
      have HI := Lib.hid (HWI.out.on HBW.out (Nat.le_refl _))
      clear m3 hT
      go_wp2_with fail
      refine (refSum_any wr A k c W HI.out HSS.out).mono ?_
      rintro e w4 ⟨rfl, rfl⟩
      have hd : (sm == wrap64 ((al - cp) * isum W)) = true := by rw [← HEQ.out]; simp
      by_cases h0 : 0 ≤ cl
      · by_cases h1 : cl < (k : Int)
        · go_wp2_with fail
          refine (HO.out _).mono ?_
          rintro e w6 ⟨rfl, hb6⟩
          have HB6 := Lib.hid hb6
          clear hb6
          go_wp2_with fail
          go_ret
          exact ⟨rfl, HBEL.out.trans (HB6.out.mono HBEL.out.size)⟩
        · have hout := exc_any wr cp A k c W cl 5 HI.out (by omega) (by omega)
          rw [excW_out (by have := HWL.out; omega)] at hout
          have HOC := Lib.hid hout
          clear hout
          go_wp2_with fail
          refine HOC.out.mono ?_
          rintro e w5 ⟨rfl, hb5⟩
          have HB5 := Lib.hid (HBEL.out.trans (hb5.mono HBEL.out.size))
          clear hb5
          go_wp2_with fail
          refine (HO.out _).mono ?_
          rintro e w6 ⟨rfl, hb6⟩
          have HB6 := Lib.hid hb6
          clear hb6
          go_wp2_with fail
          go_ret
          exact ⟨rfl, HB5.out.trans (HB6.out.mono HB5.out.size)⟩
      · have hout := exc_any wr cp A k c W cl 5 HI.out (by omega) (by omega)
        rw [excW_out (by omega)] at hout
        have HOC := Lib.hid hout
        clear hout
        go_wp2_with fail
        refine HOC.out.mono ?_
        rintro e w5 ⟨rfl, hb5⟩
        have HB5 := Lib.hid (HBEL.out.trans (hb5.mono HBEL.out.size))
        clear hb5
        go_wp2_with fail
        refine (HO.out _).mono ?_
        rintro e w6 ⟨rfl, hb6⟩
        have HB6 := Lib.hid hb6
        clear hb6
        go_wp2_with fail
        go_ret
        exact ⟨rfl, HB5.out.trans (HB6.out.mono HB5.out.size)⟩
end Go.Proofs.Ytjmdjnldkecoeaa
