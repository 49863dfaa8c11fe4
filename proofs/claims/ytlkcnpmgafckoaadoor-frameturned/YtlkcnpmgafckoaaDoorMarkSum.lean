/-
  CONTRACTS: mark.More, mark.Sum, the reference's Sum, the law's own awake.
  No statement is proved here.
-/
import Derived.Test.YtlkcnpmgafckoaaDoorRefOne
import Derived.Test.YtlkcnpmgafckoaaDoorMarkMath
import Derived.Test.YtlkcnpmgafckoaaDoorBytesEq
import Derived.Laws.BitsAllLaws
import Derived.Lib.SlBytesConst
namespace Go.Proofs.YtlkcnpmgafckoaaDoor
open Go.RowKit

/-- The table lies in the first block, as the program's text lays it. -/
structure TabAt (w : World) : Prop where
  cell : ∀ i, i < 16 → w.cell? ⟨0, i, none⟩ = some (.int .u32 (hv i : Int))
theorem TabAt.pos {w : World} (h : TabAt w) : 0 < w.heap.size := World.block_lt_of_cell? w _ (h.cell 0 (by omega))
theorem TabAt.below {w w' : World} (h : TabAt w) (hb : Below w.heap.size w w') : TabAt w' := ⟨fun i hi => (hb.cell (p := ⟨0, i, none⟩) h.pos).trans (h.cell i hi)⟩
theorem TabAt.alloc {w : World} (h : TabAt w) (o : Obj) : TabAt (w.alloc o) := h.below ((Below.refl _ w).alloc (Nat.le_refl _) o)
theorem TabAt.drewN {w : World} (h : TabAt w) (n : Nat) : TabAt (w.drewN n) := ⟨h.cell⟩

theorem Sl.getD {w : World} {B : Nat} {A : Option Addr} {n c : Nat} {l : List UInt8} (h : Sl w B A n c l) (j : Nat) : j < n → l[j]? = some (l.getD j 0) := fun hj => by
  have := h.len
  rw [List.getD_eq_getElem?_getD, List.getElem?_eq_getElem (by omega)]
  rfl
theorem not_u32 {s : Nat} (h : s < two32) : bits .xor .u32 IntKind.u32.max (s : Int) = ((4294967295 - s : Nat) : Int) := by
  have e : IntKind.u32.max = ((4294967295 : Nat) : Int) := by decide
  rw [e, u32_xor_nat 4294967295 s (by omega) h, all_xor h]
theorem and15 (y : Nat) (h : y < two32) : bits .and .u32 (y : Int) 15 = ((y % 16 : Nat) : Int) := by
  have e := u32_and_nat y 15 h (by omega)
  rw [show (15 : Nat) = 2 ^ 4 - 1 from rfl, Nat.and_two_pow_sub_one_eq_mod] at e
  exact e
theorem nib_u32 (y h : Nat) (hy : y < two32) (hh : h < two32) : bits .xor .u32 ((y : Int) / 16) (h : Int) = ((y / 16 ^^^ h : Nat) : Int) :=
  u32_xor_nat (y / 16) h (by unfold two32 at hy; omega) hh

def MoreRel (w : World) (l : List UInt8) (r0 n : Nat) (k : Nat) (r i : Value) (wr : World) : Prop :=
  ∃ (j : Nat), k + j = n ∧ i = .int .i64 (j : Int) ∧ r = .int .u32 ((run r0 (l.take j) : Nat) : Int) ∧ w = wr

set_option maxRecDepth 100000 in
set_option maxHeartbeats 400000 in
theorem more_any (w : World) (B : Nat) (A : Option Addr) (n c s : Nat) (l : List UInt8) (ht : TabAt w) (hs : Sl w B A n c l) (hsum : s < two32) :
    Calls Tryd.prog 82 #[.int .u32 (s : Int), .slice A n c] w fun e w' => e = .returned (.int .u32 ((more s l : Nat) : Int)) ∧ w = w' := by
  have hmax := hs.max
  have hle := hs.le
  unfold maxLen at hmax
  have HS := Lib.hid hs; clear hs
  have HT := Lib.hid ht; clear ht
  have HSUM := Lib.hid hsum; clear hsum
  go_enter Tryd.func82, Tryd.ntmps82
  have e0 := not_u32 HSUM.out
  obtain ⟨q, hq⟩ : ∃ q, q = 4294967295 - s := ⟨_, rfl⟩
  rw [← hq] at e0
  have HQ := Lib.hid hq; clear hq
  have HQL : Hid (q < two32) := by have h := HQ.out; show _ < _; unfold two32; omega
  go_wp2
  go_loopg [5, 12] n (fun k r i wr => MoreRel w l q n k r i wr)
  case atStart => exact ⟨0, by omega, rfl, by simp [run], rfl⟩
  case round =>
    clear e0
    obtain ⟨j, hj, rfl, rfl, rfl⟩ := hrel
    have HJ := Lib.hid hj; clear hj
    have HRL := Lib.hid (run_lt (l.take j) HQL.out)
    by_cases hlt : j < n
    · obtain ⟨b, o, x, rfl, _, hx, hc⟩ := HS.out.at_ hlt
      have hx8 := x.toNat_lt
      have HN : Hid (run q (l.take (j + 1)) = stN 8 (run q (l.take j) ^^^ x.toNat)) := by
        show _ = _
        rw [take_snoc hx, run_snoc]; rfl
      clear hx
      generalize run q (l.take j) = r at *
      have e1 : bits .xor .u32 (r : Int) (x.toNat : Int) = ((r ^^^ x.toNat : Nat) : Int) := u32_xor_nat r x.toNat HRL.out (by omega)
      have HYL : Hid (r ^^^ x.toNat < two32) := xor_lt HRL.out (by unfold two32; omega)
      generalize r ^^^ x.toNat = y at *
      have e2 := and15 y HYL.out
      have hm1 : y % 16 < 16 := Nat.mod_lt _ (by omega)
      have c1 := HT.out.cell _ hm1
      have e3 := nib_u32 y (hv (y % 16)) HYL.out (hv_lt hm1)
      have HZL : Hid (y / 16 ^^^ hv (y % 16) < two32) := xor_lt (by have := HYL.out; omega) (hv_lt hm1)
      have HF := Lib.hid (two_nibs y)
      generalize y / 16 ^^^ hv (y % 16) = z at *
      generalize hv (y % 16) = h1 at *
      generalize y % 16 = m1 at *
      have e4 := and15 z HZL.out
      have hm2 : z % 16 < 16 := Nat.mod_lt _ (by omega)
      have c2 := HT.out.cell _ hm2
      have e5 := nib_u32 z (hv (z % 16)) HZL.out (hv_lt hm2)
      rw [HF.out, ← HN.out] at e5
      generalize hv (z % 16) = h2 at *
      generalize z % 16 = m2 at *
      clear HF HN HYL HZL
      go_wp2
      go_roundg (gk - 1)
      case measure => have := HJ.out; omega
      case rel => exact ⟨j + 1, by have := HJ.out; omega, by go_num, rfl, rfl⟩
    · have HN : Hid (l.take j = l) := List.take_of_length_le (by have := HJ.out; have := HS.out.len; omega)
      have e6 := not_u32 HRL.out
      rw [HN.out] at e6 ⊢
      have HM : Hid (4294967295 - run q l = more s l) := by show _ = _; rw [HQ.out]; rfl
      rw [HM.out] at e6
      go_wp2
      go_ret
      exact ⟨rfl, rfl⟩

theorem sum_any (w : World) (B : Nat) (A : Option Addr) (n c : Nat) (l : List UInt8) (ht : TabAt w) (hs : Sl w B A n c l) :
    Calls Tryd.prog 61 #[.slice A n c] w fun e w' => e = .returned (.int .u32 ((sum l : Nat) : Int)) ∧ w = w' := by
  have h := more_any w B A n c 0 l ht hs (by decide)
  rw [more_zero] at h
  have HH := Lib.hid h; clear h
  go_enter Tryd.func61, Tryd.ntmps61
  go_wp2_with fail
  refine HH.out.mono ?_
  rintro e w' ⟨rfl, rfl⟩
  go_wp2
  go_ret
  exact ⟨rfl, rfl⟩

theorem cast_bit (x i : Nat) : (x : Int) / 2 ^ i % 2 = ((x / 2 ^ i % 2 : Nat) : Int) := by simp
theorem cast_mod (r : Nat) : (r : Int) % 2 = ((r % 2 : Nat) : Int) := by omega
theorem half_u32 (r : Nat) (h : r < two32) : Value.int .u32 ((r : Int) / 2 % 4294967296) = Value.int .u32 ((r / 2 : Nat) : Int) := by
  unfold two32 at h
  congr 1
  omega
theorem half_poly (r : Nat) (h : r < two32) : Value.int .u32 (bits .xor .u32 ((r : Int) / 2 % 4294967296) 3988292384) = Value.int .u32 ((r / 2 ^^^ poly : Nat) : Int) := by
  unfold two32 at h
  have e : (r : Int) / 2 % 4294967296 = ((r / 2 : Nat) : Int) := by omega
  rw [e]
  have := u32_xor_nat (r / 2) poly (by omega) poly_lt
  congr 1

/-! ### The reference's Sum: bit by bit -/
def SumRel (w : World) (l : List UInt8) (n : Nat) (k : Nat) (r i : Value) (wr : World) : Prop :=
  ∃ (j : Nat), k + j = n ∧ i = .int .i64 (j : Int) ∧ r = .int .u32 ((run 4294967295 (l.take j) : Nat) : Int) ∧ w = wr
def BitRel (w : World) (x r0 : Nat) (k : Nat) (r i : Value) (wr : World) : Prop :=
  ∃ (j r' : Nat), k + j = 8 ∧ i = .int .i64 (j : Int) ∧ r = .int .u32 (r' : Int) ∧ r' < two32 ∧ r' ^^^ (x / 2 ^ j) = stN j (r0 ^^^ x) ∧ w = wr

set_option maxRecDepth 100000 in
set_option maxHeartbeats 400000 in
theorem refSum_any (w : World) (B : Nat) (A : Option Addr) (n c : Nat) (l : List UInt8) (hs : Sl w B A n c l) :
    Calls Tryd.prog 49 #[.slice A n c] w fun e w' => e = .returned (.int .u32 ((sum l : Nat) : Int)) ∧ w = w' := by
  have hmax := hs.max
  have hle := hs.le
  unfold maxLen at hmax
  have HS := Lib.hid hs; clear hs
  go_enter Tryd.func49, Tryd.ntmps49
  go_wp2
  go_loopg [3, 10] n (fun k r i wr => SumRel w l n k r i wr)
  case atStart => exact ⟨0, by omega, rfl, rfl, rfl⟩
  case round =>
    obtain ⟨j, hj, rfl, rfl, rfl⟩ := hrel
    have HJ := Lib.hid hj; clear hj
    have HRL := Lib.hid (run_lt (l.take j) (r := 4294967295) (by decide))
    by_cases hlt : j < n
    · obtain ⟨b, o, x, rfl, _, hx, hc⟩ := HS.out.at_ hlt
      have hx8 := x.toNat_lt
      have HN : Hid (run 4294967295 (l.take (j + 1)) = stN 8 (run 4294967295 (l.take j) ^^^ x.toNat)) := by
        show _ = _
        rw [take_snoc hx, run_snoc]; rfl
      clear hx
      generalize run 4294967295 (l.take j) = r at *
      go_wp2
      go_loopg [3, 6] 8 (fun k r' i wr => BitRel w x.toNat r k r' i wr)
      case atStart => exact ⟨0, r, by omega, rfl, rfl, HRL.out, by simp [stN], rfl⟩
      case round =>
        obtain ⟨i, r', hi, rfl, rfl, hr', hst, rfl⟩ := hrel
        have HI := Lib.hid hi; clear hi
        have HST := Lib.hid hst; clear hst
        have HRL' := Lib.hid hr'; clear hr'
        by_cases hlt8 : i < 8
        · have HSS : Hid (bitGo x.toNat i r' ^^^ (x.toNat / 2 ^ (i + 1)) = stN (i + 1) (r ^^^ x.toNat)) := by
            show _ = _
            rw [bit_step x.toNat i r' _ HST.out, stN_succ]
          have HI' := HI.out
          by_cases hun : r' % 2 = x.toNat / 2 ^ i % 2
          · have hq : ((r' : Int) % 2 != (x.toNat : Int) / 2 ^ i % 2) = false := by rw [cast_bit, cast_mod, hun]; simp
            have hb : bitGo x.toNat i r' = r' / 2 := by unfold bitGo; rw [if_pos hun, Nat.xor_zero]
            have HB := Lib.hid hb
            have HV := Lib.hid (half_u32 r' HRL'.out)
            clear hun hb
            go_wp2
            go_roundg (gk - 1)
            case measure => omega
            case rel =>
              refine ⟨i + 1, r' / 2, by omega, by go_num, HV.out, by have := HRL'.out; omega, ?_, rfl⟩
              rw [← HB.out]; exact HSS.out
          · have hq : ((r' : Int) % 2 != (x.toNat : Int) / 2 ^ i % 2) = true := by rw [cast_bit, cast_mod, bne_iff_ne]; omega
            have hb : bitGo x.toNat i r' = r' / 2 ^^^ poly := by unfold bitGo; rw [if_neg hun]
            have HB := Lib.hid hb
            have HV := Lib.hid (half_poly r' HRL'.out)
            clear hun hb
            go_wp2
            go_roundg (gk - 1)
            case measure => omega
            case rel =>
              refine ⟨i + 1, r' / 2 ^^^ poly, by omega, by go_num, HV.out, xor_lt (by have := HRL'.out; omega) poly_lt, ?_, rfl⟩
              rw [← HB.out]; exact HSS.out
        · have hi8 : i = 8 := by have := HI.out; omega
          have HF : Hid (r' = run 4294967295 (l.take (j + 1))) := by
            show _ = _
            have h1 := HST.out
            rw [hi8, Nat.div_eq_of_lt (by omega), Nat.xor_zero] at h1
            rw [h1, HN.out]
          clear hi8
          have hi8' : ¬ (i : Int) < 8 := by omega
          go_wp2
          go_roundg (n - (j + 1))
          case measure => have := HJ.out; omega
          case rel => exact ⟨j + 1, by omega, by go_num, by rw [HF.out], rfl⟩
    · have HN : Hid (l.take j = l) := List.take_of_length_le (by have := HJ.out; have := HS.out.len; omega)
      rw [HN.out] at HRL ⊢
      have HV : Hid (Value.int .u32 ((4294967295 - ((run 4294967295 l : Nat) : Int)) % 4294967296) = Value.int .u32 ((sum l : Nat) : Int)) := by
        show _ = _
        have h := HRL.out
        unfold two32 at h
        unfold sum
        congr 1
        omega
      go_wp2
      go_ret
      exact ⟨congrArg Ending.returned HV.out, rfl⟩

theorem sum_doc : sum [49, 50, 51, 52, 53, 54, 55, 56, 57] = 3421780262 := by decide +kernel

theorem quiet_l {P : Program} {f : FuncId} {args : Array Value} {w : World} {n : Nat} {v : Value}
    (h : Calls P f args (w.drewN n) fun e w' => e = .returned v ∧ w.drewN n = w') : Calls P f args (w.drewN n) fun e w'' => e = .returned v ∧ ∃ m, w'' = w.drewN m :=
  h.mono fun _ _ ⟨he, hm⟩ => ⟨he, n, hm.symm⟩
theorem quiet_d {P : Program} {f : FuncId} {args : Array Value} {w : World} {n : Nat} {v : Value}
    (h : Calls P f args (w.drewN n) fun e w' => e = .returned v ∧ ∃ q, w' = (w.drewN n).drewN q) : Calls P f args (w.drewN n) fun e w'' => e = .returned v ∧ ∃ m, w'' = w.drewN m :=
  h.mono fun _ _ ⟨he, q, hm⟩ => ⟨he, n + q, by rw [hm, World.drewN_drewN]⟩
end Go.Proofs.YtlkcnpmgafckoaaDoor
