/-
  WALK of WindowRights.
-/
import Derived.Test.YtjgkfoldbnjpeaaWinTook
import Derived.Test.YtjgkfoldbnjpeaaSortOwn
import Derived.Deep.CutRange
namespace Go.Proofs.Ytjgkfoldbnjpeaa
open Go.ChangeShapes Go.WideShapes Go.ChangeAt Go.RowKit

/-- Numbers that came in. -/
structure Nw (w : World) (A : Option Addr) (n c : Nat) (l : List Nat) : Prop where
  sn : Sn w w.heap.size A n c 1 (nvs l)
  lt : ∀ x ∈ l, x < two64
set_option maxRecDepth 100000 in
theorem came_nums {H : Type} {enc : TypeId × Value → H} {W : World} {base : Nat} {v : Value} {d : DataW H} {p : List MemPlace}
    (hv : Value.okWide Try.prog W .any base 22 v) (h : DataW.Trod enc Try.prog W 0 (fun _ => true) true 22 v d p) :
    ∃ A n c, v = .slice A n c ∧ ∃ xs, Nw W A n c xs := by
  obtain ⟨A, n, c, rfl⟩ := okWide_slice Try.underlying22 hv
  refine ⟨A, n, c, rfl, ?_⟩
  obtain ⟨fuel, hf⟩ := h
  rcases open_ints Try.underlying22 Try.underlying25 (by kernel_rfl) hf with ⟨hcs, _⟩ | ⟨x, l, c', zs, hcs, _, hl, hm, hz, _, hcell, hwz⟩
  · simp [Value.cells] at hcs
    obtain ⟨rfl, rfl, rfl⟩ := hcs
    exact ⟨[], Sn.nil_ _ _ _ _ _ (Nat.zero_le _), fun p hp => by cases hp⟩
  · simp [Value.cells] at hcs
    obtain ⟨rfl, rfl, rfl⟩ := hcs
    have hz' : zs.length = c := by simpa using hz
    refine ⟨(zs.take n).map Int.toNat, ⟨by rw [nvs_len, List.length_map, List.length_take]; omega, hl, hm, fun hp => ?_⟩, fun y hy => ?_⟩
    · obtain ⟨b, o, spot⟩ := x
      have h0 := hcell 0 (by omega)
      have hspot : spot = none := by simpa [Addr.add] using World.cell?_spot h0
      subst hspot
      have hb := World.block_lt_of_cell? W _ h0
      refine ⟨b, o, rfl, by simpa [Addr.add] using hb, fun j y hy => ?_⟩
      unfold nvs at hy
      rw [List.map_map, List.getElem?_map, List.getElem?_take] at hy
      by_cases hj : j < n
      · rw [if_pos hj, List.getElem?_eq_getElem (by omega)] at hy
        simp only [Option.map_some, Option.some.injEq, Function.comp] at hy
        have h1 := hcell j (by omega)
        rw [Go.Proofs.Ytjgkfoldbnjpeaa.add_plain] at h1
        have h2 := bounds_u64 (hwz _ (List.getElem_mem (l := zs) (n := j) (by omega)))
        rw [h1, ← hy, List.getD_eq_getElem?_getD, List.getElem?_eq_getElem (by omega)]
        unfold nv
        congr 2
        simp
        omega
      · rw [if_neg hj] at hy
        simp at hy
    · obtain ⟨z, hz1, rfl⟩ := List.mem_map.1 hy
      have h2 := bounds_u64 (hwz z (List.mem_of_mem_take hz1))
      unfold two64
      omega
theorem Nw.on {w w' : World} {A : Option Addr} {n c : Nat} {l : List Nat} (h : Nw w A n c l) (hb : RowKit.Below w.heap.size w w') : Nw w' A n c l := ⟨h.sn.on hb (Nat.le_refl _), h.lt⟩
theorem nvs_take (l : List Nat) (m : Nat) : (nvs l).take m = nvs (l.take m) := by unfold nvs; rw [List.map_take]
theorem Nw.take {w : World} {A : Option Addr} {n c : Nat} {l : List Nat} (h : Nw w A n c l) {m : Nat} (hm : m ≤ n) : Nw w A m c (l.take m) :=
  ⟨by have := h.sn.take hm (show m ≤ c from Nat.le_trans hm h.sn.le) (Nat.le_refl _); rw [Nat.mul_one, nvs_take] at this; exact this, fun x hx => h.lt x (List.mem_of_mem_take hx)⟩
def okx (low width x : Nat) : Bool := decide (low + 1 < x) && decide (x ≤ low + width)
def r0W (low width : Nat) : Bool := decide (0 < width) && (decide (width ≤ 1024) && decide (low < 4611686018427387904))
theorem rights_eq {low width : Nat} {l : List Nat} (hl : ∀ x ∈ l, x < two64) : rightW ⟨low, width, ofL l⟩ = (r0W low width && l.all (okx low width)) := by
  rw [Bool.eq_iff_iff, right_iff (of_ok hl)]
  unfold r0W okx
  simp only [Bool.and_eq_true, decide_eq_true_iff, List.all_eq_true]
  constructor
  · intro h
    have h1 := h.w1
    exact ⟨⟨h1, h.w2, h.low⟩, fun x hx => h.lo x ((of_mem l x).2 hx)⟩
  · rintro ⟨⟨h1, h2, h3⟩, h4⟩
    exact ⟨h1, h2, h3, of_ok hl, fun x hx => h4 x ((of_mem l x).1 hx)⟩
theorem all_take {l : List Nat} {f : Nat → Bool} {i x : Nat} (hx : l[i]? = some x) : (l.take (i + 1)).all f = ((l.take i).all f && f x) := by
  rw [List.take_add_one, hx, List.all_append]
  simp
def WRig (w2 : World) (low width : Nat) (l : List Nat) (n gk : Nat) (vr vi : Value) (wr : World) : Prop :=
  ∃ i : Nat, gk + i = n ∧ vi = .int .i64 (i : Int) ∧ vr = .bool (r0W low width && (l.take i).all (okx low width)) ∧ w2 = wr
set_option maxRecDepth 100000 in
set_option maxHeartbeats 4000000 in
theorem windowRights_walk (w : World) (low width : Nat) (hlow : low < two64) (hwid : width < two64) (A : Option Addr) (n c : Nat) (L : List Nat) (hL : Nw w A n c L) :
    Calls Try.prog 12 #[.int .u64 (low : Int), .int .u64 (width : Int), .slice A n c] w (Says w (.bool true)) := by
  have HLA := Lib.hid hL
  have HLW := Lib.hid (And.intro hlow hwid)
  have hnc := hL.sn.le
  have hnm : c ≤ 9223372036854775807 := hL.sn.max
  clear hL hlow hwid
  go_enter Try.func12, Try.ntmps12
  go_wp2_with fail
  refine (awake15_any w).mono ?_
  rintro e w1 ⟨rfl, hb1⟩
  have HB1 := Lib.hid hb1
  have HL1 := Lib.hid (HLA.out.on hb1)
  clear hb1 HLA
  obtain ⟨m, hm⟩ : ∃ m, m = min n 20 := ⟨_, rfl⟩
  go_upto_region 3 with fail
  go_cut [2] (fun v wx => v = .slice A m c ∧ w1 = wx)
  case first =>
    by_cases h : n ≤ 20
    · obtain rfl : m = n := by omega
      have hI : (m : Int) ≤ 20 := by omega
      clear hm
      go_wp2_with fail
      go_meet
      case rel => exact ⟨by congr 1; omega, rfl⟩
    · obtain rfl : m = 20 := by omega
      have hI : (20 : Int) < (n : Int) := by omega
      have hc : 20 ≤ c := by omega
      clear hm
      go_wp2_with fail
      go_meet
      case rel => exact ⟨by congr 1; omega, rfl⟩
  case rest =>
    obtain ⟨rfl, rfl⟩ := hcut
    have HL2 := Lib.hid (HL1.out.take (m := m) (by omega))
    have hm20 : m ≤ 20 := by omega
    generalize L.take m = l at *
    clear HL1 hm
    go_wp2_with fail
    refine (ofA_any w1 A m c l HL2.out.sn HL2.out.lt (by omega)).mono ?_
    rintro e w2 ⟨A2, n2, c2, rfl, hs2, _, hb2⟩
    have HW : Hid (Wat w2 A2 n2 c2 ⟨low, width, ofL l⟩) := ⟨hs2, HLW.out.1, HLW.out.2, of_ok HL2.out.lt⟩
    have HB2 := Lib.hid (HB1.out.trans (hb2.mono HB1.out.size))
    have HL3 := Lib.hid (HL2.out.on hb2)
    have HN2 : Hid (n2 ≤ 20) := by
      have h1 := hs2.rs.len
      have h2 := ofGo_len (sortN l) []
      have h3 := sortN_len l
      have h4 := HL2.out.sn.len
      rw [nvs_len] at h4
      unfold ofL at h1
      simp only [List.length_nil] at h2
      show n2 ≤ 20
      omega
    have HR := Lib.hid (rights_eq (low := low) (width := width) HL2.out.lt)
    have hkp : Kept w2.heap.size A2 n2 c2 ⟨low, width, ofL l⟩ w (w2.alloc (.cells #[.int .u64 (low : Int), .int .u64 (width : Int), .slice A2 n2 c2] 84)) := Kept.made HW.out HB2.out
    have HKP := Lib.hid hkp
    have HL4 := Lib.hid (HL3.out.on (below_box w2 (.cells #[.int .u64 (low : Int), .int .u64 (width : Int), .slice A2 n2 c2] 84)))
    clear hs2 hb2 hkp HL3 HL2
    go_upto_region 5 with fail
    generalize w2.alloc (.cells #[.int .u64 (low : Int), .int .u64 (width : Int), .slice A2 n2 c2] 84) = w3 at *
    generalize w2.heap.size = X at *
    obtain ⟨R0, hR0⟩ : ∃ r, r = r0W low width := ⟨_, rfl⟩
    go_cut [8] (fun v wx => v = .bool R0 ∧ w3 = wx)
    case first =>
      by_cases h1 : 0 < width
      · have h1I : (0 : Int) < (width : Int) := by omega
        by_cases h2 : width ≤ 1024
        · have h2I : (width : Int) ≤ 1024 := by omega
          by_cases h3 : low < 4611686018427387904
          · have h3I : (low : Int) < 4611686018427387904 := by omega
            obtain rfl : R0 = true := by rw [hR0]; unfold r0W; simp [h1, h2, h3]
            clear hR0
            go_wp2_with fail
            go_meet
            case rel => exact ⟨rfl, rfl⟩
          · have h3I : ¬ (low : Int) < 4611686018427387904 := by omega
            obtain rfl : R0 = false := by rw [hR0]; unfold r0W; simp [h3]
            clear hR0
            go_wp2_with fail
            go_meet
            case rel => exact ⟨rfl, rfl⟩
        · have h2I : ¬ (width : Int) ≤ 1024 := by omega
          obtain rfl : R0 = false := by rw [hR0]; unfold r0W; simp [h2]
          clear hR0
          go_wp2_with fail
          go_meet
          case rel => exact ⟨rfl, rfl⟩
      · have h1I : ¬ (0 : Int) < (width : Int) := by omega
        obtain rfl : R0 = false := by rw [hR0]; unfold r0W; simp [h1]
        clear hR0
        go_wp2_with fail
        go_meet
        case rel => exact ⟨rfl, rfl⟩
    case rest =>
      obtain ⟨rfl, rfl⟩ := hcut
      subst hR0
      go_wp2_with fail
      go_loopg [8, 35] m (fun gk vr vi wr => WRig w3 low width l m gk vr vi wr)
      case atStart => exact ⟨0, rfl, rfl, by simp, rfl⟩
      case round =>
        obtain ⟨i, hgi, rfl, rfl, rfl⟩ := hrel
        by_cases hi : i < m
        · have hiI : (i : Int) < (m : Int) := by omega
          obtain ⟨b, o, x, rfl, hb, hx, hc⟩ := nv_at HL4.out.sn hi
          have HAT := Lib.hid (all_take (f := okx low width) hx)
          have hx64 := HL4.out.lt x (List.mem_of_getElem? hx)
          clear hx
          cases hr : (r0W low width && (l.take i).all (okx low width))
          · go_wp2_with fail
            go_roundg (gk - 1)
            case measure => omega
            case rel => exact ⟨i + 1, by omega, by go_num, by rw [HAT.out, ← Bool.and_assoc, hr]; rfl, rfl⟩
          · have hr0 : r0W low width = true := by rw [Bool.and_eq_true] at hr; exact hr.1
            have hb0 : 0 < width ∧ width ≤ 1024 ∧ low < 4611686018427387904 := by unfold r0W at hr0; simpa using hr0
            have HRT := Lib.hid hr
            clear hr hr0
            by_cases h1 : low + 1 < x
            · have h1I : (low : Int) + 1 < (x : Int) := by omega
              by_cases h2 : x ≤ low + width
              · have h2I : (x : Int) ≤ (low : Int) + (width : Int) := by omega
                have hok : okx low width x = true := by unfold okx; simp [h1, h2]
                go_wp2_with fail
                go_roundg (gk - 1)
                case measure => omega
                case rel => exact ⟨i + 1, by omega, by go_num, by rw [HAT.out, ← Bool.and_assoc, HRT.out, hok]; rfl, rfl⟩
              · have h2I : ¬ (x : Int) ≤ (low : Int) + (width : Int) := by omega
                have hok : okx low width x = false := by unfold okx; simp [h2]
                go_wp2_with fail
                go_roundg (gk - 1)
                case measure => omega
                case rel => exact ⟨i + 1, by omega, by go_num, by rw [HAT.out, ← Bool.and_assoc, HRT.out, hok]; rfl, rfl⟩
            · have h1I : ¬ (low : Int) + 1 < (x : Int) := by omega
              have hok : okx low width x = false := by unfold okx; simp [h1]
              go_wp2_with fail
              go_roundg (gk - 1)
              case measure => omega
              case rel => exact ⟨i + 1, by omega, by go_num, by rw [HAT.out, ← Bool.and_assoc, HRT.out, hok]; rfl, rfl⟩
        · have hiI : ¬ (i : Int) < (m : Int) := by omega
          have HK4 : Hid (Kept X A2 n2 c2 ⟨low, width, ofL l⟩ w w3.drew) := HKP.out.next (below_drewN (Below.refl _ _) 1)
          have hx0 : w3.cell? ⟨X, 0, none⟩ = some (.int .u64 (low : Int)) := HKP.out.c0
          have hx1 : w3.cell? ⟨X, 1, none⟩ = some (.int .u64 (width : Int)) := HKP.out.c1
          have hx2 : w3.cell? ⟨X, 2, none⟩ = some (.slice A2 n2 c2) := HKP.out.c2
          have HE : Hid (l.take i = l) := List.take_of_length_le (by have := HL4.out.sn.len; rw [nvs_len] at this; omega)
          obtain ⟨R, hR⟩ : ∃ R, R = rightW ⟨low, width, ofL l⟩ := ⟨_, rfl⟩
          have HRR := Lib.hid hR
          rw [HE.out, ← HR.out, ← hR]
          have HRI : Hid (∀ w', Wat w' A2 n2 c2 ⟨low, width, ofL l⟩ → Calls Try.prog 64 #[.agg #[.int .u64 (low : Int), .int .u64 (width : Int), .slice A2 n2 c2]] w' (Says w' (.bool R))) := fun w' h => right_b w' A2 n2 c2 ⟨low, width, ofL l⟩ h (by have := HN2.out; omega) R HRR.out.symm
          have HSA : Hid (∀ w', Wat w' A2 n2 c2 ⟨low, width, ofL l⟩ → Calls Try.prog 60 #[.agg #[.int .u64 (low : Int), .int .u64 (width : Int), .slice A2 n2 c2], .agg #[.int .u64 (low : Int), .int .u64 (width : Int), .slice A2 n2 c2]] w' (Says w' (.bool true))) := fun w' h => winSame_b w' A2 n2 c2 ⟨low, width, ofL l⟩ h A2 n2 c2 ⟨low, width, ofL l⟩ h true (sameW_refl _)
          clear hR
          by_cases hw0 : width = 0
          · have hw0I : ((width : Int) == 0) = true := by simp [hw0]
            clear hw0
            cases R
            · skip
              go_wp2_with fail
              refine wp_region_noPanic ?_
              refine wp_region_held_drew (S := (fun w' => w'.cell? ⟨X, 0, none⟩ = some (.int .u64 (low : Int)) ∧ w'.cell? ⟨X, 1, none⟩ = some (.int .u64 (width : Int)) ∧ w'.cell? ⟨X, 2, none⟩ = some (.slice A2 n2 c2))) (by kernel_rfl) ⟨hx0, hx1, hx2⟩ (fun hHeld => ?_)
              refine wpAnyH_take (i := 0) (oi := { dst := some 54, op := Op.load 84 (Operand.tmp 7), type := 84, pos := "law.go:145", after := #[], guard := none }) (v := ?_) rfl (by kernel_rfl) (by kernel_rfl) (by kernel_rfl) (fun _ _ _ h => h) (Or.inl ⟨by rfl, ?_⟩) (by assumption) ?_
              rotate_left
              · intro w hSw; (try dsimp only at hSw); first | (go_simp; done) | (go_simp; with_reducible rfl)
              try simp only [Act.put, List.setIfInBounds_toArray, List.set_cons_zero, List.set_cons_succ]
              refine wpAnyH_take (i := 2) (oi := { dst := some 56, op := Op.move (Operand.tmp 8), type := 4, pos := "law.go:145", after := #[], guard := none }) (v := ?_) rfl (by kernel_rfl) (by kernel_rfl) (by kernel_rfl) (fun _ _ _ h => h) (Or.inl ⟨by rfl, ?_⟩) (by assumption) ?_
              rotate_left
              · intro w hSw; (try dsimp only at hSw); first | (go_simp; done) | (go_simp; with_reducible rfl)
              try simp only [Act.put, List.setIfInBounds_toArray, List.set_cons_zero, List.set_cons_succ]
              refine wpAnyH_ready (rs := [1]) (by kernel_rfl) (by simp) ?_
              refine (AllReadyH.cons (o := { dst := some 55, op := Op.call { callee := Callee.value (Operand.func 64), args := #[Operand.tmp 54], argTypes := #[84] }, type := 4, pos := "law.go:145", after := #[{ on := 0, ground := Ground.data }], guard := none }) rfl (fun K hK => ?_) AllReadyH.nil)
              go_simp
              go_at_call 64
              with_reducible refine (HRI.out _ HK4.out.at_).mono ?_
              rintro e w5 ⟨rfl, hb5⟩
              have HK5 := Lib.hid (HK4.out.next hb5)
              have hc5 : w5.cell? ⟨X, 0, none⟩ = some (.int .u64 (low : Int)) ∧ w5.cell? ⟨X, 1, none⟩ = some (.int .u64 (width : Int)) ∧ w5.cell? ⟨X, 2, none⟩ = some (.slice A2 n2 c2) := ⟨HK5.out.c0, HK5.out.c1, HK5.out.c2⟩
              go_wp2_with fail
              clear hHeld
              refine hK.out _ _ (by first | exact hc6 | exact hc5) (fun hHeld => ?_)
              clear hK K
              try simp only [Act.put, List.setIfInBounds_toArray, List.set_cons_zero, List.set_cons_succ]
              refine wpAnyH_take (i := 3) (oi := { dst := some 57, op := Op.binOp BinOp.eql 4 (Operand.tmp 55) (Operand.tmp 56) 4, type := 4, pos := "law.go:145", after := #[{ on := 1, ground := Ground.data }, { on := 2, ground := Ground.data }], guard := none }) (v := ?_) rfl (by kernel_rfl) (by kernel_rfl) (by kernel_rfl) (fun _ _ _ h => h) (Or.inl ⟨by rfl, ?_⟩) (by assumption) ?_
              rotate_left
              · intro w hSw; (try dsimp only at hSw); first | (go_simp; done) | (go_simp; with_reducible rfl)
              try simp only [Act.put, List.setIfInBounds_toArray, List.set_cons_zero, List.set_cons_succ]
              refine wpAnyH_take (i := 4) (oi := { dst := some 58, op := Op.move (Operand.tmp 57), type := 4, pos := "law.go:145", after := #[{ on := 3, ground := Ground.data }, { on := 1, ground := Ground.chain }], guard := none }) (v := ?_) rfl (by kernel_rfl) (by kernel_rfl) (by kernel_rfl) (fun _ _ _ h => h) (Or.inl ⟨by rfl, ?_⟩) (by assumption) ?_
              rotate_left
              · intro w hSw; (try dsimp only at hSw); first | (go_simp; done) | (go_simp; with_reducible rfl)
              try simp only [Act.put, List.setIfInBounds_toArray, List.set_cons_zero, List.set_cons_succ]
              refine wpAnyH_take (i := 5) (oi := { dst := some 59, op := Op.load 84 (Operand.tmp 7), type := 84, pos := "law.go:145", after := #[{ on := 4, ground := Ground.guard }], guard := some (4, true) }) (v := ?_) rfl (by kernel_rfl) (by kernel_rfl) (by kernel_rfl) (fun _ _ _ h => h) (Or.inl ⟨by rfl, ?_⟩) (by assumption) ?_
              rotate_left
              · intro w hSw; (try dsimp only at hSw); first | (go_simp; done) | (go_simp; with_reducible rfl)
              try simp only [Act.put, List.setIfInBounds_toArray, List.set_cons_zero, List.set_cons_succ]
              refine wpAnyH_take (i := 6) (oi := { dst := some 60, op := Op.load 84 (Operand.tmp 7), type := 84, pos := "law.go:145", after := #[{ on := 4, ground := Ground.guard }], guard := some (4, true) }) (v := ?_) rfl (by kernel_rfl) (by kernel_rfl) (by kernel_rfl) (fun _ _ _ h => h) (Or.inl ⟨by rfl, ?_⟩) (by assumption) ?_
              rotate_left
              · intro w hSw; (try dsimp only at hSw); first | (go_simp; done) | (go_simp; with_reducible rfl)
              try simp only [Act.put, List.setIfInBounds_toArray, List.set_cons_zero, List.set_cons_succ]
              refine wpAnyH_ready (rs := [7]) (by kernel_rfl) (by simp) ?_
              refine (AllReadyH.cons (o := { dst := some 61, op := Op.call { callee := Callee.value (Operand.func 60), args := #[Operand.tmp 59, Operand.tmp 60], argTypes := #[84, 84] }, type := 4, pos := "law.go:145", after := #[{ on := 5, ground := Ground.data }, { on := 6, ground := Ground.data }, { on := 4, ground := Ground.chain }, { on := 4, ground := Ground.guard }], guard := some (4, true) }) rfl (fun K hK => ?_) AllReadyH.nil)
              go_simp
              go_at_call 60
              with_reducible refine (HSA.out _ HK5.out.at_).mono ?_
              rintro e w6 ⟨rfl, hb6⟩
              have HK6 := Lib.hid (HK5.out.next hb6)
              have hc6 : w6.cell? ⟨X, 0, none⟩ = some (.int .u64 (low : Int)) ∧ w6.cell? ⟨X, 1, none⟩ = some (.int .u64 (width : Int)) ∧ w6.cell? ⟨X, 2, none⟩ = some (.slice A2 n2 c2) := ⟨HK6.out.c0, HK6.out.c1, HK6.out.c2⟩
              go_wp2_with fail
              clear hHeld
              refine hK.out _ _ (by first | exact hc6 | exact hc5) (fun hHeld => ?_)
              clear hK K
              try simp only [Act.put, List.setIfInBounds_toArray, List.set_cons_zero, List.set_cons_succ]
              refine wpAnyH_take (i := 8) (oi := { dst := some 62, op := Op.pick (Operand.tmp 58) (Operand.tmp 61) (Operand.const (Value.bool false)), type := 4, pos := "law.go:145", after := #[{ on := 4, ground := Ground.data }, { on := 7, ground := Ground.data }], guard := none }) (v := ?_) rfl (by kernel_rfl) (by kernel_rfl) (by kernel_rfl) (fun _ _ _ h => h) (Or.inl ⟨by rfl, ?_⟩) (by assumption) ?_
              rotate_left
              · intro w hSw; (try dsimp only at hSw); first | (go_simp; done) | (go_simp; with_reducible rfl)
              try simp only [Act.put, List.setIfInBounds_toArray, List.set_cons_zero, List.set_cons_succ]
              refine wpAnyH_take (i := 9) (oi := { dst := some 63, op := Op.move (Operand.tmp 62), type := 4, pos := "law.go:145", after := #[{ on := 8, ground := Ground.data }, { on := 7, ground := Ground.chain }], guard := none }) (v := ?_) rfl (by kernel_rfl) (by kernel_rfl) (by kernel_rfl) (fun _ _ _ h => h) (Or.inl ⟨by rfl, ?_⟩) (by assumption) ?_
              rotate_left
              · intro w hSw; (try dsimp only at hSw); first | (go_simp; done) | (go_simp; with_reducible rfl)
              try simp only [Act.put, List.setIfInBounds_toArray, List.set_cons_zero, List.set_cons_succ]
              refine wpAnyH_take (i := 10) (oi := { dst := some 64, op := Op.move (Operand.tmp 1), type := 25, pos := "law.go:145", after := #[{ on := 9, ground := Ground.guard }], guard := some (9, true) }) (v := ?_) rfl (by kernel_rfl) (by kernel_rfl) (by kernel_rfl) (fun _ _ _ h => h) (Or.inl ⟨by rfl, ?_⟩) (by assumption) ?_
              rotate_left
              · intro w hSw; (try dsimp only at hSw); first | (go_simp; done) | (go_simp; with_reducible rfl)
              try simp only [Act.put, List.setIfInBounds_toArray, List.set_cons_zero, List.set_cons_succ]
              refine wpAnyH_take (i := 11) (oi := { dst := some 65, op := Op.binOp BinOp.eql 25 (Operand.tmp 64) (Operand.const (Value.int IntKind.u64 0)) 25, type := 4, pos := "law.go:145", after := #[{ on := 10, ground := Ground.data }, { on := 9, ground := Ground.guard }], guard := some (9, true) }) (v := ?_) rfl (by kernel_rfl) (by kernel_rfl) (by kernel_rfl) (fun _ _ _ h => h) (Or.inl ⟨by rfl, ?_⟩) (by assumption) ?_
              rotate_left
              · intro w hSw; (try dsimp only at hSw); first | (go_simp; done) | (go_simp; with_reducible rfl)
              try simp only [Act.put, List.setIfInBounds_toArray, List.set_cons_zero, List.set_cons_succ]
              refine wpAnyH_take (i := 12) (oi := { dst := some 66, op := Op.move (Operand.tmp 65), type := 4, pos := "law.go:145", after := #[{ on := 11, ground := Ground.data }, { on := 9, ground := Ground.chain }, { on := 9, ground := Ground.guard }], guard := some (9, true) }) (v := ?_) rfl (by kernel_rfl) (by kernel_rfl) (by kernel_rfl) (fun _ _ _ h => h) (Or.inl ⟨by rfl, ?_⟩) (by assumption) ?_
              rotate_left
              · intro w hSw; (try dsimp only at hSw); first | (go_simp; done) | (go_simp; with_reducible rfl)
              try simp only [Act.put, List.setIfInBounds_toArray, List.set_cons_zero, List.set_cons_succ]
              refine wpAnyH_take (i := 13) (oi := { dst := some 67, op := Op.load 84 (Operand.tmp 7), type := 84, pos := "law.go:145", after := #[{ on := 12, ground := Ground.guard }], guard := some (12, false) }) (v := undef) rfl (by kernel_rfl) (by kernel_rfl) (by kernel_rfl) (fun _ _ _ h => h) (Or.inr ⟨by rfl, rfl⟩) (by assumption) ?_
              try simp only [Act.put, List.setIfInBounds_toArray, List.set_cons_zero, List.set_cons_succ]
              refine wpAnyH_take (i := 14) (oi := { dst := some 68, op := Op.move (Operand.tmp 1), type := 25, pos := "law.go:145", after := #[{ on := 12, ground := Ground.guard }], guard := some (12, false) }) (v := undef) rfl (by kernel_rfl) (by kernel_rfl) (by kernel_rfl) (fun _ _ _ h => h) (Or.inr ⟨by rfl, rfl⟩) (by assumption) ?_
              try simp only [Act.put, List.setIfInBounds_toArray, List.set_cons_zero, List.set_cons_succ]
              refine wpAnyH_take (i := 15) (oi := { dst := some 69, op := Op.binOp BinOp.sub 25 (Operand.tmp 68) (Operand.const (Value.int IntKind.u64 1)) 25, type := 25, pos := "law.go:145", after := #[{ on := 14, ground := Ground.data }, { on := 12, ground := Ground.guard }], guard := some (12, false) }) (v := undef) rfl (by kernel_rfl) (by kernel_rfl) (by kernel_rfl) (fun _ _ _ h => h) (Or.inr ⟨by rfl, rfl⟩) (by assumption) ?_
              try simp only [Act.put, List.setIfInBounds_toArray, List.set_cons_zero, List.set_cons_succ]
              refine wpAnyH_ready (rs := [16]) (by kernel_rfl) (by simp) ?_
              refine AllReadyH.cons (o := { dst := some 70, op := Op.call { callee := Callee.value (Operand.func 48), args := #[Operand.tmp 69], argTypes := #[25] }, type := 84, pos := "law.go:145", after := #[{ on := 15, ground := Ground.data }, { on := 12, ground := Ground.chain }, { on := 12, ground := Ground.guard }], guard := some (12, false) }) rfl (fun K hK => ?_) AllReadyH.nil
              refine not_wanted (by rfl) ?_
              refine hK.out _ _ hHeld (fun _ => ?_)
              clear hK K
              try simp only [Act.put, List.setIfInBounds_toArray, List.set_cons_zero, List.set_cons_succ]
              refine wpAnyH_ready (rs := [17]) (by kernel_rfl) (by simp) ?_
              refine AllReadyH.cons (o := { dst := some 71, op := Op.call { callee := Callee.value (Operand.func 60), args := #[Operand.tmp 67, Operand.tmp 70], argTypes := #[84, 84] }, type := 4, pos := "law.go:145", after := #[{ on := 13, ground := Ground.data }, { on := 16, ground := Ground.data }, { on := 16, ground := Ground.chain }, { on := 12, ground := Ground.guard }], guard := some (12, false) }) rfl (fun K hK => ?_) AllReadyH.nil
              refine not_wanted (by rfl) ?_
              refine hK.out _ _ hHeld (fun _ => ?_)
              clear hK K
              try simp only [Act.put, List.setIfInBounds_toArray, List.set_cons_zero, List.set_cons_succ]
              refine wpAnyH_take (i := 18) (oi := { dst := some 72, op := Op.unOp UnOp.not 4 (Operand.tmp 71), type := 4, pos := "law.go:145", after := #[{ on := 17, ground := Ground.data }, { on := 12, ground := Ground.guard }], guard := some (12, false) }) (v := undef) rfl (by kernel_rfl) (by kernel_rfl) (by kernel_rfl) (fun _ _ _ h => h) (Or.inr ⟨by rfl, rfl⟩) (by assumption) ?_
              try simp only [Act.put, List.setIfInBounds_toArray, List.set_cons_zero, List.set_cons_succ]
              refine wpAnyH_take (i := 19) (oi := { dst := some 73, op := Op.pick (Operand.tmp 66) (Operand.const (Value.bool true)) (Operand.tmp 72), type := 4, pos := "law.go:145", after := #[{ on := 12, ground := Ground.data }, { on := 18, ground := Ground.data }, { on := 9, ground := Ground.guard }], guard := some (9, true) }) (v := ?_) rfl (by kernel_rfl) (by kernel_rfl) (by kernel_rfl) (fun _ _ _ h => h) (Or.inl ⟨by rfl, ?_⟩) (by assumption) ?_
              rotate_left
              · intro w hSw; (try dsimp only at hSw); first | (go_simp; done) | (go_simp; with_reducible rfl)
              try simp only [Act.put, List.setIfInBounds_toArray, List.set_cons_zero, List.set_cons_succ]
              refine wpAnyH_take (i := 20) (oi := { dst := some 74, op := Op.pick (Operand.tmp 63) (Operand.tmp 73) (Operand.const (Value.bool false)), type := 4, pos := "law.go:145", after := #[{ on := 9, ground := Ground.data }, { on := 19, ground := Ground.data }], guard := none }) (v := ?_) rfl (by kernel_rfl) (by kernel_rfl) (by kernel_rfl) (fun _ _ _ h => h) (Or.inl ⟨by rfl, ?_⟩) (by assumption) ?_
              rotate_left
              · intro w hSw; (try dsimp only at hSw); first | (go_simp; done) | (go_simp; with_reducible rfl)
              try simp only [Act.put, List.setIfInBounds_toArray, List.set_cons_zero, List.set_cons_succ]
              refine wpAnyH_take (i := 21) (oi := { dst := some 6, op := Op.assign (Operand.tmp 74), type := 4, pos := "law.go:145", after := #[{ on := 20, ground := Ground.data }, { on := 17, ground := Ground.chain }, { on := 0, ground := Ground.phase }, { on := 1, ground := Ground.phase }, { on := 2, ground := Ground.phase }, { on := 3, ground := Ground.phase }, { on := 4, ground := Ground.phase }, { on := 5, ground := Ground.phase }, { on := 6, ground := Ground.phase }, { on := 7, ground := Ground.phase }, { on := 8, ground := Ground.phase }, { on := 9, ground := Ground.phase }, { on := 10, ground := Ground.phase }, { on := 11, ground := Ground.phase }, { on := 12, ground := Ground.phase }, { on := 13, ground := Ground.phase }, { on := 14, ground := Ground.phase }, { on := 15, ground := Ground.phase }, { on := 16, ground := Ground.phase }, { on := 17, ground := Ground.phase }, { on := 18, ground := Ground.phase }, { on := 19, ground := Ground.phase }, { on := 20, ground := Ground.phase }], guard := none }) (v := ?_) rfl (by kernel_rfl) (by kernel_rfl) (by kernel_rfl) (fun _ _ _ h => h) (Or.inl ⟨by rfl, ?_⟩) (by assumption) ?_
              rotate_left
              · intro w hSw; (try dsimp only at hSw); first | (go_simp; done) | (go_simp; with_reducible rfl)
              try simp only [Act.put, List.setIfInBounds_toArray, List.set_cons_zero, List.set_cons_succ]
              refine wpAnyH_done (by kernel_rfl) ?_ _
              refine NoPanic.normal ?_
              go_wp2
              go_ret
              exact ⟨rfl, HK6.out.bel⟩
            · skip
              go_wp2_with fail
              refine wp_region_noPanic ?_
              refine wp_region_held_drew (S := (fun w' => w'.cell? ⟨X, 0, none⟩ = some (.int .u64 (low : Int)) ∧ w'.cell? ⟨X, 1, none⟩ = some (.int .u64 (width : Int)) ∧ w'.cell? ⟨X, 2, none⟩ = some (.slice A2 n2 c2))) (by kernel_rfl) ⟨hx0, hx1, hx2⟩ (fun hHeld => ?_)
              refine wpAnyH_take (i := 0) (oi := { dst := some 54, op := Op.load 84 (Operand.tmp 7), type := 84, pos := "law.go:145", after := #[], guard := none }) (v := ?_) rfl (by kernel_rfl) (by kernel_rfl) (by kernel_rfl) (fun _ _ _ h => h) (Or.inl ⟨by rfl, ?_⟩) (by assumption) ?_
              rotate_left
              · intro w hSw; (try dsimp only at hSw); first | (go_simp; done) | (go_simp; with_reducible rfl)
              try simp only [Act.put, List.setIfInBounds_toArray, List.set_cons_zero, List.set_cons_succ]
              refine wpAnyH_take (i := 2) (oi := { dst := some 56, op := Op.move (Operand.tmp 8), type := 4, pos := "law.go:145", after := #[], guard := none }) (v := ?_) rfl (by kernel_rfl) (by kernel_rfl) (by kernel_rfl) (fun _ _ _ h => h) (Or.inl ⟨by rfl, ?_⟩) (by assumption) ?_
              rotate_left
              · intro w hSw; (try dsimp only at hSw); first | (go_simp; done) | (go_simp; with_reducible rfl)
              try simp only [Act.put, List.setIfInBounds_toArray, List.set_cons_zero, List.set_cons_succ]
              refine wpAnyH_ready (rs := [1]) (by kernel_rfl) (by simp) ?_
              refine (AllReadyH.cons (o := { dst := some 55, op := Op.call { callee := Callee.value (Operand.func 64), args := #[Operand.tmp 54], argTypes := #[84] }, type := 4, pos := "law.go:145", after := #[{ on := 0, ground := Ground.data }], guard := none }) rfl (fun K hK => ?_) AllReadyH.nil)
              go_simp
              go_at_call 64
              with_reducible refine (HRI.out _ HK4.out.at_).mono ?_
              rintro e w5 ⟨rfl, hb5⟩
              have HK5 := Lib.hid (HK4.out.next hb5)
              have hc5 : w5.cell? ⟨X, 0, none⟩ = some (.int .u64 (low : Int)) ∧ w5.cell? ⟨X, 1, none⟩ = some (.int .u64 (width : Int)) ∧ w5.cell? ⟨X, 2, none⟩ = some (.slice A2 n2 c2) := ⟨HK5.out.c0, HK5.out.c1, HK5.out.c2⟩
              go_wp2_with fail
              clear hHeld
              refine hK.out _ _ (by first | exact hc6 | exact hc5) (fun hHeld => ?_)
              clear hK K
              try simp only [Act.put, List.setIfInBounds_toArray, List.set_cons_zero, List.set_cons_succ]
              refine wpAnyH_take (i := 3) (oi := { dst := some 57, op := Op.binOp BinOp.eql 4 (Operand.tmp 55) (Operand.tmp 56) 4, type := 4, pos := "law.go:145", after := #[{ on := 1, ground := Ground.data }, { on := 2, ground := Ground.data }], guard := none }) (v := ?_) rfl (by kernel_rfl) (by kernel_rfl) (by kernel_rfl) (fun _ _ _ h => h) (Or.inl ⟨by rfl, ?_⟩) (by assumption) ?_
              rotate_left
              · intro w hSw; (try dsimp only at hSw); first | (go_simp; done) | (go_simp; with_reducible rfl)
              try simp only [Act.put, List.setIfInBounds_toArray, List.set_cons_zero, List.set_cons_succ]
              refine wpAnyH_take (i := 4) (oi := { dst := some 58, op := Op.move (Operand.tmp 57), type := 4, pos := "law.go:145", after := #[{ on := 3, ground := Ground.data }, { on := 1, ground := Ground.chain }], guard := none }) (v := ?_) rfl (by kernel_rfl) (by kernel_rfl) (by kernel_rfl) (fun _ _ _ h => h) (Or.inl ⟨by rfl, ?_⟩) (by assumption) ?_
              rotate_left
              · intro w hSw; (try dsimp only at hSw); first | (go_simp; done) | (go_simp; with_reducible rfl)
              try simp only [Act.put, List.setIfInBounds_toArray, List.set_cons_zero, List.set_cons_succ]
              refine wpAnyH_take (i := 5) (oi := { dst := some 59, op := Op.load 84 (Operand.tmp 7), type := 84, pos := "law.go:145", after := #[{ on := 4, ground := Ground.guard }], guard := some (4, true) }) (v := ?_) rfl (by kernel_rfl) (by kernel_rfl) (by kernel_rfl) (fun _ _ _ h => h) (Or.inl ⟨by rfl, ?_⟩) (by assumption) ?_
              rotate_left
              · intro w hSw; (try dsimp only at hSw); first | (go_simp; done) | (go_simp; with_reducible rfl)
              try simp only [Act.put, List.setIfInBounds_toArray, List.set_cons_zero, List.set_cons_succ]
              refine wpAnyH_take (i := 6) (oi := { dst := some 60, op := Op.load 84 (Operand.tmp 7), type := 84, pos := "law.go:145", after := #[{ on := 4, ground := Ground.guard }], guard := some (4, true) }) (v := ?_) rfl (by kernel_rfl) (by kernel_rfl) (by kernel_rfl) (fun _ _ _ h => h) (Or.inl ⟨by rfl, ?_⟩) (by assumption) ?_
              rotate_left
              · intro w hSw; (try dsimp only at hSw); first | (go_simp; done) | (go_simp; with_reducible rfl)
              try simp only [Act.put, List.setIfInBounds_toArray, List.set_cons_zero, List.set_cons_succ]
              refine wpAnyH_ready (rs := [7]) (by kernel_rfl) (by simp) ?_
              refine (AllReadyH.cons (o := { dst := some 61, op := Op.call { callee := Callee.value (Operand.func 60), args := #[Operand.tmp 59, Operand.tmp 60], argTypes := #[84, 84] }, type := 4, pos := "law.go:145", after := #[{ on := 5, ground := Ground.data }, { on := 6, ground := Ground.data }, { on := 4, ground := Ground.chain }, { on := 4, ground := Ground.guard }], guard := some (4, true) }) rfl (fun K hK => ?_) AllReadyH.nil)
              go_simp
              go_at_call 60
              with_reducible refine (HSA.out _ HK5.out.at_).mono ?_
              rintro e w6 ⟨rfl, hb6⟩
              have HK6 := Lib.hid (HK5.out.next hb6)
              have hc6 : w6.cell? ⟨X, 0, none⟩ = some (.int .u64 (low : Int)) ∧ w6.cell? ⟨X, 1, none⟩ = some (.int .u64 (width : Int)) ∧ w6.cell? ⟨X, 2, none⟩ = some (.slice A2 n2 c2) := ⟨HK6.out.c0, HK6.out.c1, HK6.out.c2⟩
              go_wp2_with fail
              clear hHeld
              refine hK.out _ _ (by first | exact hc6 | exact hc5) (fun hHeld => ?_)
              clear hK K
              try simp only [Act.put, List.setIfInBounds_toArray, List.set_cons_zero, List.set_cons_succ]
              refine wpAnyH_take (i := 8) (oi := { dst := some 62, op := Op.pick (Operand.tmp 58) (Operand.tmp 61) (Operand.const (Value.bool false)), type := 4, pos := "law.go:145", after := #[{ on := 4, ground := Ground.data }, { on := 7, ground := Ground.data }], guard := none }) (v := ?_) rfl (by kernel_rfl) (by kernel_rfl) (by kernel_rfl) (fun _ _ _ h => h) (Or.inl ⟨by rfl, ?_⟩) (by assumption) ?_
              rotate_left
              · intro w hSw; (try dsimp only at hSw); first | (go_simp; done) | (go_simp; with_reducible rfl)
              try simp only [Act.put, List.setIfInBounds_toArray, List.set_cons_zero, List.set_cons_succ]
              refine wpAnyH_take (i := 9) (oi := { dst := some 63, op := Op.move (Operand.tmp 62), type := 4, pos := "law.go:145", after := #[{ on := 8, ground := Ground.data }, { on := 7, ground := Ground.chain }], guard := none }) (v := ?_) rfl (by kernel_rfl) (by kernel_rfl) (by kernel_rfl) (fun _ _ _ h => h) (Or.inl ⟨by rfl, ?_⟩) (by assumption) ?_
              rotate_left
              · intro w hSw; (try dsimp only at hSw); first | (go_simp; done) | (go_simp; with_reducible rfl)
              try simp only [Act.put, List.setIfInBounds_toArray, List.set_cons_zero, List.set_cons_succ]
              refine wpAnyH_take (i := 10) (oi := { dst := some 64, op := Op.move (Operand.tmp 1), type := 25, pos := "law.go:145", after := #[{ on := 9, ground := Ground.guard }], guard := some (9, true) }) (v := ?_) rfl (by kernel_rfl) (by kernel_rfl) (by kernel_rfl) (fun _ _ _ h => h) (Or.inl ⟨by rfl, ?_⟩) (by assumption) ?_
              rotate_left
              · intro w hSw; (try dsimp only at hSw); first | (go_simp; done) | (go_simp; with_reducible rfl)
              try simp only [Act.put, List.setIfInBounds_toArray, List.set_cons_zero, List.set_cons_succ]
              refine wpAnyH_take (i := 11) (oi := { dst := some 65, op := Op.binOp BinOp.eql 25 (Operand.tmp 64) (Operand.const (Value.int IntKind.u64 0)) 25, type := 4, pos := "law.go:145", after := #[{ on := 10, ground := Ground.data }, { on := 9, ground := Ground.guard }], guard := some (9, true) }) (v := ?_) rfl (by kernel_rfl) (by kernel_rfl) (by kernel_rfl) (fun _ _ _ h => h) (Or.inl ⟨by rfl, ?_⟩) (by assumption) ?_
              rotate_left
              · intro w hSw; (try dsimp only at hSw); first | (go_simp; done) | (go_simp; with_reducible rfl)
              try simp only [Act.put, List.setIfInBounds_toArray, List.set_cons_zero, List.set_cons_succ]
              refine wpAnyH_take (i := 12) (oi := { dst := some 66, op := Op.move (Operand.tmp 65), type := 4, pos := "law.go:145", after := #[{ on := 11, ground := Ground.data }, { on := 9, ground := Ground.chain }, { on := 9, ground := Ground.guard }], guard := some (9, true) }) (v := ?_) rfl (by kernel_rfl) (by kernel_rfl) (by kernel_rfl) (fun _ _ _ h => h) (Or.inl ⟨by rfl, ?_⟩) (by assumption) ?_
              rotate_left
              · intro w hSw; (try dsimp only at hSw); first | (go_simp; done) | (go_simp; with_reducible rfl)
              try simp only [Act.put, List.setIfInBounds_toArray, List.set_cons_zero, List.set_cons_succ]
              refine wpAnyH_take (i := 13) (oi := { dst := some 67, op := Op.load 84 (Operand.tmp 7), type := 84, pos := "law.go:145", after := #[{ on := 12, ground := Ground.guard }], guard := some (12, false) }) (v := undef) rfl (by kernel_rfl) (by kernel_rfl) (by kernel_rfl) (fun _ _ _ h => h) (Or.inr ⟨by rfl, rfl⟩) (by assumption) ?_
              try simp only [Act.put, List.setIfInBounds_toArray, List.set_cons_zero, List.set_cons_succ]
              refine wpAnyH_take (i := 14) (oi := { dst := some 68, op := Op.move (Operand.tmp 1), type := 25, pos := "law.go:145", after := #[{ on := 12, ground := Ground.guard }], guard := some (12, false) }) (v := undef) rfl (by kernel_rfl) (by kernel_rfl) (by kernel_rfl) (fun _ _ _ h => h) (Or.inr ⟨by rfl, rfl⟩) (by assumption) ?_
              try simp only [Act.put, List.setIfInBounds_toArray, List.set_cons_zero, List.set_cons_succ]
              refine wpAnyH_take (i := 15) (oi := { dst := some 69, op := Op.binOp BinOp.sub 25 (Operand.tmp 68) (Operand.const (Value.int IntKind.u64 1)) 25, type := 25, pos := "law.go:145", after := #[{ on := 14, ground := Ground.data }, { on := 12, ground := Ground.guard }], guard := some (12, false) }) (v := undef) rfl (by kernel_rfl) (by kernel_rfl) (by kernel_rfl) (fun _ _ _ h => h) (Or.inr ⟨by rfl, rfl⟩) (by assumption) ?_
              try simp only [Act.put, List.setIfInBounds_toArray, List.set_cons_zero, List.set_cons_succ]
              refine wpAnyH_ready (rs := [16]) (by kernel_rfl) (by simp) ?_
              refine AllReadyH.cons (o := { dst := some 70, op := Op.call { callee := Callee.value (Operand.func 48), args := #[Operand.tmp 69], argTypes := #[25] }, type := 84, pos := "law.go:145", after := #[{ on := 15, ground := Ground.data }, { on := 12, ground := Ground.chain }, { on := 12, ground := Ground.guard }], guard := some (12, false) }) rfl (fun K hK => ?_) AllReadyH.nil
              refine not_wanted (by rfl) ?_
              refine hK.out _ _ hHeld (fun _ => ?_)
              clear hK K
              try simp only [Act.put, List.setIfInBounds_toArray, List.set_cons_zero, List.set_cons_succ]
              refine wpAnyH_ready (rs := [17]) (by kernel_rfl) (by simp) ?_
              refine AllReadyH.cons (o := { dst := some 71, op := Op.call { callee := Callee.value (Operand.func 60), args := #[Operand.tmp 67, Operand.tmp 70], argTypes := #[84, 84] }, type := 4, pos := "law.go:145", after := #[{ on := 13, ground := Ground.data }, { on := 16, ground := Ground.data }, { on := 16, ground := Ground.chain }, { on := 12, ground := Ground.guard }], guard := some (12, false) }) rfl (fun K hK => ?_) AllReadyH.nil
              refine not_wanted (by rfl) ?_
              refine hK.out _ _ hHeld (fun _ => ?_)
              clear hK K
              try simp only [Act.put, List.setIfInBounds_toArray, List.set_cons_zero, List.set_cons_succ]
              refine wpAnyH_take (i := 18) (oi := { dst := some 72, op := Op.unOp UnOp.not 4 (Operand.tmp 71), type := 4, pos := "law.go:145", after := #[{ on := 17, ground := Ground.data }, { on := 12, ground := Ground.guard }], guard := some (12, false) }) (v := undef) rfl (by kernel_rfl) (by kernel_rfl) (by kernel_rfl) (fun _ _ _ h => h) (Or.inr ⟨by rfl, rfl⟩) (by assumption) ?_
              try simp only [Act.put, List.setIfInBounds_toArray, List.set_cons_zero, List.set_cons_succ]
              refine wpAnyH_take (i := 19) (oi := { dst := some 73, op := Op.pick (Operand.tmp 66) (Operand.const (Value.bool true)) (Operand.tmp 72), type := 4, pos := "law.go:145", after := #[{ on := 12, ground := Ground.data }, { on := 18, ground := Ground.data }, { on := 9, ground := Ground.guard }], guard := some (9, true) }) (v := ?_) rfl (by kernel_rfl) (by kernel_rfl) (by kernel_rfl) (fun _ _ _ h => h) (Or.inl ⟨by rfl, ?_⟩) (by assumption) ?_
              rotate_left
              · intro w hSw; (try dsimp only at hSw); first | (go_simp; done) | (go_simp; with_reducible rfl)
              try simp only [Act.put, List.setIfInBounds_toArray, List.set_cons_zero, List.set_cons_succ]
              refine wpAnyH_take (i := 20) (oi := { dst := some 74, op := Op.pick (Operand.tmp 63) (Operand.tmp 73) (Operand.const (Value.bool false)), type := 4, pos := "law.go:145", after := #[{ on := 9, ground := Ground.data }, { on := 19, ground := Ground.data }], guard := none }) (v := ?_) rfl (by kernel_rfl) (by kernel_rfl) (by kernel_rfl) (fun _ _ _ h => h) (Or.inl ⟨by rfl, ?_⟩) (by assumption) ?_
              rotate_left
              · intro w hSw; (try dsimp only at hSw); first | (go_simp; done) | (go_simp; with_reducible rfl)
              try simp only [Act.put, List.setIfInBounds_toArray, List.set_cons_zero, List.set_cons_succ]
              refine wpAnyH_take (i := 21) (oi := { dst := some 6, op := Op.assign (Operand.tmp 74), type := 4, pos := "law.go:145", after := #[{ on := 20, ground := Ground.data }, { on := 17, ground := Ground.chain }, { on := 0, ground := Ground.phase }, { on := 1, ground := Ground.phase }, { on := 2, ground := Ground.phase }, { on := 3, ground := Ground.phase }, { on := 4, ground := Ground.phase }, { on := 5, ground := Ground.phase }, { on := 6, ground := Ground.phase }, { on := 7, ground := Ground.phase }, { on := 8, ground := Ground.phase }, { on := 9, ground := Ground.phase }, { on := 10, ground := Ground.phase }, { on := 11, ground := Ground.phase }, { on := 12, ground := Ground.phase }, { on := 13, ground := Ground.phase }, { on := 14, ground := Ground.phase }, { on := 15, ground := Ground.phase }, { on := 16, ground := Ground.phase }, { on := 17, ground := Ground.phase }, { on := 18, ground := Ground.phase }, { on := 19, ground := Ground.phase }, { on := 20, ground := Ground.phase }], guard := none }) (v := ?_) rfl (by kernel_rfl) (by kernel_rfl) (by kernel_rfl) (fun _ _ _ h => h) (Or.inl ⟨by rfl, ?_⟩) (by assumption) ?_
              rotate_left
              · intro w hSw; (try dsimp only at hSw); first | (go_simp; done) | (go_simp; with_reducible rfl)
              try simp only [Act.put, List.setIfInBounds_toArray, List.set_cons_zero, List.set_cons_succ]
              refine wpAnyH_done (by kernel_rfl) ?_ _
              refine NoPanic.normal ?_
              go_wp2
              go_ret
              exact ⟨rfl, HK6.out.bel⟩
          · have hw0I : ((width : Int) == 0) = false := by simp [hw0]
            obtain ⟨u, hu⟩ : ∃ u, width = u + 1 := ⟨width - 1, by omega⟩
            have huI : (width : Int) - 1 = (u : Int) := by omega
            have hu1 : (1 : Int) ≤ (width : Int) := by omega
            have hul : u < two64 := by have := HLW.out.2; omega
            have hwu : IntKind.u64.wrap ((width : Int) - 1) = (u : Int) := by unfold two64 at hul; rw [IntKind.wrap_u64]; have := HLW.out.2; unfold two64 at this; omega
            have HNE : Hid (∀ w', Calls Try.prog 48 #[.int .u64 (u : Int)] w' (fun e w2 => ∃ A n c, e = .returned (.agg #[.int .u64 0, .int .u64 (u : Int), .slice A n c]) ∧ Wat w2 A n c (newW u) ∧ Below w'.heap.size w' w2)) := fun w' => new_any w' u hul
            have HSB : Hid (∀ w' A n c, Wat w' A n c (newW u) → Wat w' A2 n2 c2 ⟨low, width, ofL l⟩ → Calls Try.prog 60 #[.agg #[.int .u64 (low : Int), .int .u64 (width : Int), .slice A2 n2 c2], .agg #[.int .u64 0, .int .u64 (u : Int), .slice A n c]] w' (Says w' (.bool false))) := fun w' A n c h1 h2 => winSame_b w' A2 n2 c2 ⟨low, width, ofL l⟩ h2 A n c (newW u) h1 false (by unfold sameW newW; simp; omega)
            clear hw0 hu hul huI
            cases R
            all_goals
              go_wp2_with fail
              go_region_held3 (fun w' => w'.cell? ⟨X, 0, none⟩ = some (.int .u64 (low : Int)) ∧ w'.cell? ⟨X, 1, none⟩ = some (.int .u64 (width : Int)) ∧ w'.cell? ⟨X, 2, none⟩ = some (.slice A2 n2 c2)) (first | exact ⟨hx0, hx1, hx2⟩ | exact hc5 | exact hc6 | exact hc7 | exact hc8) (first
            | (go_at_call 60
               with_reducible refine (HSB.out _ A7 n7 c7 HW7.out HK7.out.at_).mono ?_
               rintro e w8 ⟨rfl, hb8⟩
               have HK8 := Lib.hid (HK7.out.next hb8)
               have hc8 : w8.cell? ⟨X, 0, none⟩ = some (.int .u64 (low : Int)) ∧ w8.cell? ⟨X, 1, none⟩ = some (.int .u64 (width : Int)) ∧ w8.cell? ⟨X, 2, none⟩ = some (.slice A2 n2 c2) := ⟨HK8.out.c0, HK8.out.c1, HK8.out.c2⟩)
            | (go_at_call 48
               with_reducible refine (HNE.out _).mono ?_
               rintro e w7 ⟨A7, n7, c7, rfl, hw7, hb7⟩
               have HK7 := Lib.hid (HK6.out.next hb7)
               have hc7 : w7.cell? ⟨X, 0, none⟩ = some (.int .u64 (low : Int)) ∧ w7.cell? ⟨X, 1, none⟩ = some (.int .u64 (width : Int)) ∧ w7.cell? ⟨X, 2, none⟩ = some (.slice A2 n2 c2) := ⟨HK7.out.c0, HK7.out.c1, HK7.out.c2⟩
               have HW7 := Lib.hid hw7)
            | (go_at_call 60
               with_reducible refine (HSA.out _ HK5.out.at_).mono ?_
               rintro e w6 ⟨rfl, hb6⟩
               have HK6 := Lib.hid (HK5.out.next hb6)
               have hc6 : w6.cell? ⟨X, 0, none⟩ = some (.int .u64 (low : Int)) ∧ w6.cell? ⟨X, 1, none⟩ = some (.int .u64 (width : Int)) ∧ w6.cell? ⟨X, 2, none⟩ = some (.slice A2 n2 c2) := ⟨HK6.out.c0, HK6.out.c1, HK6.out.c2⟩)
            | (go_at_call 64
               with_reducible refine (HRI.out _ HK4.out.at_).mono ?_
               rintro e w5 ⟨rfl, hb5⟩
               have HK5 := Lib.hid (HK4.out.next hb5)
               have hc5 : w5.cell? ⟨X, 0, none⟩ = some (.int .u64 (low : Int)) ∧ w5.cell? ⟨X, 1, none⟩ = some (.int .u64 (width : Int)) ∧ w5.cell? ⟨X, 2, none⟩ = some (.slice A2 n2 c2) := ⟨HK5.out.c0, HK5.out.c1, HK5.out.c2⟩))
              go_wp2
              go_ret
              exact ⟨rfl, HK8.out.bel⟩
theorem windowRights_law (w : World) (a : Int) (ha : 0 ≤ a ∧ a ≤ 18446744073709551615) (b : Int) (hb : 0 ≤ b ∧ b ≤ 18446744073709551615) (A : Option Addr) (n c : Nat) (L : List Nat) (hL : Nw w A n c L) :
    Calls Try.prog 12 #[.int .u64 a, .int .u64 b, .slice A n c] w (Says w (.bool true)) := by
  obtain ⟨x, rfl⟩ := Int.eq_ofNat_of_zero_le ha.1
  obtain ⟨y, rfl⟩ := Int.eq_ofNat_of_zero_le hb.1
  exact windowRights_walk w x y (by unfold two64; omega) (by unfold two64; omega) A n c L hL
end Go.Proofs.Ytjgkfoldbnjpeaa
