/-
  CONTRACTS of the reference's Had, Takes, closed, Put, Skip.
  No statement is proved here.
-/
import Derived.Test.YthhmgbeigeagdaaWinLike
import Derived.Test.YthhmgbeigeagdaaWinKeep
import Derived.Test.YthhmgbeigeagdaaRunsAwake
namespace Go.Proofs.Ythhmgbeigeagdaa
open Go.RowKit

set_option maxRecDepth 100000 in
set_option maxHeartbeats 1000000 in
theorem refHad_any (w : World) (A : Option Addr) (n c : Nat) (X : Wr) (h : Sn w w.heap.size A n c 1 (nvs X.l)) (k : Nat) :
    Calls Try.prog 14 #[.agg #[.int .u64 (X.low : Int), .int .u64 (X.width : Int), .slice A n c], .int .u64 (k : Int)] w (Says w (.bool (hadR X k))) := by
  obtain ⟨hbx, y0, y1, y2⟩ := box_cells w (.int .u64 (X.low : Int)) (.int .u64 (X.width : Int)) (.slice A n c) 34
  have HS := Lib.hid (h.on hbx (Nat.le_refl _))
  have HB := Lib.hid hbx
  have HL : Hid (X.l.length = n) := by have := h.len; rw [nvs_len] at this; show _ = _; omega
  obtain ⟨R, HR⟩ : ∃ R, Hid (hadR X k = R) := ⟨_, rfl⟩
  rw [HR.out]
  have hnm : n ≤ 9223372036854775807 := Nat.le_trans h.le h.max
  clear h hbx
  go_enter Try.func14, Try.ntmps14
  go_wp2_with fail
  generalize w.alloc (Obj.cells #[.int .u64 (X.low : Int), .int .u64 (X.width : Int), .slice A n c] 34) = w1 at *
  go_loopg [10] n (fun gk vi wr => ∃ i : Nat, gk + i = n ∧ vi = .int .i64 (i : Int) ∧ w1 = wr ∧ ∀ j y, j < i → X.l[j]? = some y → y ≠ k)
  case atStart => exact ⟨0, rfl, rfl, rfl, fun j y hj => absurd hj (Nat.not_lt_zero j)⟩
  case round =>
    obtain ⟨i, hg, rfl, rfl, hno⟩ := hrel
    have HNO := Lib.hid hno
    clear hno
    by_cases hi : i < n
    · obtain ⟨b, o, x, rfl, hb, hx, hc⟩ := nv_at HS.out hi
      have hiI : (i : Int) < (n : Int) := by omega
      have hi0 : (0 : Int) ≤ (i : Int) := by omega
      have HX := Lib.hid hx
      clear hx hb
      by_cases hxk : x = k
      · have hxI : ((x : Int) == (k : Int)) = true := by simp; omega
        have ht : Hid (R = true) := by
          show R = true
          rw [← HR.out]
          unfold hadR
          simp [List.mem_of_getElem? (hxk ▸ HX.out : X.l[i]? = some k)]
        clear hxk
        go_wp2
        go_ret
        rw [ht.out]
        exact ⟨rfl, HB.out⟩
      · have hxI : ((x : Int) == (k : Int)) = false := by simp; omega
        have HNE := Lib.hid hxk
        clear hxk
        go_wp2
        go_roundg (n - (i + 1))
        case measure => omega
        case rel => exact ⟨i + 1, by omega, by go_num, rfl, fun j y hj hy => by
          rcases Nat.lt_or_ge j i with h1 | h1
          · exact HNO.out j y h1 hy
          · obtain rfl : j = i := by omega
            rw [HX.out] at hy
            injection hy with e
            exact e ▸ HNE.out⟩
    · have hiI : ¬ (i : Int) < (n : Int) := by omega
      have ht : Hid (R = decide (k ≤ X.low)) := by
        show R = _
        rw [← HR.out]
        unfold hadR
        have : k ∉ X.l := fun hm => by
          obtain ⟨j, hj⟩ := List.getElem?_of_mem hm
          have := (List.getElem?_eq_some_iff.1 hj).1
          exact HNO.out j k (by have := HL.out; omega) hj rfl
        simp [this]
      go_wp2
      go_ret
      rw [ht.out]
      by_cases hk : k ≤ X.low
      · have hkI : (k : Int) ≤ (X.low : Int) := by omega
        exact ⟨by simp [hk], HB.out⟩
      · exact ⟨by simp [hk], HB.out⟩
end Go.Proofs.Ythhmgbeigeagdaa
namespace Go.Proofs.Ythhmgbeigeagdaa
open Go.RowKit

/-- A window of the reference's in its box, the result's cell behind it. -/
structure Cw (w : World) (P : Nat) (X : Wr) (A : Option Addr) (n c : Nat) (wr : World) : Prop where
  row : wr.heap[P]? = some (.cells #[.int .u64 (X.low : Int), .int .u64 (X.width : Int), .slice A n c] 34 (0, 0))
  res : wr.heap[P + 1]? = some (.cells #[.int .u64 0, .int .u64 0, .slice none 0 0] 34 (0, 0))
  sn : Sn wr wr.heap.size A n c 1 (nvs X.l)
  bel : Below P w wr
  far : 0 < n → ∀ b o, A = some ⟨b, o, none⟩ → b ≠ P ∧ b ≠ P + 1
section
variable {w wr wr' : World} {P : Nat} {X : Wr} {A : Option Addr} {n c : Nat}
theorem Cw.c0 (h : Cw w P X A n c wr) : wr.cell? ⟨P, 0, none⟩ = some (.int .u64 (X.low : Int)) := row_at h.row rfl
theorem Cw.c1 (h : Cw w P X A n c wr) : wr.cell? ⟨P, 1, none⟩ = some (.int .u64 (X.width : Int)) := row_at h.row rfl
theorem Cw.c2 (h : Cw w P X A n c wr) : wr.cell? ⟨P, 2, none⟩ = some (.slice A n c) := row_at h.row rfl
theorem Cw.z0 (h : Cw w P X A n c wr) : wr.cell? ⟨P + 1, 0, none⟩ = some (.int .u64 0) := row_at h.res rfl
theorem Cw.z1 (h : Cw w P X A n c wr) : wr.cell? ⟨P + 1, 1, none⟩ = some (.int .u64 0) := row_at h.res rfl
theorem Cw.z2 (h : Cw w P X A n c wr) : wr.cell? ⟨P + 1, 2, none⟩ = some (.slice none 0 0) := row_at h.res rfl
theorem Cw.frz (h : Cw w P X A n c wr) (i : Nat) : wr.frozen? ⟨P, i, none⟩ = false := frz_row (i := i) h.row
theorem Cw.frz' (h : Cw w P X A n c wr) (i : Nat) : wr.frozen? ⟨P + 1, i, none⟩ = false := frz_row (i := i) h.res
theorem Cw.lt (h : Cw w P X A n c wr) : P + 1 < wr.heap.size := (Array.getElem?_eq_some_iff.1 h.res).1
theorem Cw.next (h : Cw w P X A n c wr) (hb : Below wr.heap.size wr wr') : Cw w P X A n c wr' :=
  ⟨(hb.block _ (by have := h.lt; omega)).trans h.row, (hb.block _ h.lt).trans h.res, h.sn.on hb (Nat.le_refl _), h.bel.trans (hb.mono (by have := h.lt; omega)), h.far⟩
theorem sn_off {w : World} {B : Nat} {A : Option Addr} {n c k : Nat} {xs : List Value} {p : Addr} (h : Sn w B A n c k xs) (hp : 0 < n → ∀ b o, A = some ⟨b, o, none⟩ → b ≠ p.block) (u : Value) : Sn (w.setCell p u) B A n c k xs := by
  refine ⟨h.len, h.le, h.max, fun hn => ?_⟩
  obtain ⟨b, o, e, hb, hc⟩ := h.cell hn
  refine ⟨b, o, e, hb, fun j x hx => ?_⟩
  rw [World.cell?_setCell_other _ p _ _ (fun e2 => hp (by rcases Nat.eq_zero_or_pos n with h0 | h0 <;> first | exact h0 | (rw [h0] at hn; simp at hn)) b o e (by rw [e2]))]
  exact hc j x hx
theorem Cw.low (h : Cw w P X A n c wr) (lo : Nat) : Cw w P ⟨lo, X.width, X.l⟩ A n c (wr.setCell ⟨P, 0, none⟩ (.int .u64 (lo : Int))) :=
  ⟨row_put h.row 0 _, (row_off' _ (by omega)).trans h.res, by rw [World.size_setCell]; exact sn_off h.sn (fun h0 b o e => (h.far h0 b o e).1) _, h.bel.setCell (Nat.le_refl _) _, h.far⟩
end
theorem OwnN.low_base {w : World} {base base' n c : Nat} {A : Option Addr} {l : List Nat} (h : OwnN w base A n c l) (hb : base' ≤ base) : OwnN w base' A n c l :=
  ⟨h.1, h.2.imp id fun ⟨g, cap, cur, hv, h3, r⟩ => ⟨g, cap, cur, hv, Nat.le_trans hb h3, r⟩⟩
theorem OwnN.snoc {w' : World} {base n c x : Nat} {A : Option Addr} {l : List Nat} (h : w'.ownsRow base 25 1 (.slice A (n + 1) c) (n + 1) (nvs l ++ nvs [x])) : OwnN w' base A (n + 1) c (l ++ [x]) := by
  unfold OwnN
  rw [show nvs (l ++ [x]) = nvs l ++ nvs [x] from by simp [nvs]]
  exact h
/-- The row is stored into the box, the box copied to the result's cell. -/
theorem Cw.fin {w wr : World} {P base : Nat} {X : Wr} {A : Option Addr} {n c : Nat} (h : Cw w P X A n c wr) {Al : Option Addr} {nl cl : Nat} {l : List Nat} (ho : OwnN wr base Al nl cl l) (hb : P + 2 ≤ base) :
    ((wr.setCell ⟨P, 2, none⟩ (.slice Al nl cl)).cell? ⟨P, 0, none⟩ = some (.int .u64 (X.low : Int)) ∧ (wr.setCell ⟨P, 2, none⟩ (.slice Al nl cl)).cell? ⟨P, 1, none⟩ = some (.int .u64 (X.width : Int)) ∧ (wr.setCell ⟨P, 2, none⟩ (.slice Al nl cl)).cell? ⟨P, 2, none⟩ = some (.slice Al nl cl)) ∧
    (wr.setCell ⟨P, 2, none⟩ (.slice Al nl cl)).heap[P + 1]? = some (.cells #[.int .u64 0, .int .u64 0, .slice none 0 0] 34 (0, 0)) ∧
    OwnN (set3 (wr.setCell ⟨P, 2, none⟩ (.slice Al nl cl)) (P + 1) (.int .u64 (X.low : Int)) (.int .u64 (X.width : Int)) (.slice Al nl cl)) base Al nl cl l ∧
    Below P w (set3 (wr.setCell ⟨P, 2, none⟩ (.slice Al nl cl)) (P + 1) (.int .u64 (X.low : Int)) (.int .u64 (X.width : Int)) (.slice Al nl cl)) := by
  have hr := row_put h.row 2 (.slice Al nl cl)
  have hs : (wr.setCell ⟨P, 2, none⟩ (.slice Al nl cl)).heap[P + 1]? = some (.cells #[.int .u64 0, .int .u64 0, .slice none 0 0] 34 (0, 0)) := (row_off' _ (by omega)).trans h.res
  refine ⟨⟨row_at hr rfl, row_at hr rfl, row_at hr rfl⟩, hs, own_same ho fun b e => ?_, set3_below (h.bel.setCell (Nat.le_refl _) _) (by omega) _ _ _⟩
  have hbb := (ho.lt b e).1
  unfold set3
  rw [row_off' _ (by omega), row_off' _ (by omega), row_off' _ (by omega), row_off' _ (by omega)]
/-- A window of the reference's is handed back: X, its Low as great as it may be; its row is new. -/
def SaysC (w : World) (X : Wr) (e : Ending) (w' : World) : Prop := ∃ Y A n c, e = .returned (.agg #[.int .u64 (Y.low : Int), .int .u64 (Y.width : Int), .slice A n c]) ∧ Closed X Y ∧ OwnN w' w.heap.size A n c Y.l ∧ Below w.heap.size w w'
def CRel1 (w : World) (X : Wr) (A : Option Addr) (n c : Nat) (gk : Nat) (wr : World) : Prop :=
  ∃ lo : Nat, gk + lo = 9000000000000000000 ∧ Cw w w.heap.size ⟨lo, X.width, X.l⟩ A n c wr ∧ X.low ≤ lo ∧ ∀ y, X.low < y → y ≤ lo → y ∈ X.l
def CRel2 (w5 : World) (X : Wr) (lo n : Nat) (gk : Nat) (vl vi : Value) (wr : World) : Prop :=
  ∃ (i : Nat) (Al : Option Addr) (nl cl : Nat), gk + i = n ∧ vi = .int .i64 (i : Int) ∧ vl = .slice Al nl cl ∧ OwnN wr w5.heap.size Al nl cl ((X.l.take i).filter (fun x => decide (lo < x))) ∧ Below w5.heap.size w5 wr
set_option maxRecDepth 100000 in
set_option maxHeartbeats 2000000 in
theorem closed_any (w : World) (A : Option Addr) (n c : Nat) (X : Wr) (h : Sn w w.heap.size A n c 1 (nvs X.l)) (hl : X.low < 9000000000000000000) (hm : ∀ y ∈ X.l, y < 9000000000000000000) (hn : n ≤ 200) :
    Calls Try.prog 32 #[.agg #[.int .u64 (X.low : Int), .int .u64 (X.width : Int), .slice A n c]] w (SaysC w X) := by
  obtain ⟨i0, hi0, hz0, hz1, hz2⟩ := info_parts u64_info
  have hb := two_boxes w (.int .u64 (X.low : Int)) (.int .u64 (X.width : Int)) (.slice A n c) 34 (.int .u64 0) (.int .u64 0) (.slice none 0 0)
  have hcw : Cw w w.heap.size X A n c ((w.alloc (Obj.cells #[.int .u64 (X.low : Int), .int .u64 (X.width : Int), .slice A n c] 34)).alloc (Obj.cells #[.int .u64 0, .int .u64 0, .slice none 0 0] 34)) :=
    ⟨hb.2.1, hb.2.2, h.on hb.1 (Nat.le_refl _), hb.1, fun h0 b o e => by
      obtain ⟨b', o', e', hb', _⟩ := h.cell (by omega)
      rw [e] at e'
      injection e' with e'
      injection e' with e1
      omega⟩
  have HC := Lib.hid hcw
  have HM := Lib.hid hm
  have HL : Hid (X.l.length = n) := by have := h.len; rw [nvs_len] at this; show _ = _; omega
  have HN := Lib.hid hn
  have hnm : n ≤ 200 := hn
  clear h hb hcw hm hn
  go_enter Try.func32, Try.ntmps32
  go_wp2_with fail
  generalize (w.alloc (Obj.cells #[.int .u64 (X.low : Int), .int .u64 (X.width : Int), .slice A n c] 34)).alloc (Obj.cells #[.int .u64 0, .int .u64 0, .slice none 0 0] 34) = w2 at *
  go_loopg [] (9000000000000000000 - X.low) (fun gk wr => CRel1 w X A n c gk wr)
  case atStart => exact ⟨X.low, by omega, HC.out, Nat.le_refl _, fun y h1 h2 => by omega⟩
  case round =>
    clear HC
    obtain ⟨lo, hg, hcw, hle, hall⟩ := hrel
    have HC := Lib.hid hcw
    have HG := Lib.hid hg
    have HA := Lib.hid (And.intro hle hall)
    clear hcw hle hall
    obtain ⟨lo1, hlo1⟩ : ∃ x, x = lo + 1 := ⟨_, rfl⟩
    have hlo1I : (lo : Int) + 1 = (lo1 : Int) := by omega
    have hlo1b : lo1 < 18446744073709551616 := by omega
    have HH := Lib.hid (refHad_any wr A n c ⟨lo, X.width, X.l⟩ HC.out.sn lo1)
    have HLO : Hid (lo1 = lo + 1) := hlo1
    have hx0 := HC.out.c0
    have hx1 := HC.out.c1
    have hx2 := HC.out.c2
    clear hlo1 hg
    cases hhd : hadR ⟨lo, X.width, X.l⟩ lo1
    · rw [hhd] at HH
      have HSTOP : Hid (lo + 1 ∉ X.l) := fun hmem => by
        unfold hadR at hhd
        rw [HLO.out] at hhd
        simp [hmem] at hhd
      clear hhd
      go_wp2_with fail
      refine HH.out.mono ?_
      rintro e w3 ⟨rfl, hb3⟩
      have HC3 := Lib.hid (HC.out.next hb3)
      clear hb3 HC HH hx0 hx1 hx2
      have hx0 := HC3.out.c0
      have hx1 := HC3.out.c1
      have hx2 := HC3.out.c2
      go_wp2_with fail
      go_loopg [3, 18] n (fun gk vl vi wr => CRel2 w3 X lo n gk vl vi wr)
      case atStart => exact ⟨0, none, 0, 0, by omega, rfl, rfl, ⟨rfl, .inl ⟨rfl, rfl⟩⟩, Below.refl _ _⟩
      case round =>
        obtain ⟨i, Al, nl, cl, hg2, rfl, rfl, hown, hbel⟩ := hrel
        have HG2 := Lib.hid hg2
        have HC5 := Lib.hid (HC3.out.next hbel)
        have HO5 := Lib.hid hown
        have HB5 := Lib.hid hbel
        have HNL : Hid (nl ≤ n) := by
          have h1 := hown.len
          have h2 := List.length_filter_le (fun x => decide (lo < x)) (X.l.take i)
          rw [List.length_take] at h2
          have := HL.out
          show nl ≤ n
          omega
        clear hg2 hown hbel hx0 hx1 hx2
        by_cases hi : i < n
        · obtain ⟨b, o, x, rfl, hb, hx, hc⟩ := nv_at HC5.out.sn hi
          have hiI : (i : Int) < (n : Int) := by omega
          have hi0I : (0 : Int) ≤ (i : Int) := by omega
          have hx0 := HC5.out.c0
          have HTK : Hid (X.l.take (i + 1) = X.l.take i ++ [x]) := by
            show _ = _
            rw [List.take_add_one, show X.l[i]? = some x from hx]
            rfl
          clear hx hb
          by_cases hlx : lo < x
          · have hlxI : (lo : Int) < (x : Int) := by omega
            have HF : Hid ((X.l.take (i + 1)).filter (fun x => decide (lo < x)) = (X.l.take i).filter (fun x => decide (lo < x)) ++ [x]) := by
              show _ = _
              rw [HTK.out, List.filter_append]
              simp [hlx]
            have HOA : Hid (OwnN (wr.alloc (.cells #[.int .u64 (x : Int)] 25)) w3.heap.size Al nl cl ((X.l.take i).filter (fun x => decide (lo < x)))) := own_same HO5.out fun b e => (below_box wr _).block b (HO5.out.lt b e).2
            have HBA : Hid (Below w3.heap.size w3 (wr.alloc (.cells #[.int .u64 (x : Int)] 25))) := HB5.out.trans ((below_box wr _).mono HB5.out.size)
            have HSQ := Lib.hid (lit_nums wr [x] 1 rfl (by unfold maxLen; omega))
            clear hlx
            obtain ⟨ll, hll⟩ : ∃ ll, (X.l.take i).filter (fun x => decide (lo < x)) = ll := ⟨_, rfl⟩
            rw [hll] at HF HOA
            clear hll
            go_wp2_with (at_builtin; (refine wpList_append_dstN _ rfl (.tmp 26) (.tmp 28) 32 32 rfl w3.heap.size 25 i0 _ 1 8 Try.underlying32 hi0 hz0 hz1 hz2 rfl Al nl cl (nvs ll) rfl (.inr HOA.out) _ 1 (nvs [x]) rfl (HSQ.out.src Try.underlying32 (nvs_one _)) (by have := HNL.out; have := HN.out; omega) (by have := HNL.out; have := HN.out; omega) HBA.out.size ?_; intro Ae ce we h1 h2 h3 h4 h5 h6; have HOE := Lib.hid (OwnN.snoc (h3 HOA.out)); have HBE := Lib.hid (HBA.out.trans h4); clear h1 h2 h3 h4 h5 h6))
            go_roundg (n - (i + 1))
            case measure => have := HG2.out; omega
            case rel => exact ⟨i + 1, Ae, nl + 1, ce, by have := HG2.out; omega, by go_num, rfl, by rw [HF.out]; exact HOE.out, HBE.out⟩
          · have hlxI : ¬ (lo : Int) < (x : Int) := by omega
            have HF : Hid ((X.l.take (i + 1)).filter (fun x => decide (lo < x)) = (X.l.take i).filter (fun x => decide (lo < x))) := by
              show _ = _
              rw [HTK.out, List.filter_append]
              simp [hlx]
            clear hlx
            go_wp2
            go_roundg (n - (i + 1))
            case measure => have := HG2.out; omega
            case rel => exact ⟨i + 1, Al, nl, cl, by have := HG2.out; omega, by go_num, rfl, by rw [HF.out]; exact HO5.out, HB5.out⟩
        · have hiI : ¬ (i : Int) < (n : Int) := by omega
          have HE : Hid (X.l.take i = X.l) := List.take_of_length_le (by have := HL.out; have := HG2.out; omega)
          rw [HE.out] at HO5
          have hfin := HC5.out.fin HO5.out (by have := HC3.out.lt; omega)
          obtain ⟨⟨q0, q1, q2⟩, hres, hown, hbel⟩ := hfin
          have hf2 := HC5.out.frz 2
          have hx2 := HC5.out.c2
          have hz0' := row_at (i := 0) hres rfl
          have hz1' := row_at (i := 1) hres rfl
          have hz2' := row_at (i := 2) hres rfl
          have hg0 := frz_row (i := 0) hres
          have hg1 := frz_row (i := 1) hres
          have hg2 := frz_row (i := 2) hres
          have HS3 := Lib.hid (set3_row hres (.int .u64 (lo : Int)) (.int .u64 (X.width : Int)) (.slice Al nl cl))
          have HFIN : Hid (SaysC w X (.returned (.agg #[.int .u64 (lo : Int), .int .u64 (X.width : Int), .slice Al nl cl])) (set3 (wr.setCell ⟨w.heap.size, 2, none⟩ (.slice Al nl cl)) (w.heap.size + 1) (.int .u64 (lo : Int)) (.int .u64 (X.width : Int)) (.slice Al nl cl))) :=
            ⟨⟨lo, X.width, X.l.filter (fun x => decide (lo < x))⟩, Al, nl, cl, rfl, ⟨rfl, HA.out.1, HA.out.2, HSTOP.out, rfl⟩, hown.low_base (by have := HC3.out.lt; omega), hbel⟩
          clear hres hown hbel
          go_wp2
          have r := HS3.out
          have r0 := row_at (i := 0) r rfl
          have r1 := row_at (i := 1) r rfl
          have r2 := row_at (i := 2) r rfl
          have hres := HFIN.out
          unfold set3 at r0 r1 r2 hres
          exact bodyPost_ret (v := .agg #[.int .u64 (lo : Int), .int .u64 (X.width : Int), .slice Al nl cl]) (by simp [results, Try.results32, go_sem, r0, r1, r2]) rfl hres
    · rw [hhd] at HH
      have HMEM : Hid (lo1 ∈ X.l) := by
        show _ ∈ _
        unfold hadR at hhd
        rw [HLO.out] at hhd ⊢
        simp only [Bool.or_eq_true, decide_eq_true_iff] at hhd
        rcases hhd with h1 | h1
        · exact h1
        · exact absurd (show lo + 1 ≤ lo from h1) (by omega)
      clear hhd
      go_wp2_with fail
      refine HH.out.mono ?_
      rintro e w3 ⟨rfl, hb3⟩
      have HC3 := Lib.hid (HC.out.next hb3)
      clear hb3 HC HH hx0 hx1 hx2
      have hx0 := HC3.out.c0
      have hf0 := HC3.out.frz 0
      go_wp2
      go_roundg (gk - 1)
      case measure => have := HG.out; have := HM.out _ HMEM.out; have := HLO.out; omega
      case rel => exact ⟨lo1, by have := HG.out; have := HM.out _ HMEM.out; have := HLO.out; omega, HC3.out.low lo1, by have := HA.out.1; have := HLO.out; omega, fun y h1 h2 => by
        rcases Nat.lt_or_ge y lo1 with h3 | h3
        · exact HA.out.2 y h1 (by have := HLO.out; omega)
        · obtain rfl : y = lo1 := by omega
          exact HMEM.out⟩
end Go.Proofs.Ythhmgbeigeagdaa
namespace Go.Proofs.Ythhmgbeigeagdaa
open Go.RowKit

set_option maxRecDepth 100000 in
set_option maxHeartbeats 1000000 in
theorem refTakes_any (w : World) (A : Option Addr) (n c : Nat) (X : Wr) (h : Sn w w.heap.size A n c 1 (nvs X.l)) (hs : X.low + X.width < two64) (k : Nat) :
    Calls Try.prog 12 #[.agg #[.int .u64 (X.low : Int), .int .u64 (X.width : Int), .slice A n c], .int .u64 (k : Int)] w (Says w (.bool (takesR X k))) := by
  obtain ⟨hbx, y0, y1, y2⟩ := box_cells w (.int .u64 (X.low : Int)) (.int .u64 (X.width : Int)) (.slice A n c) 34
  have HH := Lib.hid (refHad_any _ A n c X (h.on hbx (Nat.le_refl _)) k)
  have HB := Lib.hid hbx
  obtain ⟨s, hs'⟩ : ∃ s, s = X.low + X.width := ⟨_, rfl⟩
  have hsI : (X.low : Int) + (X.width : Int) = (s : Int) := by omega
  have hsw : IntKind.u64.wrap (s : Int) = (s : Int) := by rw [IntKind.wrap_u64]; unfold two64 at hs; omega
  have hsb : s < 18446744073709551616 := by unfold two64 at hs; omega
  obtain ⟨R, HR⟩ : ∃ R, Hid (takesR X k = R) := ⟨_, rfl⟩
  rw [HR.out]
  by_cases hk : k ≤ s
  · have hkI : (k : Int) ≤ (s : Int) := by omega
    have ht : Hid (R = !hadR X k) := by
      show R = _
      rw [← HR.out]
      unfold takesR
      rw [← hs']
      simp [hk]
    clear h hbx hs hs' hk
    go_enter Try.func12, Try.ntmps12
    go_wp2_with fail
    generalize w.alloc (Obj.cells #[.int .u64 (X.low : Int), .int .u64 (X.width : Int), .slice A n c] 34) = w1 at *
    refine HH.out.mono ?_
    rintro e w2 ⟨rfl, hb2⟩
    go_wp2
    go_ret
    rw [ht.out]
    exact ⟨rfl, HB.out.trans (hb2.mono HB.out.size)⟩
  · have hkI : ¬ (k : Int) ≤ (s : Int) := by omega
    have hkN : decide (k ≤ s) = false := by simp; omega
    have ht : Hid (R = false) := by
      show R = _
      rw [← HR.out]
      unfold takesR
      rw [← hs']
      simp [hk]
    clear h hbx hs hs' hk HH
    go_enter Try.func12, Try.ntmps12
    go_wp2
    go_ret
    rw [ht.out]
    exact ⟨rfl, HB.out⟩
/-- A window of the reference's is handed back: its row is the old one or a new one. -/
def SaysQ (w : World) (A : Option Addr) (n : Nat) (p : Wr → Prop) (e : Ending) (w' : World) : Prop :=
  ∃ Y A' n' c', e = .returned (.agg #[.int .u64 (Y.low : Int), .int .u64 (Y.width : Int), .slice A' n' c']) ∧ p Y ∧ Sn w' w'.heap.size A' n' c' 1 (nvs Y.l) ∧ Below w.heap.size w w' ∧ (∀ b o, A' = some ⟨b, o, none⟩ → (A' = A ∧ n' = n) ∨ w.heap.size ≤ b)
theorem Cw.start {w : World} {A : Option Addr} {n c : Nat} {X : Wr} (h : Sn w w.heap.size A n c 1 (nvs X.l)) :
    Cw w w.heap.size X A n c ((w.alloc (Obj.cells #[.int .u64 (X.low : Int), .int .u64 (X.width : Int), .slice A n c] 34)).alloc (Obj.cells #[.int .u64 0, .int .u64 0, .slice none 0 0] 34)) := by
  have hb := two_boxes w (.int .u64 (X.low : Int)) (.int .u64 (X.width : Int)) (.slice A n c) 34 (.int .u64 0) (.int .u64 0) (.slice none 0 0)
  exact ⟨hb.2.1, hb.2.2, h.on hb.1 (Nat.le_refl _), hb.1, fun h0 b o e => by
      obtain ⟨b', o', e', hb', _⟩ := h.cell (by omega)
      rw [e] at e'
      injection e' with e'
      injection e' with e1
      omega⟩
/-- What closed handed back lies in the result's cell. -/
theorem closed_fin {w w9 w' : World} {P : Nat} {Y : Wr} {A' : Option Addr} {n' c' : Nat} {a b x : Value} (_hP : w.heap.size = P) (h9 : w9.heap[P + 1]? = some (.cells #[a, b, x] 34 (0, 0))) (hb9 : Below P w w9) (hown : OwnN w' w9.heap.size A' n' c' Y.l) (hbel : Below w9.heap.size w9 w') :
    w'.heap[P + 1]? = some (.cells #[a, b, x] 34 (0, 0)) ∧
    Sn (set3 w' (P + 1) (.int .u64 (Y.low : Int)) (.int .u64 (Y.width : Int)) (.slice A' n' c')) (set3 w' (P + 1) (.int .u64 (Y.low : Int)) (.int .u64 (Y.width : Int)) (.slice A' n' c')).heap.size A' n' c' 1 (nvs Y.l) ∧
    Below P w (set3 w' (P + 1) (.int .u64 (Y.low : Int)) (.int .u64 (Y.width : Int)) (.slice A' n' c')) ∧ (∀ b o, A' = some ⟨b, o, none⟩ → P ≤ b) := by
  have hlt : P + 1 < w9.heap.size := (Array.getElem?_eq_some_iff.1 h9).1
  have hrow := (hbel.block _ hlt).trans h9
  have hge : ∀ b o, A' = some ⟨b, o, none⟩ → w9.heap.size ≤ b := fun b o e => by subst e; exact (hown.lt b rfl).1
  have ho2 : OwnN (set3 w' (P + 1) (.int .u64 (Y.low : Int)) (.int .u64 (Y.width : Int)) (.slice A' n' c')) w9.heap.size A' n' c' Y.l := own_same hown fun b e => by
    have := (hown.lt b e).1
    unfold set3
    rw [row_off' _ (by omega), row_off' _ (by omega), row_off' _ (by omega)]
  exact ⟨hrow, Sn.of_own ho2, set3_below (hb9.trans (hbel.mono (by omega))) (by omega) _ _ _, fun b o e => by have := hge b o e; omega⟩
set_option maxRecDepth 100000 in
set_option maxHeartbeats 2000000 in
theorem refPut_any (w : World) (A : Option Addr) (n c : Nat) (X : Wr) (h : Sn w w.heap.size A n c 1 (nvs X.l)) (hl : X.low < 9000000000000000000) (hm : ∀ y ∈ X.l, y < 9000000000000000000) (hn : n ≤ 190) (hs : X.low + X.width < 9000000000000000000) (k : Nat) :
    Calls Try.prog 17 #[.agg #[.int .u64 (X.low : Int), .int .u64 (X.width : Int), .slice A n c], .int .u64 (k : Int)] w (SaysQ w A n (fun Y => (takesR X k = false ∧ Y = X) ∨ (takesR X k = true ∧ Closed ⟨X.low, X.width, X.l ++ [k]⟩ Y))) := by
  obtain ⟨i0, hi0, hz0, hz1, hz2⟩ := info_parts u64_info
  have HC := Lib.hid (Cw.start h)
  have HM := Lib.hid hm
  have HL : Hid (X.l.length = n) := by have := h.len; rw [nvs_len] at this; show _ = _; omega
  have HN := Lib.hid hn
  have HLO := Lib.hid (And.intro hl hs)
  clear h hm hn hl hs
  go_enter Try.func17, Try.ntmps17
  go_wp2_with fail
  generalize (w.alloc (Obj.cells #[.int .u64 (X.low : Int), .int .u64 (X.width : Int), .slice A n c] 34)).alloc (Obj.cells #[.int .u64 0, .int .u64 0, .slice none 0 0] 34) = w2 at *
  have hx0 := HC.out.c0
  have hx1 := HC.out.c1
  have hx2 := HC.out.c2
  refine (refTakes_any w2 A n c X HC.out.sn (by have := HLO.out.2; unfold two64; omega) k).mono ?_
  rintro e w3 ⟨rfl, hb3⟩
  have HC3 := Lib.hid (HC.out.next hb3)
  clear hb3 HC hx0 hx1 hx2
  have hx0 := HC3.out.c0
  have hx1 := HC3.out.c1
  have hx2 := HC3.out.c2
  cases htk : takesR X k
  · have HTK := Lib.hid htk
    clear htk
    have hz0' := HC3.out.z0
    have hz1' := HC3.out.z1
    have hz2' := HC3.out.z2
    have hg0 := HC3.out.frz' 0
    have hg1 := HC3.out.frz' 1
    have hg2 := HC3.out.frz' 2
    have hr := set3_row HC3.out.res (.int .u64 (X.low : Int)) (.int .u64 (X.width : Int)) (.slice A n c)
    have HR := Lib.hid hr
    have HFIN : Hid (SaysQ w A n (fun Y => (takesR X k = false ∧ Y = X) ∨ (takesR X k = true ∧ Closed ⟨X.low, X.width, X.l ++ [k]⟩ Y)) (.returned (.agg #[.int .u64 (X.low : Int), .int .u64 (X.width : Int), .slice A n c])) (set3 w3 (w.heap.size + 1) (.int .u64 (X.low : Int)) (.int .u64 (X.width : Int)) (.slice A n c))) :=
      ⟨X, A, n, c, rfl, .inl ⟨HTK.out, rfl⟩, by
        rw [set3_size]
        unfold set3
        exact sn_off (sn_off (sn_off HC3.out.sn (fun h0 b o e => (HC3.out.far h0 b o e).2) _) (fun h0 b o e => (HC3.out.far h0 b o e).2) _) (fun h0 b o e => (HC3.out.far h0 b o e).2) _, set3_below HC3.out.bel (by omega) _ _ _, fun b o e => .inl ⟨rfl, rfl⟩⟩
    clear hr
    go_wp2
    have r0 := row_at (i := 0) HR.out rfl
    have r1 := row_at (i := 1) HR.out rfl
    have r2 := row_at (i := 2) HR.out rfl
    have hres := HFIN.out
    unfold set3 at r0 r1 r2 hres
    exact bodyPost_ret (v := .agg #[.int .u64 (X.low : Int), .int .u64 (X.width : Int), .slice A n c]) (by simp [results, Try.results17, go_sem, r0, r1, r2]) rfl hres
  · have hk9 : k < 9000000000000000000 := by
      have htk2 := htk
      unfold takesR at htk2
      simp only [Bool.and_eq_true, decide_eq_true_iff] at htk2
      have := HLO.out.2
      omega
    have HK9 := Lib.hid hk9
    have HTK := Lib.hid htk
    clear hk9 htk
    have HO0 : Hid (OwnN (w3.alloc (.cells #[] 25)) w3.heap.size (some ⟨w3.heap.size, 0, none⟩) 0 0 []) := ⟨rfl, .inr ⟨w3.heap.size, 0, _, rfl, Nat.le_refl _, heap_alloc_new w3 _, Nat.le_refl _, by unfold maxLen; omega, rfl, rfl⟩⟩
    have HC3a := Lib.hid (HC3.out.next (below_box w3 (.cells #[] 25)))
    have hx2a := HC3a.out.c2
    have HPL : Hid (w.heap.size + 2 ≤ w3.heap.size) := by have := HC3.out.lt; show _ ≤ _; omega
    clear hx0 hx1 hx2
    go_wp2_with (at_builtin; first
      | (refine wpList_append_dstN _ rfl (.tmp 10) (.tmp 12) 32 32 rfl w3.heap.size 25 i0 _ 1 8 Try.underlying32 hi0 hz0 hz1 hz2 rfl _ 0 0 (nvs []) rfl (.inr HO0.out) _ n (nvs X.l) rfl (HC3a.out.sn.src Try.underlying32 (nvs_one _)) (by have := HN.out; omega) (by have := HN.out; omega) (by simp) ?_; intro A7 c7 w7 h1 h2 h3 h4 h5 h6; have HO7 : Hid (OwnN w7 w3.heap.size A7 n c7 X.l) := (by have h := h3 HO0.out; rw [Nat.zero_add] at h; exact h); have HB37 : Hid (Below w3.heap.size w3 w7) := (below_box w3 _).trans (h4.mono (Nat.le_refl _)); have HSQ := Lib.hid (lit_nums w7 [k] 1 rfl (by unfold maxLen; omega)); have HO7a : Hid (OwnN (w7.alloc (.cells #[.int .u64 (k : Int)] 25)) w3.heap.size A7 n c7 X.l) := own_same HO7.out (fun b e => (below_box w7 _).block b (HO7.out.lt b e).2); have HB7a : Hid (Below w3.heap.size w3 (w7.alloc (.cells #[.int .u64 (k : Int)] 25))) := HB37.out.trans ((below_box w7 _).mono HB37.out.size); clear h1 h2 h3 h4 h5 h6)
      | (refine wpList_append_dstN _ rfl (.tmp 13) (.tmp 15) 32 32 rfl w3.heap.size 25 i0 _ 1 8 Try.underlying32 hi0 hz0 hz1 hz2 rfl _ n _ (nvs X.l) rfl (.inr HO7a.out) _ 1 (nvs [k]) rfl (HSQ.out.src Try.underlying32 (nvs_one _)) (by have := HN.out; omega) (by have := HN.out; omega) HB7a.out.size ?_; intro A8 c8 w8 h1 h2 h3 h4 h5 h6; have HO8 : Hid (OwnN w8 w3.heap.size A8 (n + 1) c8 (X.l ++ [k])) := OwnN.snoc (h3 HO7a.out); have HB38 : Hid (Below w3.heap.size w3 w8) := HB7a.out.trans h4; clear h1 h2 h3 h4 h5 h6; have HC8 := Lib.hid (HC3.out.next HB38.out); have hy2 := HC8.out.c2; have hf2 := HC8.out.frz 2; have hfin := HC8.out.fin HO8.out HPL.out; obtain ⟨⟨q0, q1, q2⟩, hr9, _, _⟩ := hfin; have HR9 := Lib.hid hr9; clear hr9; have HO9 : Hid (OwnN (w8.setCell ⟨w.heap.size, 2, none⟩ (.slice A8 (n + 1) c8)) w3.heap.size A8 (n + 1) c8 (X.l ++ [k])) := own_same HO8.out (fun b e => row_off' _ (by have := (HO8.out.lt b e).1; have := HPL.out; omega)); have HB9 : Hid (Below w.heap.size w (w8.setCell ⟨w.heap.size, 2, none⟩ (.slice A8 (n + 1) c8))) := HC8.out.bel.setCell (Nat.le_refl _) _))
    refine (closed_any _ A8 (n + 1) c8 ⟨X.low, X.width, X.l ++ [k]⟩ (Sn.of_own HO9.out) HLO.out.1 (fun y hy => by
      rcases List.mem_append.1 hy with h1 | h1
      · exact HM.out y h1
      · rw [List.mem_singleton] at h1
        exact h1 ▸ HK9.out) (by have := HN.out; omega)).mono ?_
    generalize w8.setCell ⟨w.heap.size, 2, none⟩ (.slice A8 (n + 1) c8) = w9 at *
    rintro e w10 ⟨Y, A', n', c', rfl, hcl, hown, hbel⟩
    have hfin := closed_fin rfl HR9.out HB9.out hown hbel
    obtain ⟨hres, hsn, hbw, hge⟩ := hfin
    have hz0' := row_at (i := 0) hres rfl
    have hz1' := row_at (i := 1) hres rfl
    have hz2' := row_at (i := 2) hres rfl
    have hg0 := frz_row (i := 0) hres
    have hg1 := frz_row (i := 1) hres
    have hg2 := frz_row (i := 2) hres
    have HR := Lib.hid (set3_row hres (.int .u64 (Y.low : Int)) (.int .u64 (Y.width : Int)) (.slice A' n' c'))
    have HFIN : Hid (SaysQ w A n (fun Y => (takesR X k = false ∧ Y = X) ∨ (takesR X k = true ∧ Closed ⟨X.low, X.width, X.l ++ [k]⟩ Y)) (.returned (.agg #[.int .u64 (Y.low : Int), .int .u64 (Y.width : Int), .slice A' n' c'])) (set3 w10 (w.heap.size + 1) (.int .u64 (Y.low : Int)) (.int .u64 (Y.width : Int)) (.slice A' n' c'))) :=
      ⟨Y, A', n', c', rfl, .inr ⟨HTK.out, hcl⟩, hsn, hbw, fun b o e => .inr (hge b o e)⟩
    clear hres hsn hbw hge hown hbel hcl
    go_wp2
    have r0 := row_at (i := 0) HR.out rfl
    have r1 := row_at (i := 1) HR.out rfl
    have r2 := row_at (i := 2) HR.out rfl
    have hres := HFIN.out
    unfold set3 at r0 r1 r2 hres
    exact bodyPost_ret (v := .agg #[.int .u64 (Y.low : Int), .int .u64 (Y.width : Int), .slice A' n' c']) (by simp [results, Try.results17, go_sem, r0, r1, r2]) rfl hres
end Go.Proofs.Ythhmgbeigeagdaa
namespace Go.Proofs.Ythhmgbeigeagdaa
open Go.RowKit

set_option maxRecDepth 100000 in
set_option maxHeartbeats 2000000 in
theorem refSkip_any (w : World) (A : Option Addr) (n c : Nat) (X : Wr) (h : Sn w w.heap.size A n c 1 (nvs X.l)) (hl : X.low < 9000000000000000000) (hm : ∀ y ∈ X.l, y < 9000000000000000000) (hn : n ≤ 190) (k : Nat) (hk9 : k < 9000000000000000000) :
    Calls Try.prog 19 #[.agg #[.int .u64 (X.low : Int), .int .u64 (X.width : Int), .slice A n c], .int .u64 (k : Int)] w (SaysQ w A n (fun Y => Closed ⟨skipLow X k, X.width, X.l⟩ Y)) := by
  have HC := Lib.hid (Cw.start h)
  have HST : Hid (∀ lo : Nat, Cw w w.heap.size ⟨lo, X.width, X.l⟩ A n c ((w.alloc (Obj.cells #[.int .u64 (lo : Int), .int .u64 (X.width : Int), .slice A n c] 34)).alloc (Obj.cells #[.int .u64 0, .int .u64 0, .slice none 0 0] 34))) := fun lo => Cw.start (X := ⟨lo, X.width, X.l⟩) h
  have HM := Lib.hid hm
  have HN := Lib.hid hn
  have HLO := Lib.hid hl
  clear h hm hn
  obtain ⟨lo, hlo⟩ : ∃ x, skipLow X k = x := ⟨_, rfl⟩
  rw [hlo]
  have HLO9 : Hid (lo < 9000000000000000000) := by
    show _ < _
    rw [← hlo]
    unfold skipLow
    split <;> omega
  have HLO0 : Hid (skipLow X k = lo) := hlo
  clear hlo hl
  by_cases h0 : 0 < k
  · have h0I : (0 : Int) < (k : Int) := by omega
    obtain ⟨k1, hk1⟩ : ∃ x, x = k - 1 := ⟨_, rfl⟩
    have hk1I : (k : Int) - 1 = (k1 : Int) := by omega
    have hk1w : IntKind.u64.wrap (k1 : Int) = (k1 : Int) := by rw [IntKind.wrap_u64]; omega
    have hk1b : k1 < 18446744073709551616 := by omega
    by_cases h1 : X.low < k1
    · have h1I : (X.low : Int) < (k1 : Int) := by omega
      obtain rfl : lo = k1 := by rw [← HLO0.out, hk1]; unfold skipLow; rw [if_pos ⟨h0, by omega⟩]
      clear h0 hk1 h1 hk9
      go_enter Try.func19, Try.ntmps19
      have hx0 := HC.out.c0
      have hf0 := HC.out.frz 0
      have HC9 := Lib.hid (HST.out lo)
      have hy0 := HC9.out.c0
      have hy1 := HC9.out.c1
      have hy2 := HC9.out.c2
      go_wp2_with fail
      refine (closed_any _ A n c ⟨lo, X.width, X.l⟩ HC9.out.sn HLO9.out HM.out (by have := HN.out; omega)).mono ?_
      have HR9 := Lib.hid HC9.out.res
      have HB9 := Lib.hid HC9.out.bel
      clear hx0 hf0 hy0 hy1 hy2 HC9 HC HST
      generalize (w.alloc (Obj.cells #[.int .u64 (lo : Int), .int .u64 (X.width : Int), .slice A n c] 34)).alloc (Obj.cells #[.int .u64 0, .int .u64 0, .slice none 0 0] 34) = w9 at *
      rintro e w10 ⟨Y, A', n', c', rfl, hcl, hown, hbel⟩
      have hfin := closed_fin rfl HR9.out HB9.out hown hbel
      obtain ⟨hres, hsn, hbw, hge⟩ := hfin
      have hz0' := row_at (i := 0) hres rfl
      have hz1' := row_at (i := 1) hres rfl
      have hz2' := row_at (i := 2) hres rfl
      have hg0 := frz_row (i := 0) hres
      have hg1 := frz_row (i := 1) hres
      have hg2 := frz_row (i := 2) hres
      have HR := Lib.hid (set3_row hres (.int .u64 (Y.low : Int)) (.int .u64 (Y.width : Int)) (.slice A' n' c'))
      have HFIN : Hid (SaysQ w A n (fun Y => Closed ⟨lo, X.width, X.l⟩ Y) (.returned (.agg #[.int .u64 (Y.low : Int), .int .u64 (Y.width : Int), .slice A' n' c'])) (set3 w10 (w.heap.size + 1) (.int .u64 (Y.low : Int)) (.int .u64 (Y.width : Int)) (.slice A' n' c'))) :=
        ⟨Y, A', n', c', rfl, hcl, hsn, hbw, fun b o e => .inr (hge b o e)⟩
      clear hres hsn hbw hge hown hbel hcl
      go_wp2
      have r0 := row_at (i := 0) HR.out rfl
      have r1 := row_at (i := 1) HR.out rfl
      have r2 := row_at (i := 2) HR.out rfl
      have hres := HFIN.out
      unfold set3 at r0 r1 r2 hres
      exact bodyPost_ret (v := .agg #[.int .u64 (Y.low : Int), .int .u64 (Y.width : Int), .slice A' n' c']) (by simp [results, Try.results19, go_sem, r0, r1, r2]) rfl hres
    · have h1I : ¬ (X.low : Int) < (k1 : Int) := by omega
      have h1N : decide (X.low < k1) = false := by simp; omega
      have h1D : decide ((X.low : Int) < (k1 : Int)) = false := by simp; omega
      obtain rfl : lo = X.low := by rw [← HLO0.out]; unfold skipLow; rw [if_neg (by omega)]
      clear h0 hk1 h1 hk9
      go_enter Try.func19, Try.ntmps19
      have hx0 := HC.out.c0
      have hx1 := HC.out.c1
      have hx2 := HC.out.c2
      go_wp2_with fail
      refine (closed_any _ A n c X HC.out.sn HLO.out HM.out (by have := HN.out; omega)).mono ?_
      have HR9 := Lib.hid HC.out.res
      have HB9 := Lib.hid HC.out.bel
      clear hx0 hx1 hx2 HC
      generalize (w.alloc (Obj.cells #[.int .u64 (X.low : Int), .int .u64 (X.width : Int), .slice A n c] 34)).alloc (Obj.cells #[.int .u64 0, .int .u64 0, .slice none 0 0] 34) = w9 at *
      rintro e w10 ⟨Y, A', n', c', rfl, hcl, hown, hbel⟩
      have hfin := closed_fin rfl HR9.out HB9.out hown hbel
      obtain ⟨hres, hsn, hbw, hge⟩ := hfin
      have hz0' := row_at (i := 0) hres rfl
      have hz1' := row_at (i := 1) hres rfl
      have hz2' := row_at (i := 2) hres rfl
      have hg0 := frz_row (i := 0) hres
      have hg1 := frz_row (i := 1) hres
      have hg2 := frz_row (i := 2) hres
      have HR := Lib.hid (set3_row hres (.int .u64 (Y.low : Int)) (.int .u64 (Y.width : Int)) (.slice A' n' c'))
      have HFIN : Hid (SaysQ w A n (fun Y => Closed ⟨X.low, X.width, X.l⟩ Y) (.returned (.agg #[.int .u64 (Y.low : Int), .int .u64 (Y.width : Int), .slice A' n' c'])) (set3 w10 (w.heap.size + 1) (.int .u64 (Y.low : Int)) (.int .u64 (Y.width : Int)) (.slice A' n' c'))) :=
        ⟨Y, A', n', c', rfl, hcl, hsn, hbw, fun b o e => .inr (hge b o e)⟩
      clear hres hsn hbw hge hown hbel hcl
      go_wp2
      have r0 := row_at (i := 0) HR.out rfl
      have r1 := row_at (i := 1) HR.out rfl
      have r2 := row_at (i := 2) HR.out rfl
      have hres := HFIN.out
      unfold set3 at r0 r1 r2 hres
      exact bodyPost_ret (v := .agg #[.int .u64 (Y.low : Int), .int .u64 (Y.width : Int), .slice A' n' c']) (by simp [results, Try.results19, go_sem, r0, r1, r2]) rfl hres
  · have h0I : ¬ (0 : Int) < (k : Int) := by omega
    have h0N : decide (0 < k) = false := by simp; omega
    have h0E : decide ((0 : Int) < (k : Int)) = false := by simp; omega
    obtain rfl : lo = X.low := by rw [← HLO0.out]; unfold skipLow; rw [if_neg (by omega)]
    clear h0 hk9
    go_enter Try.func19, Try.ntmps19
    have hx0 := HC.out.c0
    have hx1 := HC.out.c1
    have hx2 := HC.out.c2
    go_wp2_with fail
    refine (closed_any _ A n c X HC.out.sn HLO.out HM.out (by have := HN.out; omega)).mono ?_
    have HR9 := Lib.hid HC.out.res
    have HB9 := Lib.hid HC.out.bel
    clear hx0 hx1 hx2 HC
    generalize (w.alloc (Obj.cells #[.int .u64 (X.low : Int), .int .u64 (X.width : Int), .slice A n c] 34)).alloc (Obj.cells #[.int .u64 0, .int .u64 0, .slice none 0 0] 34) = w9 at *
    rintro e w10 ⟨Y, A', n', c', rfl, hcl, hown, hbel⟩
    have hfin := closed_fin rfl HR9.out HB9.out hown hbel
    obtain ⟨hres, hsn, hbw, hge⟩ := hfin
    have hz0' := row_at (i := 0) hres rfl
    have hz1' := row_at (i := 1) hres rfl
    have hz2' := row_at (i := 2) hres rfl
    have hg0 := frz_row (i := 0) hres
    have hg1 := frz_row (i := 1) hres
    have hg2 := frz_row (i := 2) hres
    have HR := Lib.hid (set3_row hres (.int .u64 (Y.low : Int)) (.int .u64 (Y.width : Int)) (.slice A' n' c'))
    have HFIN : Hid (SaysQ w A n (fun Y => Closed ⟨X.low, X.width, X.l⟩ Y) (.returned (.agg #[.int .u64 (Y.low : Int), .int .u64 (Y.width : Int), .slice A' n' c'])) (set3 w10 (w.heap.size + 1) (.int .u64 (Y.low : Int)) (.int .u64 (Y.width : Int)) (.slice A' n' c'))) :=
      ⟨Y, A', n', c', rfl, hcl, hsn, hbw, fun b o e => .inr (hge b o e)⟩
    clear hres hsn hbw hge hown hbel hcl
    go_wp2
    have r0 := row_at (i := 0) HR.out rfl
    have r1 := row_at (i := 1) HR.out rfl
    have r2 := row_at (i := 2) HR.out rfl
    have hres := HFIN.out
    unfold set3 at r0 r1 r2 hres
    exact bodyPost_ret (v := .agg #[.int .u64 (Y.low : Int), .int .u64 (Y.width : Int), .slice A' n' c']) (by simp [results, Try.results19, go_sem, r0, r1, r2]) rfl hres
end Go.Proofs.Ythhmgbeigeagdaa
