/-
  CONTRACTS of the reference's Has and lower.
  No statement is proved here.
-/
import Derived.Test.YtjgkfoldbnjpeaaRunsCard
namespace Go.Proofs.Ytjgkfoldbnjpeaa
open Go.RowKit

theorem drop_atR {l : List Rn} {k : Nat} {r : Rn} (h : l[k]? = some r) : l.drop k = r :: l.drop (k + 1) := by
  obtain ⟨hk, rfl⟩ := List.getElem?_eq_some_iff.1 h
  exact List.drop_eq_getElem_cons hk
def HasRel (w : World) (l : List Rn) (v gk : Nat) (vi : Value) (wr : World) : Prop :=
  ∃ k : Nat, gk + k = l.length ∧ vi = .int .i64 (k : Int) ∧ memB l v = memB (l.drop k) v ∧ Below w.heap.size w wr
set_option maxRecDepth 100000 in
set_option maxHeartbeats 400000 in
theorem refHas_any (w : World) (A : Option Addr) (n c v : Nat) (l : List Rn) (hs : Rs w w.heap.size A n c l) :
    Calls Try.prog 81 #[.slice A n c, .int .u64 (v : Int)] w (Says w (.bool (memB l v))) := by
  have H := Lib.hid hs
  have HLEN : Hid (l.length = n) := hs.len
  have hmax := hs.sn.max
  have hle := hs.sn.le
  unfold maxLen at hmax
  clear hs
  obtain ⟨R, HR⟩ : ∃ R, Hid (R = memB l v) := ⟨_, rfl⟩
  rw [← HR.out]
  go_enter Try.func81, Try.ntmps81
  go_wp2
  go_loopg [9] n (fun gk vi wr => HasRel w l v gk vi wr)
  case atStart => exact ⟨0, by have := HLEN.out; omega, rfl, rfl, Below.refl _ _⟩
  case round =>
    obtain ⟨k, hg, rfl, hm, hbel⟩ := hrel
    have HG := Lib.hid hg
    have HM := Lib.hid hm
    clear hg hm
    have hsr := H.out.below hbel (Nat.le_refl _)
    by_cases hk : k < n
    · have hkI : (k : Int) < (n : Int) := by omega
      have hk0 : (0 : Int) ≤ (k : Int) := by omega
      obtain ⟨b, o, r, rfl, hbB, hx, hq0, hq1, h1, h2⟩ := hsr.at_ hk
      have HDR := Lib.hid (drop_atR hx)
      clear hx hsr
      by_cases h3 : r.1 ≤ v
      · have h3I : (r.1 : Int) ≤ (v : Int) := by omega
        by_cases h4 : v ≤ r.2
        · have h4I : (v : Int) ≤ (r.2 : Int) := by omega
          have HV : Hid (R = true) := by show _ = _; rw [HR.out, HM.out, HDR.out]; simp [memB, h3, h4]
          go_wp2
          go_ret
          exact ⟨by rw [HV.out]; rfl, hbel.trans ((below_box wr _).mono hbel.size)⟩
        · have h4I : ¬ (v : Int) ≤ (r.2 : Int) := by omega
          have HV : Hid (memB l v = memB (l.drop (k + 1)) v) := by show _ = _; rw [HM.out, HDR.out]; simp [memB, h4]
          go_wp2
          go_roundg (gk - 1)
          case measure => have := HG.out; have := HLEN.out; omega
          case rel => exact ⟨k + 1, by have := HG.out; have := HLEN.out; omega, by go_num, HV.out, hbel.trans ((below_box wr _).mono hbel.size)⟩
      · have h3I : ¬ (r.1 : Int) ≤ (v : Int) := by omega
        have HV : Hid (memB l v = memB (l.drop (k + 1)) v) := by show _ = _; rw [HM.out, HDR.out]; simp [memB, h3]
        go_wp2
        go_roundg (gk - 1)
        case measure => have := HG.out; have := HLEN.out; omega
        case rel => exact ⟨k + 1, by have := HG.out; have := HLEN.out; omega, by go_num, HV.out, hbel.trans ((below_box wr _).mono hbel.size)⟩
    · have hkI : ¬ (k : Int) < (n : Int) := by omega
      have HV : Hid (R = false) := by show _ = _; rw [HR.out, HM.out, List.drop_eq_nil_of_le (by have := HLEN.out; omega)]; rfl
      clear hsr
      go_wp2
      go_ret
      exact ⟨by rw [HV.out]; rfl, hbel⟩

/-! ### lower -/
def okR (v : Nat) (r : Rn) : Prop := r.1 ≤ r.2 ∧ v ≤ r.2
/-- The best of the first k so far. -/
def Best (l : List Rn) (v k : Nat) (z : Int) : Prop :=
  (z = -1 ∧ ∀ j r, j < k → l[j]? = some r → ¬ okR v r) ∨ ∃ (b : Nat) (q : Rn), z = (b : Int) ∧ b < k ∧ l[b]? = some q ∧ okR v q ∧ ∀ j r, j < k → l[j]? = some r → okR v r → q.1 ≤ r.1
theorem Best.skip {l : List Rn} {v k : Nat} {z : Int} {r : Rn} (h : Best l v k z) (hr : l[k]? = some r) (hn : ¬ okR v r) : Best l v (k + 1) z := by
  rcases h with ⟨hz, h⟩ | ⟨b, q, hz, hb, hq, ho, h⟩
  · refine .inl ⟨hz, fun j r' hj hr' => ?_⟩
    rcases Nat.lt_or_ge j k with hjk | hjk
    · exact h j r' hjk hr'
    · obtain rfl : j = k := by omega
      rw [hr] at hr'
      injection hr' with hr'
      subst hr'
      exact hn
  · refine .inr ⟨b, q, hz, by omega, hq, ho, fun j r' hj hr' hok => ?_⟩
    rcases Nat.lt_or_ge j k with hjk | hjk
    · exact h j r' hjk hr' hok
    · obtain rfl : j = k := by omega
      rw [hr] at hr'
      injection hr' with hr'
      subst hr'
      exact absurd hok hn
theorem Best.first {l : List Rn} {v k : Nat} {r : Rn} (h : Best l v k (-1)) (hr : l[k]? = some r) (ho : okR v r) : Best l v (k + 1) (k : Int) := by
  rcases h with ⟨_, h⟩ | ⟨b, q, hz, hb, hq, ho', h⟩
  · refine .inr ⟨k, r, rfl, by omega, hr, ho, fun j r' hj hr' hok => ?_⟩
    rcases Nat.lt_or_ge j k with hjk | hjk
    · exact absurd hok (h j r' hjk hr')
    · obtain rfl : j = k := by omega
      rw [hr] at hr'
      injection hr' with hr'
      subst hr'
      exact Nat.le_refl _
  · omega
theorem Best.better {l : List Rn} {v k b : Nat} {q r : Rn} (h : Best l v k (b : Int)) (hq : l[b]? = some q) (hr : l[k]? = some r) (ho : okR v r) (hlt : r.1 < q.1) : Best l v (k + 1) (k : Int) := by
  rcases h with ⟨hz, h⟩ | ⟨b', q', hz, hb, hq', ho', h⟩
  · omega
  · obtain rfl : b = b' := by omega
    rw [hq] at hq'
    injection hq' with hq'
    subst hq'
    refine .inr ⟨k, r, rfl, by omega, hr, ho, fun j r' hj hr' hok => ?_⟩
    rcases Nat.lt_or_ge j k with hjk | hjk
    · have := h j r' hjk hr' hok
      omega
    · obtain rfl : j = k := by omega
      rw [hr] at hr'
      injection hr' with hr'
      subst hr'
      exact Nat.le_refl _
theorem Best.stay {l : List Rn} {v k b : Nat} {q r : Rn} (h : Best l v k (b : Int)) (hq : l[b]? = some q) (hr : l[k]? = some r) (hlt : ¬ r.1 < q.1) : Best l v (k + 1) (b : Int) := by
  rcases h with ⟨hz, h⟩ | ⟨b', q', hz, hb, hq', ho', h⟩
  · omega
  · obtain rfl : b = b' := by omega
    rw [hq] at hq'
    injection hq' with hq'
    subst hq'
    refine .inr ⟨b, q, rfl, by omega, hq, ho', fun j r' hj hr' hok => ?_⟩
    rcases Nat.lt_or_ge j k with hjk | hjk
    · exact h j r' hjk hr' hok
    · obtain rfl : j = k := by omega
      rw [hr] at hr'
      injection hr' with hr'
      subst hr'
      omega
def LowRel (w : World) (l : List Rn) (v gk : Nat) (vb vi : Value) (wr : World) : Prop :=
  ∃ (k : Nat) (z : Int), gk + k = l.length ∧ vb = .int .i64 z ∧ vi = .int .i64 (k : Int) ∧ Best l v k z ∧ Below w.heap.size w wr
def SaysLow (w : World) (l : List Rn) (v : Nat) (e : Ending) (w' : World) : Prop := ∃ z : Int, e = .returned (.int .i64 z) ∧ Best l v l.length z ∧ Below w.heap.size w w'
end Go.Proofs.Ytjgkfoldbnjpeaa
