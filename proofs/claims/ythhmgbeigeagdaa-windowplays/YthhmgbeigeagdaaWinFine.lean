/-
  CONTRACT of window.Runs; WORDS for windows that stay small.
  No statement is proved here.
-/
import Derived.Test.YthhmgbeigeagdaaWinActs
import Derived.Test.YthhmgbeigeagdaaRegions
namespace Go.Proofs.Ythhmgbeigeagdaa
open Go.RowKit

def mostN (most : Int) (n : Nat) : Nat := min most.toNat n
set_option maxRecDepth 100000 in
set_option maxHeartbeats 1000000 in
theorem winRuns_any (w : World) (A : Option Addr) (n c : Nat) (W : Wn) (h : Wat w A n c W) (hn : n ≤ 1000) (most : Int) :
    Calls Try.prog 23 #[.agg #[.int .u64 (W.low : Int), .int .u64 (W.width : Int), .slice A n c], .int .i64 most] w (fun e w' => ∃ A' c', e = .returned (.slice A' (mostN most n) c') ∧ Rs w' w'.heap.size A' (mostN most n) c' (W.L.take (mostN most n)) ∧ Below w.heap.size w w') := by
  have H := Lib.hid (h.on (below_box w (Obj.cells #[.int .u64 (W.low : Int), .int .u64 (W.width : Int), .slice A n c] 30)))
  have HL := Lib.hid h.st.rs.len
  clear h
  go_enter Try.func23, Try.ntmps23
  go_wp2_with fail
  refine (runs_any _ A n c W.L H.out.st.rs (by omega)).mono ?_
  rintro e w2 ⟨A2, n2, c2, rfl, hown, hb2⟩
  have hr := Rs.of_own hown (fun q hq => H.out.ok.lt q hq)
  have hn2 : n2 = n := by rw [← hr.len, HL.out]
  subst hn2
  have HR := Lib.hid hr
  have HB := Lib.hid ((below_box w (Obj.cells #[.int .u64 (W.low : Int), .int .u64 (W.width : Int), .slice A n2 c] 30)).trans (hb2.mono (by simp)))
  have hc : n2 ≤ c2 := hr.sn.le
  have hcm : c2 ≤ 9223372036854775807 := hr.sn.max
  clear hr hown hb2
  have hfin : ∀ k, k = mostN most n2 → ∃ A' c', Ending.returned (.slice A2 k c2) = .returned (.slice A' (mostN most n2) c') ∧ Rs w2 w2.heap.size A' (mostN most n2) c' (W.L.take (mostN most n2)) ∧ Below w.heap.size w w2 := fun k hk => by
    subst hk
    have hk2 : mostN most n2 ≤ n2 := by unfold mostN; omega
    exact ⟨A2, c2, rfl, HR.out.take hk2 (by omega) (Nat.le_refl _), HB.out⟩
  have HFIN := Lib.hid hfin
  clear hfin
  by_cases h1 : most < 0
  · go_wp2_with fail
    go_ret
    obtain ⟨A', c', he, h2⟩ := HFIN.out 0 (by unfold mostN; omega)
    exact ⟨A', c', he, h2⟩
  · obtain ⟨k, rfl⟩ : ∃ k : Nat, most = (k : Int) := ⟨most.toNat, by omega⟩
    by_cases h2 : (n2 : Int) < (k : Int)
    · go_wp2_with fail
      go_ret
      obtain ⟨A', c', he, h2⟩ := HFIN.out n2 (by unfold mostN; omega)
      exact ⟨A', c', he, h2⟩
    · have hkc : k ≤ c2 := by omega
      go_wp2_with fail
      go_ret
      obtain ⟨A', c', he, h2⟩ := HFIN.out k (by unfold mostN; omega)
      exact ⟨A', c', he, h2⟩
/-- A fine window: of width K, its Low bounded. -/
structure Fine (W : Wn) (K i : Nat) : Prop where
  ok : W.Ok
  width : W.width = K
  low : W.low ≤ 2305843009213693952 + 256 * i
theorem Fine.put {W : Wn} {K i k : Nat} (h : Fine W K i) (hi : i ≤ 100) (hK : K ≤ 64) (hk : k < two64) : Fine (putW W k) K (i + 1) := by
  have h1 := h.low
  have h2 := h.width
  obtain ⟨k1, _, _, k4, k5⟩ := put_spec h.ok (by omega) k hk
  exact ⟨k1, k5.trans h2, by omega⟩
theorem Fine.skip {W : Wn} {K i k : Nat} (h : Fine W K i) (hi : i ≤ 100) (hK : K ≤ 64) (hk : k < max (W.low + 256) 2305843009213693952) : Fine (skipW W k) K (i + 1) := by
  have h1 := h.low
  have h2 := h.width
  obtain ⟨k1, _, _, k4, k5⟩ := skip_spec h.ok (by omega) k (by omega)
  exact ⟨k1, k5.trans h2, by omega⟩
theorem Fine.mono {W : Wn} {K i j : Nat} (h : Fine W K i) (hj : i ≤ j) : Fine W K j := ⟨h.ok, h.width, by have := h.low; omega⟩
end Go.Proofs.Ythhmgbeigeagdaa
