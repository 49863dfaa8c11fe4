/-
  THE WALK of the law PackBytes: whatever the bytes and the bound, it returns true, and turns nothing that was there.
-/
import Derived.Test.YtmafdoodgkhgeaaLawNumbers
namespace Go.Proofs.Ytmafdoodgkhgeaa
open Go.RowKit

set_option maxHeartbeats 1000000 in
set_option maxRecDepth 100000 in
theorem packBytes_law (w : World) (A0 A2 : Option Addr) (n0 c0 n2 c2 : Nat) (most : Int) (l0 l2 : List UInt8) (h0 : Sl w w.heap.size A0 n0 c0 l0) (hm : IntKind.u64.wrap most = most ∨ most < 0) (h2 : Sl w w.heap.size A2 n2 c2 l2) :
    Calls Try.prog 4 #[.slice A0 n0 c0, .int .i64 most, .slice A2 n2 c2] w (Yes w) := by
  have HM := Lib.hid hm; clear hm
  go_enter Try.func4, Try.ntmps4
  go_wp2_with fail
  refine (awake_any w).mono ?_
  rintro e w1 ⟨rfl, hb1⟩
  have h0' := h0.on hb1 (Nat.le_refl _)
  have h2' := h2.on hb1 (Nat.le_refl _)
  clear h0 h2
  go_wp2_with fail
  refine (cut_any w1 A0 n0 c0 l0 300 h0' (by omega)).mono ?_
  rintro e w2 ⟨A3, n3, c3, rfl, hown3, hbel⟩
  have h3 := Sl.of_own hown3
  have h2 := h2'.on hbel (Nat.le_refl _)
  have hb2 := hb1.trans (hbel.mono hb1.size)
  clear hown3 hbel hb1 h0' h2'
  go_wp2_with fail
  refine (cut_any w2 A2 n2 c2 l2 20 h2 (by omega)).mono ?_
  rintro e w3 ⟨A4, n4, c4, rfl, hown4, hbel⟩
  have h3' := h3.on hbel (Nat.le_refl _)
  have h4 := Sl.of_own hown4
  have hb3 := hb2.trans (hbel.mono hb2.size)
  have hl3 : (l0.take 300).length ≤ 300 := by rw [List.length_take]; omega
  have hl4 : (l2.take 20).length ≤ 20 := by rw [List.length_take]; omega
  generalize l0.take 300 = f at *
  generalize l2.take 20 = bh at *
  have hn3 : n3 ≤ 300 := by have := h3.len; omega
  have hn4 : n4 ≤ 20 := by have := h4.len; omega
  have hbl : (byts f).length ≤ 310 := by
    unfold byts; rw [List.length_append]; have := num_len10 f.length (by unfold two64; omega); omega
  clear hown4 hbel hb2 h2 h3
  go_wp2_with fail
  refine (packBytes_any w3 none A3 0 0 n3 c3 [] f (Sl.nil_ _ _ _ _ (by unfold maxLen; omega)) h3' (by simp; omega)).mono ?_
  rintro e w4 ⟨A5, n5, c5, rfl, hown5, hbel⟩
  rw [List.nil_append] at hown5
  have h5 := Sl.of_own hown5
  have h3 := h3'.on hbel (Nat.le_refl _)
  have h4' := h4.on hbel (Nat.le_refl _)
  have hb4 := hb3.trans (hbel.mono hb3.size)
  have hn5 : n5 ≤ 310 := by have := h5.len; omega
  clear hown5 hbel hb3 h3' h4
  go_wp2_with fail
  refine (join_two _ w4.heap.size A5 A4 n5 c5 n4 c4 (byts f) bh (by simp) (by simp) (by simp) (by exact h5.onA _) (by exact h4'.onA _) (by omega)).mono ?_
  rintro e w5 ⟨A6, n6, c6, rfl, hown6, hbel⟩
  have h6 := Sl.of_own hown6
  have h5' := (h5.onA _).on hbel (Nat.le_refl _)
  have h4 := (h4'.onA _).on hbel (Nat.le_refl _)
  have h3' := (h3.onA _).on hbel (Nat.le_refl _)
  have hb5 := (hb4.alloc hb4.size _).trans (hbel.mono (Nat.le_trans hb4.size (by simp)))
  clear hown6 hbel hb4 h3 h4' h5
  go_wp2_with fail
  refine (of_any w5 A6 n6 c6 (byts f ++ bh) h6 (by rw [List.length_append]; omega)).mono ?_
  rintro e w6 ⟨g, A7, n7, c7, hg, rfl, hin, hbel⟩
  have hb6 := hb5.trans (hbel.mono hb5.size)
  have hgw := Nat.le_trans hb5.size hg
  have h5 := h5'.below hbel (Nat.le_refl _)
  have h3 := h3'.below hbel (Nat.le_refl _)
  clear hbel hb5 h6 h5' h3'
  go_wp2_with fail
  refine (inBytes_any hin most HM.out).mono ?_
  rintro e w7 ⟨A8, n8, c8, A9, n9, c9, rfl, hown9, hin8, hg8⟩
  have hb7 : Below w.heap.size w w7 := hb6.grown hg8 hb6.size (fun k hk => by injection hk with hk; omega)
  have hkeep : ∀ b o, b < w5.heap.size → w7.cell? ⟨b, o, none⟩ = w6.cell? ⟨b, o, none⟩ := fun b o hb =>
    World.cell?_of_block (a := ⟨b, o, none⟩) (hg8.block b (by have := hin.lt; show b < _; omega) (fun e => by injection e with e; have e : b = g := e; omega))
  have hz57 : w5.heap.size ≤ w7.heap.size := by have := hin8.lt; omega
  have h5' := (h5.keep hkeep).more hz57
  have h3' := (h3.keep hkeep).more hz57
  have h9 := Sl.of_own hown9
  have hlt8 := hin8.lt
  have HI := Lib.hid hin8
  clear hkeep hg8 hb6 h5 h3 hin hown9 hz57 hin8
  go_wp2_with fail
  refine (refBytes_any w7 A3 n3 c3 f h3' (by omega)).mono ?_
  rintro e w8 ⟨A10, n10, c10, rfl, hown10, hbel⟩
  have h10 := Sl.of_own hown10
  have h5 := h5'.on hbel (Nat.le_refl _)
  have h3 := h3'.on hbel (Nat.le_refl _)
  have h9' := h9.on hbel (Nat.le_refl _)
  have HI2 := Lib.hid (HI.out.below hbel hlt8)
  have hb8 := hb7.trans (hbel.mono hb7.size)
  clear hown10 hbel h5' h3' h9 HI hlt8 hb7
  go_wp2_with fail
  refine (same_yes w8 w8.heap.size A5 A10 n5 c5 n10 c10 (byts f) h5 h10).mono ?_
  rintro e w9 ⟨rfl, q, rfl⟩
  have h3' := h3.onD q
  have h9 := h9'.onD q
  have HI := Lib.hid (HI2.out.drewN q)
  have hb9 := below_drewN hb8 q
  have hl5 := h5.len
  have hl4' := h4.len
  have hl3' := h3.len
  have hl9 := h9.len
  clear h5 h3 h9' HI2 hb8 h10 h4
  generalize w8.drewN q = w9 at *
  by_cases hml : most < (n3 : Int)
  · have hst := stBytes_long f bh most (by unfold two64; omega) (by omega)
    rw [hst] at HI hl9 h9
    have hn9 : n9 = 0 := by simpa using hl9.symm
    subst hn9
    have hq : ((n8 : Int) == (n5 : Int) + (n4 : Int)) = true := by
      have := HI.out.sl.len
      rw [List.length_append] at this
      simp
      omega
    clear hst h9 h3' hl9 hl3' hl5 hl4'
    go_wp2_with fail
    refine (err_any HI.out).mono ?_
    rintro e w10 ⟨rfl, rfl⟩
    go_wp2_with fail
    refine (left_any HI.out).mono ?_
    rintro e w10 ⟨rfl, rfl⟩
    go_wp2
    go_ret
    exact ⟨rfl, hb9⟩
  · have hst := stBytes_byts f bh most (by unfold two64; omega) (by omega)
    rw [hst] at HI hl9 h9
    have hq : ((n8 : Int) == (n4 : Int)) = true := by
      have h1 : bh.length = n8 := HI.out.sl.len
      simp
      omega
    clear hst hl9 hl3' hl5 hl4'
    go_wp2_with fail
    refine (same_yes w9 w9.heap.size A9 A3 n9 c9 n3 c3 f h9 h3').mono ?_
    rintro e w10 ⟨rfl, q2, rfl⟩
    have hb10 := below_drewN hb9 q2
    have HI2 := Lib.hid (HI.out.drewN q2)
    clear HI h9 h3' hb9
    generalize w9.drewN q2 = w10 at *
    go_wp2_with fail
    refine (err_any HI2.out).mono ?_
    rintro e w11 ⟨rfl, rfl⟩
    go_wp2_with fail
    refine (left_any HI2.out).mono ?_
    rintro e w11 ⟨rfl, rfl⟩
    go_wp2
    go_ret
    exact ⟨rfl, hb10⟩
end Go.Proofs.Ytmafdoodgkhgeaa
