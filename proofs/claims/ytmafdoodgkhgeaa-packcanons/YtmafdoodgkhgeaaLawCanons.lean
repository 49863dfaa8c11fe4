/-
  THE WALK of the law PackCanons: whatever the bytes, it returns true, and turns nothing that was there.
-/
import Derived.Test.YtmafdoodgkhgeaaLawNumbers
namespace Go.Proofs.Ytmafdoodgkhgeaa
open Go.RowKit

/-- Bytes that were read, written again, are those that were read. -/
theorem stBytes_ok {p : List UInt8} {most : Int} (h : (stBytes p 0 most).2.2 = 0) :
    byts (stBytes p 0 most).1 = p.take (p.length - (stBytes p 0 most).2.1.length) ∧ (stBytes p 0 most).2.1.length ≤ p.length ∧ ((stBytes p 0 most).1.length : Int) ≤ most ∧ (stBytes p 0 most).1.length ≤ p.length := by
  obtain ⟨⟨v, s, e⟩, hr⟩ : ∃ x, rd p = x := ⟨_, rfl⟩
  have hbd := rd_bd hr
  by_cases he : e = 0
  · subst he
    by_cases hj : judgeN v most (p.length - s) = 0
    · have hst : stBytes p 0 most = ((p.drop s).take v, p.drop (s + v), 0) := by simp [stBytes, hr, hj]
      have hv : v ≤ p.length - s ∧ (v : Int) ≤ most := by
        unfold judgeN at hj
        by_cases h1 : most < 0 ∨ most < (v : Int)
        · rw [if_pos h1] at hj; omega
        · rw [if_neg h1] at hj
          by_cases h2 : p.length - s < v
          · rw [if_pos h2] at hj; omega
          · omega
      have hl : ((p.drop s).take v).length = v := by rw [List.length_take, List.length_drop]; omega
      rw [hst]
      refine ⟨?_, by simp, by simp only [hl]; omega, by simp only [hl]; omega⟩
      unfold byts
      simp only [hl]
      rw [← rd_back hr, List.length_drop, show p.length - (p.length - (s + v)) = s + v from by omega, List.take_add]
    · have hst : stBytes p 0 most = ([], p, judgeN v most (p.length - s)) := by simp [stBytes, hr, hj]
      rw [hst] at h
      exact absurd h hj
  · have hst : stBytes p 0 most = ([], p, e) := by simp [stBytes, hr, he]
    rw [hst] at h
    exact absurd h he

set_option maxHeartbeats 1000000 in
set_option maxRecDepth 100000 in
theorem packCanons_law (w : World) (A0 : Option Addr) (n0 c0 : Nat) (l0 : List UInt8) (h0 : Sl w w.heap.size A0 n0 c0 l0) :
    Calls Try.prog 6 #[.slice A0 n0 c0] w (Yes w) := by
  go_enter Try.func6, Try.ntmps6
  go_wp2_with fail
  refine (awake_any w).mono ?_
  rintro e w1 ⟨rfl, hb1⟩
  have h0' := h0.on hb1 (Nat.le_refl _)
  clear h0
  go_wp2_with fail
  refine (cut_any w1 A0 n0 c0 l0 100 h0' (by omega)).mono ?_
  rintro e w2 ⟨A3, n3, c3, rfl, hown3, hbel⟩
  have h3 := Sl.of_own hown3
  have hb2 := hb1.trans (hbel.mono hb1.size)
  have hl3 : (l0.take 100).length ≤ 100 := by rw [List.length_take]; omega
  generalize l0.take 100 = p at *
  have hn3 : n3 ≤ 100 := by have := h3.len; omega
  have hle3 := h3.le
  have hln3 := Lib.hid h3.len
  clear hown3 hbel hb1 h0'
  go_wp2_with fail
  refine (of_any w2 A3 n3 c3 p h3 (by omega)).mono ?_
  rintro e w3 ⟨g, A7, n7, c7, hg, rfl, hin, hbel⟩
  have hb3 := hb2.trans (hbel.mono hb2.size)
  have hgw := Nat.le_trans hb2.size hg
  have h3' := h3.below hbel (Nat.le_refl _)
  clear hbel h3
  go_wp2_with fail
  refine (inNum_any hin).mono ?_
  rintro e w4 ⟨A8, n8, c8, rfl, hin8, hg8⟩
  have hb4 : Below w.heap.size w w4 := hb3.grown hg8 hb3.size (fun k hk => by injection hk with hk; omega)
  have hkeep : ∀ b o, b < w2.heap.size → w4.cell? ⟨b, o, none⟩ = w3.cell? ⟨b, o, none⟩ := fun b o hb =>
    World.cell?_of_block (a := ⟨b, o, none⟩) (hg8.block b (by have := hin.lt; show b < _; omega) (fun e => by injection e with e; have e : b = g := e; omega))
  have hz4 : w2.heap.size ≤ w4.heap.size := by have := hin8.lt; omega
  have h3 := (h3'.keep hkeep).more hz4
  clear hkeep hg8 hb3 h3' hin hz4 hg hgw hb2
  obtain ⟨⟨v, s, er⟩, hr⟩ : ∃ x, rd p = x := ⟨_, rfl⟩
  have hbd := rd_bd hr
  by_cases he : er = 0
  · subst he
    have hst : stNum p 0 = (v, p.drop s, 0) := by simp [stNum, hr]
    rw [hst] at hin8 ⊢
    have hl8 : (p.drop s).length = n8 := hin8.sl.len
    rw [List.length_drop] at hl8
    have hns : n3 - n8 = s := by have := hln3.out; have := hbd.2.1; omega
    have hn8 : n8 ≤ n3 := by have := hln3.out; omega
    have HN := Lib.hid hns
    have HV := Lib.hid hbd.1
    have HBK := Lib.hid (rd_back hr)
    have HI := Lib.hid hin8
    have hsn : s ≤ n3 := by omega
    have h3t := h3.take (k := s) (m := c3) hsn (by omega) (Nat.le_refl _)
    clear hst hl8 hns hbd hr hin8
    go_wp2_with fail
    refine (err_any HI.out).mono ?_
    rintro e w5 ⟨rfl, rfl⟩
    go_wp2_with fail
    refine (packNum_any w4 none 0 0 [] v (Sl.nil_ _ _ _ _ (by unfold maxLen; omega)) HV.out (by simp)).mono ?_
    rintro e w5 ⟨A9, n9, c9, rfl, hown9, hbel⟩
    rw [List.nil_append, ← HBK.out] at hown9
    have h9 := Sl.of_own hown9
    have h3u := h3t.on hbel (Nat.le_refl _)
    have h3v := h3.on hbel (Nat.le_refl _)
    have HI5 := Lib.hid (HI.out.below hbel HI.out.lt)
    have hb5 := hb4.trans (hbel.mono hb4.size)
    clear hown9 hbel h3t h3 HI hb4
    go_wp2_with fail
    refine (left_any HI5.out).mono ?_
    rintro e w6 ⟨rfl, rfl⟩
    go_wp2_with fail
    rw [HN.out]
    refine (same_yes w5 w5.heap.size A9 A3 n9 c9 s c3 (p.take s) h9 h3u).mono ?_
    rintro e w6 ⟨rfl, q, rfl⟩
    have h3 := h3v.onD q
    have hb6 := below_drewN hb5 q
    clear h9 h3u h3v HI5 hb5 HN HV HBK
    generalize w5.drewN q = w6 at *
    go_wp2_with fail
    refine (of_any w6 A3 n3 c3 p h3 (by omega)).mono ?_
    rintro e w20 ⟨g2, A20, n20, c20, hg20, rfl, hin20, hbel20⟩
    have hb20 := hb6.trans (hbel20.mono hb6.size)
    have hgw20 := Nat.le_trans hb6.size hg20
    have h3z := h3.below hbel20 (Nat.le_refl _)
    clear hbel20
    go_wp2_with fail
    refine (inBytes_any hin20 100 (.inl (by rw [IntKind.wrap_u64]; omega))).mono ?_
    rintro e w21 ⟨A21, n21, c21, A22, n22, c22, rfl, hown22, hin21, hg21⟩
    have hb21 : Below w.heap.size w w21 := hb20.grown hg21 hb20.size (fun k hk => by injection hk with hk; omega)
    have hkeep : ∀ b o, b < w6.heap.size → w21.cell? ⟨b, o, none⟩ = w20.cell? ⟨b, o, none⟩ := fun b o hb =>
      World.cell?_of_block (a := ⟨b, o, none⟩) (hg21.block b (by have := hin20.lt; show b < _; omega) (fun e => by injection e with e; have e : b = g2 := e; omega))
    have hz21 : w6.heap.size ≤ w21.heap.size := by have := hin21.lt; omega
    have h3y := (h3z.keep hkeep).more hz21
    have h22 := Sl.of_own hown22
    have HI21 := Lib.hid hin21
    clear hkeep hg21 hb20 h3z hin20 hown22 hz21 hin21 hgw20 hg20
    by_cases her : (stBytes p 0 100).2.2 = 0
    · obtain ⟨hb1, hb2, hb3, hb4⟩ := stBytes_ok her
      rw [her] at HI21
      have hl21 := HI21.out.sl.len
      have hl22 := h22.len
      have hlp := hln3.out
      have hsub1 : ((n3 : Int) - (n21 : Int)) = ((n3 - n21 : Nat) : Int) := by omega
      have hle21 : n21 ≤ n3 := by omega
      have h3q := h3y.take (k := n3 - n21) (m := c3) (by omega) (by have := h3y.le; omega) (Nat.le_refl _)
      have hle3 := h3y.le
      have hbt : byts (stBytes p 0 100).1 = p.take (n3 - n21) := by rw [hb1]; congr 1; omega
      have hb22 : (stBytes p 0 100).1.length ≤ 100 := by omega
      have HBT := Lib.hid hbt
      generalize (stBytes p 0 100).1 = bb at *
      generalize (stBytes p 0 100).2.1 = rr at *
      clear hb1 hb2 hb3 hb4 hl21 hl22 her hsub1 hbt hlp
      go_wp2_with fail
      refine (err_any HI21.out).mono ?_
      rintro e w22 ⟨rfl, rfl⟩
      go_wp2_with fail
      refine (packBytes_any w21 none A22 0 0 n22 c22 [] bb (Sl.nil_ _ _ _ _ (by unfold maxLen; omega)) h22 (by simp; omega)).mono ?_
      rintro e w23 ⟨A23, n23, c23, rfl, hown23, hbel23⟩
      rw [List.nil_append, HBT.out] at hown23
      have h23 := Sl.of_own hown23
      have h3r := h3q.on hbel23 (Nat.le_refl _)
      have HI23 := Lib.hid (HI21.out.below hbel23 HI21.out.lt)
      have hb23 := hb21.trans (hbel23.mono hb21.size)
      clear hown23 hbel23 h3q HI21 hb21 h22 h3y
      go_wp2_with fail
      refine (left_any HI23.out).mono ?_
      rintro e w24 ⟨rfl, rfl⟩
      go_wp2_with fail
      refine (same_yes w23 w23.heap.size A23 A3 n23 c23 (n3 - n21) c3 (p.take (n3 - n21)) h23 h3r).mono ?_
      rintro e w25 ⟨rfl, q, rfl⟩
      go_wp2
      go_ret
      exact ⟨rfl, below_drewN hb23 q⟩
    · have hne : (((stBytes p 0 100).2.2 : Nat) : Int) ≠ 0 := by omega
      have hq : ((((stBytes p 0 100).2.2 : Nat) : Int) != 0) = true := by rw [bne_iff_ne]; exact hne
      generalize (stBytes p 0 100).2.2 = er at *
      clear hne her
      go_wp2_with fail
      refine (err_any HI21.out).mono ?_
      rintro e w22 ⟨rfl, rfl⟩
      go_wp2
      go_ret
      exact ⟨rfl, hb21⟩
  · have hst : stNum p 0 = (0, p, er) := by simp [stNum, hr, he]
    rw [hst] at hin8 ⊢
    have hq : ((er : Int) == 0) = false := by simp; omega
    have HI := Lib.hid hin8
    clear hst hbd hr hin8 he
    go_wp2_with fail
    refine (err_any HI.out).mono ?_
    rintro e w5 ⟨rfl, rfl⟩
    clear HI
    go_wp2_with fail
    refine (of_any w4 A3 n3 c3 p h3 (by omega)).mono ?_
    rintro e w20 ⟨g2, A20, n20, c20, hg20, rfl, hin20, hbel20⟩
    have hb20 := hb4.trans (hbel20.mono hb4.size)
    have hgw20 := Nat.le_trans hb4.size hg20
    have h3z := h3.below hbel20 (Nat.le_refl _)
    clear hbel20
    go_wp2_with fail
    refine (inBytes_any hin20 100 (.inl (by rw [IntKind.wrap_u64]; omega))).mono ?_
    rintro e w21 ⟨A21, n21, c21, A22, n22, c22, rfl, hown22, hin21, hg21⟩
    have hb21 : Below w.heap.size w w21 := hb20.grown hg21 hb20.size (fun k hk => by injection hk with hk; omega)
    have hkeep : ∀ b o, b < w4.heap.size → w21.cell? ⟨b, o, none⟩ = w20.cell? ⟨b, o, none⟩ := fun b o hb =>
      World.cell?_of_block (a := ⟨b, o, none⟩) (hg21.block b (by have := hin20.lt; show b < _; omega) (fun e => by injection e with e; have e : b = g2 := e; omega))
    have hz21 : w4.heap.size ≤ w21.heap.size := by have := hin21.lt; omega
    have h3y := (h3z.keep hkeep).more hz21
    have h22 := Sl.of_own hown22
    have HI21 := Lib.hid hin21
    clear hkeep hg21 hb20 h3z hin20 hown22 hz21 hin21 hgw20 hg20
    by_cases her : (stBytes p 0 100).2.2 = 0
    · obtain ⟨hb1, hb2, hb3, hb4⟩ := stBytes_ok her
      rw [her] at HI21
      have hl21 := HI21.out.sl.len
      have hl22 := h22.len
      have hlp := hln3.out
      have hsub1 : ((n3 : Int) - (n21 : Int)) = ((n3 - n21 : Nat) : Int) := by omega
      have hle21 : n21 ≤ n3 := by omega
      have h3q := h3y.take (k := n3 - n21) (m := c3) (by omega) (by have := h3y.le; omega) (Nat.le_refl _)
      have hle3 := h3y.le
      have hbt : byts (stBytes p 0 100).1 = p.take (n3 - n21) := by rw [hb1]; congr 1; omega
      have hb22 : (stBytes p 0 100).1.length ≤ 100 := by omega
      have HBT := Lib.hid hbt
      generalize (stBytes p 0 100).1 = bb at *
      generalize (stBytes p 0 100).2.1 = rr at *
      clear hb1 hb2 hb3 hb4 hl21 hl22 her hsub1 hbt hlp
      go_wp2_with fail
      refine (err_any HI21.out).mono ?_
      rintro e w22 ⟨rfl, rfl⟩
      go_wp2_with fail
      refine (packBytes_any w21 none A22 0 0 n22 c22 [] bb (Sl.nil_ _ _ _ _ (by unfold maxLen; omega)) h22 (by simp; omega)).mono ?_
      rintro e w23 ⟨A23, n23, c23, rfl, hown23, hbel23⟩
      rw [List.nil_append, HBT.out] at hown23
      have h23 := Sl.of_own hown23
      have h3r := h3q.on hbel23 (Nat.le_refl _)
      have HI23 := Lib.hid (HI21.out.below hbel23 HI21.out.lt)
      have hb23 := hb21.trans (hbel23.mono hb21.size)
      clear hown23 hbel23 h3q HI21 hb21 h22 h3y
      go_wp2_with fail
      refine (left_any HI23.out).mono ?_
      rintro e w24 ⟨rfl, rfl⟩
      go_wp2_with fail
      refine (same_yes w23 w23.heap.size A23 A3 n23 c23 (n3 - n21) c3 (p.take (n3 - n21)) h23 h3r).mono ?_
      rintro e w25 ⟨rfl, q, rfl⟩
      go_wp2
      go_ret
      exact ⟨rfl, below_drewN hb23 q⟩
    · have hne : (((stBytes p 0 100).2.2 : Nat) : Int) ≠ 0 := by omega
      have hq : ((((stBytes p 0 100).2.2 : Nat) : Int) != 0) = true := by rw [bne_iff_ne]; exact hne
      generalize (stBytes p 0 100).2.2 = er at *
      clear hne her
      go_wp2_with fail
      refine (err_any HI21.out).mono ?_
      rintro e w22 ⟨rfl, rfl⟩
      go_wp2
      go_ret
      exact ⟨rfl, hb21⟩
end Go.Proofs.Ytmafdoodgkhgeaa
