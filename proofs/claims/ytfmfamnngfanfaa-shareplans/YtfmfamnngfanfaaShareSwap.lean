/-
  CONTRACT of lines' Swap.
  No statement is proved here.
-/
import Derived.Test.YtfmfamnngfanfaaShareLess
namespace Go.Proofs.Ytfmfamnngfanfaa
open Go.RowKit Go.Sort

def set5 (w : World) (b p : Nat) (x : Ln) : World :=
  ((((w.setCell ⟨b, p, none⟩ (.int .i64 (x.cls : Int))).setCell ⟨b, p + 1, none⟩ (.int .i64 (x.plc : Int))).setCell ⟨b, p + 2, none⟩ (.slice x.A x.n x.c)).setCell ⟨b, p + 3, none⟩ (.int .i64 x.byt)).setCell ⟨b, p + 4, none⟩ (.int .i64 x.exc)
theorem lvs_set (L : List Ln) (j : Nat) (x : Ln) (hj : j < L.length) : lvs (L.set j x) = (((((lvs L).set (j * 5) (.int .i64 (x.cls : Int))).set (j * 5 + 1) (.int .i64 (x.plc : Int))).set (j * 5 + 2) (.slice x.A x.n x.c)).set (j * 5 + 3) (.int .i64 x.byt)).set (j * 5 + 4) (.int .i64 x.exc) := by
  induction L generalizing j with
  | nil => simp at hj
  | cons a L ih =>
    rcases j with _ | j
    · rfl
    · have := ih j (by simpa using hj)
      rw [List.set_cons_succ, lvs_cons, this, lvs_cons]
      have hl : (lv a).length = 5 := rfl
      simp only [show (j + 1) * 5 = j * 5 + 5 from by omega]
      have e : ∀ (M : List Value) (k : Nat) (v : Value), (lv a ++ M).set (k + 5) v = lv a ++ M.set k v := by
        intro M k v
        rw [List.set_append_right _ _ (by omega), hl]
        congr 1
      rw [e, show j * 5 + 5 + 1 = (j * 5 + 1) + 5 from by omega, e, show j * 5 + 5 + 2 = (j * 5 + 2) + 5 from by omega, e, show j * 5 + 5 + 3 = (j * 5 + 3) + 5 from by omega, e, show j * 5 + 5 + 4 = (j * 5 + 4) + 5 from by omega, e]
theorem own_set5 {w : World} {base g n c j : Nat} {e : TypeId} {L : List Ln} (h : w.ownsRow base e 5 (.slice (some ⟨g, 0, none⟩) n c) n (lvs L)) (hj : j < n) (x : Ln) :
    (set5 w g (j * 5) x).ownsRow base e 5 (.slice (some ⟨g, 0, none⟩) n c) n (lvs (L.set j x)) ∧ w.grownBy (set5 w g (j * 5) x) (some g) := by
  have hl : L.length = n := by have := h.1; rw [lvs_len] at this; omega
  rw [lvs_set L j x (by omega)]
  have h1 := h.stored (j * 5) (.int .i64 (x.cls : Int))
  have h2 := h1.1.stored (j * 5 + 1) (.int .i64 (x.plc : Int))
  have h3 := h2.1.stored (j * 5 + 2) (.slice x.A x.n x.c)
  have h4 := h3.1.stored (j * 5 + 3) (.int .i64 x.byt)
  have h5 := h4.1.stored (j * 5 + 4) (.int .i64 x.exc)
  exact ⟨h5.1, grown_trans (grown_trans (grown_trans (grown_trans h1.2 h2.2) h3.2) h4.2) h5.2⟩
set_option maxRecDepth 100000 in
set_option maxHeartbeats 4000000 in
theorem swap_cells (w : World) (b o n c i j : Nat) (x y : Ln) (hi : i < n) (hj : j < n) (hij : i ≠ j)
    (cx0 : w.cell? ⟨b, o + i * 5, none⟩ = some (.int .i64 (x.cls : Int))) (fx0 : w.frozen? ⟨b, o + i * 5, none⟩ = false)
    (cx1 : w.cell? ⟨b, o + i * 5 + 1, none⟩ = some (.int .i64 (x.plc : Int))) (fx1 : w.frozen? ⟨b, o + i * 5 + 1, none⟩ = false)
    (cx2 : w.cell? ⟨b, o + i * 5 + 2, none⟩ = some (.slice x.A x.n x.c)) (fx2 : w.frozen? ⟨b, o + i * 5 + 2, none⟩ = false)
    (cx3 : w.cell? ⟨b, o + i * 5 + 3, none⟩ = some (.int .i64 x.byt)) (fx3 : w.frozen? ⟨b, o + i * 5 + 3, none⟩ = false)
    (cx4 : w.cell? ⟨b, o + i * 5 + 4, none⟩ = some (.int .i64 x.exc)) (fx4 : w.frozen? ⟨b, o + i * 5 + 4, none⟩ = false)
    (cy0 : w.cell? ⟨b, o + j * 5, none⟩ = some (.int .i64 (y.cls : Int))) (fy0 : w.frozen? ⟨b, o + j * 5, none⟩ = false)
    (cy1 : w.cell? ⟨b, o + j * 5 + 1, none⟩ = some (.int .i64 (y.plc : Int))) (fy1 : w.frozen? ⟨b, o + j * 5 + 1, none⟩ = false)
    (cy2 : w.cell? ⟨b, o + j * 5 + 2, none⟩ = some (.slice y.A y.n y.c)) (fy2 : w.frozen? ⟨b, o + j * 5 + 2, none⟩ = false)
    (cy3 : w.cell? ⟨b, o + j * 5 + 3, none⟩ = some (.int .i64 y.byt)) (fy3 : w.frozen? ⟨b, o + j * 5 + 3, none⟩ = false)
    (cy4 : w.cell? ⟨b, o + j * 5 + 4, none⟩ = some (.int .i64 y.exc)) (fy4 : w.frozen? ⟨b, o + j * 5 + 4, none⟩ = false)
    : Calls Try.prog 146 #[.slice (some ⟨b, o, none⟩) n c, .int .i64 i, .int .i64 j] w (fun e w' => e = .returned (.tuple #[]) ∧ w' = (set5 (set5 w b (o + i * 5) y) b (o + j * 5) x).drew) := by
  have hiI : (i : Int) < (n : Int) := by omega
  have hjI : (j : Int) < (n : Int) := by omega
  have hi0 : (0 : Int) ≤ (i : Int) := by omega
  have hj0 : (0 : Int) ≤ (j : Int) := by omega
  have ne00 : o + i * 5 ≠ o + j * 5 := by omega
  have ne01 : o + i * 5 ≠ o + j * 5 + 1 := by omega
  have ne02 : o + i * 5 ≠ o + j * 5 + 2 := by omega
  have ne03 : o + i * 5 ≠ o + j * 5 + 3 := by omega
  have ne04 : o + i * 5 ≠ o + j * 5 + 4 := by omega
  have ne10 : o + i * 5 + 1 ≠ o + j * 5 := by omega
  have ne11 : o + i * 5 + 1 ≠ o + j * 5 + 1 := by omega
  have ne12 : o + i * 5 + 1 ≠ o + j * 5 + 2 := by omega
  have ne13 : o + i * 5 + 1 ≠ o + j * 5 + 3 := by omega
  have ne14 : o + i * 5 + 1 ≠ o + j * 5 + 4 := by omega
  have ne20 : o + i * 5 + 2 ≠ o + j * 5 := by omega
  have ne21 : o + i * 5 + 2 ≠ o + j * 5 + 1 := by omega
  have ne22 : o + i * 5 + 2 ≠ o + j * 5 + 2 := by omega
  have ne23 : o + i * 5 + 2 ≠ o + j * 5 + 3 := by omega
  have ne24 : o + i * 5 + 2 ≠ o + j * 5 + 4 := by omega
  have ne30 : o + i * 5 + 3 ≠ o + j * 5 := by omega
  have ne31 : o + i * 5 + 3 ≠ o + j * 5 + 1 := by omega
  have ne32 : o + i * 5 + 3 ≠ o + j * 5 + 2 := by omega
  have ne33 : o + i * 5 + 3 ≠ o + j * 5 + 3 := by omega
  have ne34 : o + i * 5 + 3 ≠ o + j * 5 + 4 := by omega
  have ne40 : o + i * 5 + 4 ≠ o + j * 5 := by omega
  have ne41 : o + i * 5 + 4 ≠ o + j * 5 + 1 := by omega
  have ne42 : o + i * 5 + 4 ≠ o + j * 5 + 2 := by omega
  have ne43 : o + i * 5 + 4 ≠ o + j * 5 + 3 := by omega
  have ne44 : o + i * 5 + 4 ≠ o + j * 5 + 4 := by omega
  clear hij hi hj
  go_enter Try.func146, Try.ntmps146
  go_wp2_with fail
  go_region
  go_wp2
  go_end0
  exact ⟨rfl, rfl⟩
set_option maxRecDepth 100000 in
set_option maxHeartbeats 4000000 in
theorem swap_same (w : World) (b o n c i : Nat) (x : Ln) (hi : i < n)
    (cx0 : w.cell? ⟨b, o + i * 5, none⟩ = some (.int .i64 (x.cls : Int))) (fx0 : w.frozen? ⟨b, o + i * 5, none⟩ = false)
    (cx1 : w.cell? ⟨b, o + i * 5 + 1, none⟩ = some (.int .i64 (x.plc : Int))) (fx1 : w.frozen? ⟨b, o + i * 5 + 1, none⟩ = false)
    (cx2 : w.cell? ⟨b, o + i * 5 + 2, none⟩ = some (.slice x.A x.n x.c)) (fx2 : w.frozen? ⟨b, o + i * 5 + 2, none⟩ = false)
    (cx3 : w.cell? ⟨b, o + i * 5 + 3, none⟩ = some (.int .i64 x.byt)) (fx3 : w.frozen? ⟨b, o + i * 5 + 3, none⟩ = false)
    (cx4 : w.cell? ⟨b, o + i * 5 + 4, none⟩ = some (.int .i64 x.exc)) (fx4 : w.frozen? ⟨b, o + i * 5 + 4, none⟩ = false)
    : Calls Try.prog 146 #[.slice (some ⟨b, o, none⟩) n c, .int .i64 i, .int .i64 i] w (fun e w' => e = .returned (.tuple #[]) ∧ w' = (set5 (set5 w b (o + i * 5) x) b (o + i * 5) x).drew) := by
  have hiI : (i : Int) < (n : Int) := by omega
  have hi0 : (0 : Int) ≤ (i : Int) := by omega
  clear hi
  go_enter Try.func146, Try.ntmps146
  go_wp2_with fail
  go_region
  go_wp2
  go_end0
  exact ⟨rfl, rfl⟩

/-- Element j of a row of lines. -/
structure At5 (w : World) (b p : Nat) (x : Ln) : Prop where
  c0 : w.cell? ⟨b, p, none⟩ = some (.int .i64 (x.cls : Int))
  c1 : w.cell? ⟨b, p + 1, none⟩ = some (.int .i64 (x.plc : Int))
  c2 : w.cell? ⟨b, p + 2, none⟩ = some (.slice x.A x.n x.c)
  c3 : w.cell? ⟨b, p + 3, none⟩ = some (.int .i64 x.byt)
  c4 : w.cell? ⟨b, p + 4, none⟩ = some (.int .i64 x.exc)
theorem own_at5 {w : World} {base g n c j : Nat} {e : TypeId} {d : Array Ln} (h : w.ownsRow base e 5 (.slice (some ⟨g, 0, none⟩) n c) n (lvs d.toList)) (hj : j < n) :
    At5 w g (0 + j * 5) d[j]! ∧ ∀ o, w.frozen? ⟨g, o, none⟩ = false := by
  have hl : d.toList.length = n := by have := h.1; rw [lvs_len] at this; omega
  have hx : d.toList[j]? = some d[j]! := by
    rw [List.getElem?_eq_getElem (by omega), getElem!_pos d j (by simpa [← hl] using hj)]
    simp
  have k : ∀ t, t < 5 → w.cell? ⟨g, 0 + j * 5 + t, none⟩ = (lv d[j]!)[t]? := fun t ht => by
    rw [Nat.zero_add, h.cellAt _ (by omega)]
    exact lvs_at hx ht
  exact ⟨⟨k 0 (by omega), k 1 (by omega), k 2 (by omega), k 3 (by omega), k 4 (by omega)⟩, fun o => h.frozenAt o⟩
theorem swap_own (w : World) (base g n c i j : Nat) (d : Array Ln) (h : w.ownsRow base 152 5 (.slice (some ⟨g, 0, none⟩) n c) n (lvs d.toList)) (hi : i < n) (hj : j < n) :
    Calls Try.prog 146 #[.slice (some ⟨g, 0, none⟩) n c, .int .i64 i, .int .i64 j] w (fun e w' => e = .returned (.tuple #[]) ∧ w'.ownsRow base 152 5 (.slice (some ⟨g, 0, none⟩) n c) n (lvs (swp d i j).toList) ∧ w.grownBy w' (some g)) := by
  have hl : d.toList.length = n := by have := h.1; rw [lvs_len] at this; omega
  have hsz : d.size = n := by simpa using hl
  obtain ⟨hx, hf⟩ := own_at5 h hi
  obtain ⟨hy, _⟩ := own_at5 h hj
  have e1 : (swp d i j).toList = (d.toList.set i d[j]!).set j d[i]! := by simp [swp]
  rw [e1]
  have g1 := own_set5 h hi d[j]!
  have g2 := own_set5 g1.1 hj d[i]!
  by_cases hij : i = j
  · subst hij
    refine (swap_same w g 0 n c i d[i]! hi hx.c0 (hf _) hx.c1 (hf _) hx.c2 (hf _) hx.c3 (hf _) hx.c4 (hf _)).mono ?_
    rintro e w' ⟨rfl, rfl⟩
    rw [Nat.zero_add]
    exact ⟨rfl, g2.1.drew, grown_drew (grown_trans g1.2 g2.2)⟩
  · refine (swap_cells w g 0 n c i j d[i]! d[j]! hi hj hij hx.c0 (hf _) hx.c1 (hf _) hx.c2 (hf _) hx.c3 (hf _) hx.c4 (hf _) hy.c0 (hf _) hy.c1 (hf _) hy.c2 (hf _) hy.c3 (hf _) hy.c4 (hf _)).mono ?_
    rintro e w' ⟨rfl, rfl⟩
    rw [Nat.zero_add, Nat.zero_add]
    exact ⟨rfl, g2.1.drew, grown_drew (grown_trans g1.2 g2.2)⟩
theorem less_own (w : World) (base g n c i j : Nat) (d : Array Ln) (h : w.ownsRow base 152 5 (.slice (some ⟨g, 0, none⟩) n c) n (lvs d.toList)) (hi : i < n) (hj : j < n) :
    Calls Try.prog 145 #[.slice (some ⟨g, 0, none⟩) n c, .int .i64 i, .int .i64 j] w (Says w (.bool (lessL d[i]! d[j]!))) := by
  obtain ⟨hx, _⟩ := own_at5 h hi
  obtain ⟨hy, _⟩ := own_at5 h hj
  exact less_cells w g 0 n c i j _ _ hi hj hx.c0 hx.c4 hy.c0 hy.c4
theorem len_any8 (w : World) (A : Option Addr) (n c : Nat) : Calls Try.prog 144 #[.slice A n c] w fun e w' => e = .returned (.int .i64 n) ∧ w = w' := by
  go_enter Try.func144, Try.ntmps144
  go_wp2
  go_ret
  exact ⟨rfl, rfl⟩
end Go.Proofs.Ytfmfamnngfanfaa
