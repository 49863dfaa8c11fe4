/-
  MATHEMATICS of windows that numbers came into, one by one; WORDS for a row of one's own whose cells are exchanged; came_bytes.
  No statement is proved here.
-/
import Derived.Test.YtjgkfoldbnjpeaaWinKeep
import Derived.Laws.OwnMore
namespace Go.Proofs.Ytjgkfoldbnjpeaa
open Go.ChangeShapes Go.WideShapes Go.ChangeAt Go.RowKit

theorem cntP_list : ∀ (l : List Nat) (N : Nat), l.Nodup → (∀ x ∈ l, x < N) → cntP (fun x => decide (x ∈ l)) N = l.length
  | [], N, _, _ => by
    have : cntP (fun x => decide (x ∈ ([] : List Nat))) N = cntP (fun x => decide (x = 0) && false) N := cntP_congr N fun x _ => by simp
    rw [this]
    induction N with
    | zero => rfl
    | succ N ih => rw [cntP, ih (by simp) (cntP_congr N fun x _ => by simp)]; simp
  | a :: l, N, hn, hl => by
    obtain ⟨h1, h2⟩ := List.nodup_cons.1 hn
    have ih := cntP_list l N h2 fun x hx => hl x (List.mem_cons_of_mem _ hx)
    have ha := hl a List.mem_cons_self
    have e1 : cntP (fun x => decide (x ∈ a :: l)) N = cntP (fun x => decide (a ≤ x ∧ x ≤ a) || decide (x ∈ l)) N := cntP_congr N fun x _ => by
      rw [Bool.eq_iff_iff]
      simp only [Bool.or_eq_true, decide_eq_true_iff, List.mem_cons]
      constructor
      · rintro (h | h)
        · exact .inl (by omega)
        · exact .inr h
      · rintro (h | h)
        · exact .inl (by omega)
        · exact .inr h
    rw [e1, cntP_or (fun x hx => by
      have hx := of_decide_eq_true hx
      have : x = a := by omega
      subst this
      simpa using h1) N, ih, cntP_run a a (Nat.le_refl _)]
    simp only [List.length_cons]
    omega
/-- A window into which these numbers came. -/
structure Mt (W : Wn) (K : Nat) (l : List Nat) : Prop where
  ok : W.Ok
  width : W.width = K
  D : ∀ x, W.D x ↔ x = 0 ∨ x ∈ l
  nd : l.Nodup
  rng : ∀ x ∈ l, 1 ≤ x ∧ x ≤ K
  K64 : K ≤ 64
theorem Mt.low {W : Wn} {K : Nat} {l : List Nat} (h : Mt W K l) : W.low ≤ K := by
  rcases (h.D W.low).1 (.inl (Nat.le_refl _)) with h1 | h1
  · omega
  · exact (h.rng _ h1).2
theorem Mt.new {K : Nat} (h1 : 1 ≤ K) (h2 : K ≤ 64) : Mt (newW K) K [] := ⟨new_ok h1 (by omega), rfl, fun x => by rw [new_D]; simp, List.nodup_nil, fun x hx => (by cases hx), h2⟩
theorem Mt.takes {W : Wn} {K k : Nat} {l : List Nat} (h : Mt W K l) (h1 : 1 ≤ k) (h2 : k ≤ K) : takesW W k = decide (k ∉ l) := by
  rw [Bool.eq_iff_iff, takesW_iff h.ok.ok, decide_eq_true_iff, h.D, h.width]
  constructor
  · exact fun h3 h4 => h3.2 (.inr h4)
  · exact fun h3 => ⟨by omega, fun h4 => h4.elim (by omega) h3⟩
theorem Mt.put {W : Wn} {K k : Nat} {l : List Nat} (h : Mt W K l) (h1 : 1 ≤ k) (h2 : k ≤ K) (hk : k ∉ l) : Mt (putW W k) K (l ++ [k]) := by
  have hl := h.low
  have h64 := h.K64
  obtain ⟨k1, _, _, _, k5⟩ := put_spec h.ok (by omega) k (by unfold two64; omega)
  refine ⟨k1, k5.trans h.width, fun x => ?_, ?_, fun x hx => ?_, h64⟩
  · rw [put_D h.ok (by omega) (by have := h.width; omega), h.D, List.mem_append, List.mem_singleton, or_assoc]
  · rw [List.nodup_append]
    exact ⟨h.nd, by simp, fun a ha b hb e => by rw [List.mem_singleton] at hb; subst hb e; exact hk ha⟩
  · rcases List.mem_append.1 hx with hx | hx
    · exact h.rng x hx
    · rw [List.mem_singleton] at hx; subst hx; exact ⟨h1, h2⟩
theorem Mt.put_old {W : Wn} {K k : Nat} {l : List Nat} (h : Mt W K l) (h1 : 1 ≤ k) (h2 : k ≤ K) (hk : k ∈ l) : putW W k = W := by
  unfold putW
  rw [h.takes h1 h2]
  simp [hk]
theorem Mt.ext {V W : Wn} {K : Nat} {l m : List Nat} (hV : Mt V K l) (hW : Mt W K m) (h : ∀ x, x ∈ l ↔ x ∈ m) : V = W :=
  hV.ok.ext hW.ok (hV.width.trans hW.width.symm) fun x => by rw [hV.D, hW.D, h]
theorem Mt.count {W : Wn} {K : Nat} {l : List Nat} (h : Mt W K l) : W.low + cntL W.L = l.length := by
  have hl := h.low
  have h64 := h.K64
  have hw := h.width
  have hN : ∀ r ∈ W.L, r.2 < 200 := fun r hr => by
    have := (h.ok.lo r.2 ⟨r, hr, h.ok.ok.can.ok r hr, Nat.le_refl _⟩).2
    omega
  have h1 := cntP_card 200 W.L h.ok.ok.can hN
  have h2 := cntP_list l 200 h.nd fun x hx => by have := (h.rng x hx).2; omega
  have h3 : cntP (fun x => decide (0 ≤ x ∧ x ≤ W.low) || memB W.L x) 200 = cntP (fun x => decide (0 ≤ x ∧ x ≤ 0) || decide (x ∈ l)) 200 := cntP_congr 200 fun x _ => by
    rw [Bool.eq_iff_iff]
    simp only [Bool.or_eq_true, decide_eq_true_iff, memB_iff]
    have := h.D x
    unfold Wn.D at this
    constructor
    · rintro (h5 | h5)
      · rcases this.1 (.inl h5.2) with h6 | h6
        · exact .inl (by omega)
        · exact .inr h6
      · rcases this.1 (.inr h5) with h6 | h6
        · exact .inl (by omega)
        · exact .inr h6
    · rintro (h5 | h5)
      · rcases this.2 (.inl (by omega)) with h6 | h6
        · exact .inl (by omega)
        · exact .inr h6
      · rcases this.2 (.inr h5) with h6 | h6
        · exact .inl (by omega)
        · exact .inr h6
  rw [cntP_or (fun x hx => by
      have hx := of_decide_eq_true hx
      cases hm : memB W.L x
      · rfl
      · have := (h.ok.lo x ((memB_iff _ _).1 hm)).1; omega) 200, cntP_or (fun x hx => by
      have hx := of_decide_eq_true hx
      apply decide_eq_false
      intro hm
      have := (h.rng x hm).1
      omega) 200, h1, h2, cntP_run 0 W.low (Nat.zero_le _), cntP_run 0 0 (Nat.le_refl _)] at h3
  rw [h.ok.cnt.1]
  omega
/-- Places i and j exchanged. -/
def swapN (l : List Nat) (i j : Nat) : List Nat := (l.set i (l.getD j 0)).set j (l.getD i 0)
theorem swapN_perm {l : List Nat} {i j : Nat} (hi : i < l.length) (hj : j < l.length) : (swapN l i j).Perm l := by
  unfold swapN
  rw [show l.getD i 0 = l[i] from by simp [List.getD, hi], show l.getD j 0 = l[j] from by simp [List.getD, hj]]
  exact List.set_set_perm hi hj
theorem swapN_len (l : List Nat) (i j : Nat) : (swapN l i j).length = l.length := by unfold swapN; simp
theorem nvs_set (l : List Nat) (j x : Nat) : nvs (l.set j x) = (nvs l).set j (nv x) := by unfold nvs; rw [List.map_set]
theorem OwnN.swap {w : World} {base g n c : Nat} {l : List Nat} (h : OwnN w base (some ⟨g, 0, none⟩) n c l) (i j : Nat) :
    OwnN ((w.setCell ⟨g, i, none⟩ (nv (l.getD j 0))).setCell ⟨g, j, none⟩ (nv (l.getD i 0))) base (some ⟨g, 0, none⟩) n c (swapN l i j) ∧ w.grownBy ((w.setCell ⟨g, i, none⟩ (nv (l.getD j 0))).setCell ⟨g, j, none⟩ (nv (l.getD i 0))) (some g) := by
  have h1 := World.ownsRow.stored h i (nv (l.getD j 0))
  have h2 := World.ownsRow.stored h1.1 j (nv (l.getD i 0))
  unfold OwnN swapN
  rw [nvs_set, nvs_set]
  exact ⟨h2.1, grown_trans h1.2 h2.2⟩
theorem On.swap {w0 : World} {base X : Nat} {A : Option Addr} {n c : Nat} {W : Wn} {g nd cd : Nat} {l : List Nat} {w : World} (h : On w0 base X A n c W (some ⟨g, 0, none⟩) nd cd l w) (i j : Nat) :
    On w0 base X A n c W (some ⟨g, 0, none⟩) nd cd (swapN l i j) ((w.setCell ⟨g, i, none⟩ (nv (l.getD j 0))).setCell ⟨g, j, none⟩ (nv (l.getD i 0))) := by
  obtain ⟨h1, h2⟩ := h.own.swap i j
  have hg : (Value.slice (some ⟨g, 0, none⟩) nd cd).ownBlock = some g := rfl
  have hgb := (h.own.lt g hg).1
  refine ⟨h.kp.grown h2 (fun e => (h.far g hg).1 (by injection e with e; exact e.symm)) (fun b o eb e => (h.far g hg).2 b o eb (by injection e)) ?_, h1, h.far, h.lo, h.b1, Nat.le_trans h.b2 h2.size⟩
  have := h.b1
  exact (h.kp.bel.setCell (p := ⟨g, i, none⟩) (by show _ ≤ g; omega) _).setCell (p := ⟨g, j, none⟩) (by show _ ≤ g; omega) _
theorem On.frz {w0 : World} {base X : Nat} {A : Option Addr} {n c : Nat} {W : Wn} {g nd cd : Nat} {l : List Nat} {w : World} (h : On w0 base X A n c W (some ⟨g, 0, none⟩) nd cd l w) (j : Nat) : w.frozen? ⟨g, j, none⟩ = false := World.ownsRow.frozenAt h.own j
theorem OwnN.g {w : World} {base n c : Nat} {A : Option Addr} {l : List Nat} (h : OwnN w base A n c l) (hn : 0 < n) : ∃ g, A = some ⟨g, 0, none⟩ := by
  rcases h.2 with ⟨_, h2⟩ | ⟨g, cap, cur, hv, _⟩
  · omega
  · injection hv with e1
    exact ⟨g, e1⟩
theorem own_nilN (w : World) (base : Nat) : OwnN w base none 0 0 [] := ⟨rfl, .inl ⟨rfl, rfl⟩⟩
theorem cellsBytes : Try.prog.cellsOf 100 = 1 := by kernel_rfl
set_option maxRecDepth 100000 in
theorem came_bytes {H : Type} {enc : TypeId × Value → H} {W : World} {base : Nat} {v : Value} {d : DataW H} {p : List MemPlace}
    (hv : Value.okWide Try.prog W .any base 100 v) (h : DataW.Trod enc Try.prog W 0 (fun _ => true) true 100 v d p) :
    ∃ A n c l, v = .slice A n c ∧ Sl W W.heap.size A n c l := by
  obtain ⟨A, n, c, rfl⟩ := okWide_slice Try.underlying100 hv
  obtain ⟨fuel, hf⟩ := h
  rcases open_ints Try.underlying100 Try.underlying5 (by kernel_rfl) hf with ⟨hcs, _⟩ | ⟨x, l, c', zs, hcs, _, hl, hm, hz, _, hcell, hwz⟩
  · simp [Value.cells] at hcs
    obtain ⟨rfl, rfl, rfl⟩ := hcs
    exact ⟨none, 0, 0, [], rfl, Sl.nil_ _ _ _ _ (Nat.zero_le _)⟩
  · simp [Value.cells] at hcs
    obtain ⟨rfl, rfl, rfl⟩ := hcs
    obtain ⟨bs, hs⟩ := sl_of_row (w := W) (zs := zs) (.inr ⟨x, rfl, hl, hm, by simpa using hz, hcell, hwz⟩)
    exact ⟨_, _, _, bs, rfl, hs⟩
end Go.Proofs.Ytjgkfoldbnjpeaa
