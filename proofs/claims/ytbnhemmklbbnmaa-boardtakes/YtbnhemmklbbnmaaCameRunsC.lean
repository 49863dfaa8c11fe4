/-
  AN ARGUMENT THAT CAME IN, opened: a slice of runs.
  No statement is proved here.
-/
import Derived.Test.YtbnhemmklbbnmaaBdLot10
import Derived.Test.YtbnhemmklbbnmaaBdLot15
namespace Go.Proofs.Ytbnhemmklbbnmaa
open Go.ChangeShapes Go.WideShapes Go.ChangeAt Go.RowKit

theorem cellsRun : Try.prog.cellsOf 47 = 2 := by kernel_rfl
theorem cellsNum : Try.prog.cellsOf 34 = 1 := by kernel_rfl
theorem list2 {l : List Value} (h : l.length = 2) : ∃ a b, l = [a, b] := by
  rcases l with _ | ⟨a, _ | ⟨b, _ | ⟨c, t⟩⟩⟩
  all_goals simp at h
  exact ⟨a, b, rfl⟩
set_option maxRecDepth 100000 in
theorem read_run {H : Type} {enc : TypeId × Value → H} {W : World} {fuel : Nat} {v0 v1 : Value} {x : DataW H × List MemPlace}
    (hf : DataW.trod enc Try.prog W 0 (fun _ => true) true fuel 47 [v0, v1] = some x) :
    ∃ k : Rn, v0 = .int .u64 (k.1 : Int) ∧ v1 = .int .u64 (k.2 : Int) ∧ k.1 < two64 ∧ k.2 < two64 := by
  obtain ⟨y0, y1, n, -, -, h0, h1⟩ := trod_struct2 Try.underlying47 hf
  simp only [cellsNum, List.drop_zero, List.drop_succ_cons, List.take_succ_cons, List.take_zero] at h0 h1
  obtain ⟨N, hN, -, hw⟩ := DataW.trod_int Try.underlying34 h0
  obtain ⟨M, hM, -, hw'⟩ := DataW.trod_int Try.underlying34 h1
  injection hN with hN
  injection hM with hM
  subst hN hM
  have hb := bounds_u64 hw
  have hb' := bounds_u64 hw'
  refine ⟨(N.toNat, M.toNat), ?_, ?_, ?_, ?_⟩
  · show _ = Value.int .u64 (N.toNat : Int)
    rw [Int.toNat_of_nonneg hb.1]
  · show _ = Value.int .u64 (M.toNat : Int)
    rw [Int.toNat_of_nonneg hb'.1]
  · show N.toNat < two64
    unfold two64
    omega
  · show M.toNat < two64
    unfold two64
    omega
set_option maxRecDepth 100000 in
theorem read_runs {H : Type} {enc : TypeId × Value → H} {W : World} {fuel : Nat} {v : Value} {x : DataW H × List MemPlace}
    (hf : DataW.trod enc Try.prog W 0 (fun _ => true) true fuel 38 [v] = some x) :
    ∃ A n c, v = .slice A n c ∧ ∃ L, Rs W W.heap.size A n c L := by
  obtain ⟨A, n, c, rfl⟩ : ∃ A n c, v = .slice A n c := by
    rcases Deep.open_slice Try.underlying38 hf with ⟨hcs, _⟩ | ⟨a, len, cap, m, n', D, Pl, hcs, _⟩
    · injection hcs with hcs
      exact ⟨_, _, _, hcs⟩
    · injection hcs with hcs
      exact ⟨_, _, _, hcs⟩
  refine ⟨A, n, c, rfl, ?_⟩
  rcases Deep.open_slice Try.underlying38 hf with ⟨hcs, _⟩ | ⟨a, len, cap, m, n', D, Pl, hcs, _, hl, hm, hmm, _, hx⟩
  · simp at hcs
    obtain ⟨rfl, rfl, rfl⟩ := hcs
    exact ⟨[], Rs.nil_ _ _ _ _ (Nat.zero_le _)⟩
  · simp at hcs
    obtain ⟨rfl, rfl, rfl⟩ := hcs
    have hlm : n ≤ m := by rw [hmm]; simp; exact hl
    rw [cellsRun] at hx
    have one : ∀ i, i < n → ∃ k : Rn, W.cell? (a.add (i * 2)) = some (.int .u64 (k.1 : Int)) ∧ W.cell? (a.add (i * 2 + 1)) = some (.int .u64 (k.2 : Int)) ∧ k.1 < two64 ∧ k.2 < two64 := fun i hi => by
      obtain ⟨cs', h1, h2⟩ := hx i (by omega)
      obtain ⟨_, hlen, hcell⟩ := World.cells?_some h1
      obtain ⟨v0, v1, rfl⟩ := list2 hlen
      obtain ⟨k, rfl, rfl, hk1, hk2⟩ := read_run h2
      have e0 := hcell 0 (by omega)
      have e1 := hcell 1 (by omega)
      rw [Deep.add_add] at e0 e1
      exact ⟨k, by simpa using e0, by simpa using e1, hk1, hk2⟩
    obtain ⟨Q, hQ⟩ := Deep.choose_lt (p := fun i (k : Rn) => W.cell? (a.add (i * 2)) = some (.int .u64 (k.1 : Int)) ∧ W.cell? (a.add (i * 2 + 1)) = some (.int .u64 (k.2 : Int)) ∧ k.1 < two64 ∧ k.2 < two64) one
    refine ⟨(List.range n).map Q, ⟨by rw [rvs_len]; simp, hl, hm, fun hn => ?_⟩, fun q hq => ?_⟩
    · have h0 := (hQ 0 (by omega)).1
      obtain ⟨b, o, spot⟩ := a
      have hspot : spot = none := by simpa [Addr.add] using World.cell?_spot h0
      subst hspot
      have hb := World.block_lt_of_cell? W _ h0
      refine ⟨b, o, rfl, by simpa [Addr.add] using hb, fun j x hj => ?_⟩
      have hjl : j < n * 2 := by
        have := (List.getElem?_eq_some_iff.1 hj).1
        rw [rvs_len] at this
        simpa using this
      have hi : j / 2 < n := by omega
      have hat : ((List.range n).map Q)[j / 2]? = some (Q (j / 2)) := by simp [hi]
      obtain ⟨h1, h2⟩ := rvs_at hat
      obtain ⟨q0, q1, _, _⟩ := hQ (j / 2) hi
      rw [Go.Proofs.Ytbnhemmklbbnmaa.add_plain] at q0 q1
      rcases Nat.mod_two_eq_zero_or_one j with hm2 | hm2
      · have e : j / 2 * 2 = j := by omega
        rw [e] at h1 q0
        rw [h1] at hj
        injection hj with hj
        subst hj
        exact q0
      · have e : j / 2 * 2 + 1 = j := by omega
        rw [e] at h2 q1
        rw [h2] at hj
        injection hj with hj
        subst hj
        exact q1
    · obtain ⟨i, hi, rfl⟩ := List.mem_map.1 hq
      exact (hQ i (by simpa using hi)).2.2
set_option maxRecDepth 100000 in
theorem came_runs {H : Type} {enc : TypeId × Value → H} {W : World} {base : Nat} {v : Value} {d : DataW H} {p : List MemPlace}
    (hv : Value.okWide Try.prog W .any base 38 v) (h : DataW.Trod enc Try.prog W 0 (fun _ => true) true 38 v d p) :
    ∃ A n c, v = .slice A n c ∧ ∃ L, Rs W W.heap.size A n c L := by
  obtain ⟨A, n, c, rfl⟩ := okWide_slice Try.underlying38 hv
  obtain ⟨fuel, hf⟩ := h
  obtain ⟨A', n', c', e, hr⟩ := read_runs (v := .slice A n c) (by simpa [Value.cells] using hf)
  exact ⟨A', n', c', e, hr⟩
end Go.Proofs.Ytbnhemmklbbnmaa
