/-
  ACTS of layer 15's statements: what came in.
  No statement is proved here.
-/
import Derived.Test.YthhmgbeigeagdaaWinLaw
import Derived.Test.YthhmgbeigeagdaaCameBase
import Derived.Deep.Strs
namespace Go.Proofs.Ythhmgbeigeagdaa
open Go.ChangeShapes Go.WideShapes Go.ChangeAt Go.RowKit

instance : Inhabited Aw := ⟨⟨0, 0, 0⟩⟩
def awv (x : Aw) : List Value := [.int .u8 (x.d : Int), .int .u8 (x.n : Int), .int .u64 (x.m : Int)]
def awvs (L : List Aw) : List Value := L.flatMap awv
theorem awvs_len (L : List Aw) : (awvs L).length = L.length * 3 := by
  induction L with
  | nil => rfl
  | cons a L ih => unfold awvs at *; rw [List.flatMap_cons, List.length_append, ih, List.length_cons]; simp [awv]; omega
theorem awvs_at {L : List Aw} {j t : Nat} {x : Aw} (h : L[j]? = some x) (ht : t < 3) : (awvs L)[j * 3 + t]? = (awv x)[t]? := by
  induction L generalizing j with
  | nil => simp at h
  | cons a L ih =>
    have hl : (awv a).length = 3 := rfl
    unfold awvs
    rw [List.flatMap_cons]
    rcases j with _ | j
    · simp at h
      subst h
      rw [List.getElem?_append_left (by omega)]
      congr 1
      omega
    · have := ih (j := j) (by simpa using h)
      rw [List.getElem?_append_right (by omega), show (j + 1) * 3 + t - (awv a).length = j * 3 + t from by omega]
      exact this
structure Aws (w : World) (B : Nat) (A : Option Addr) (n c : Nat) (L : List Aw) : Prop where
  sn : Sn w B A n c 3 (awvs L)
  ok : ∀ x ∈ L, AwOk x
section
variable {w w' : World} {B : Nat} {A : Option Addr} {n c : Nat} {L : List Aw}
theorem Aws.len (h : Aws w B A n c L) : L.length = n := by have := h.sn.len; rw [awvs_len] at this; omega
theorem Aws.below {B' : Nat} (h : Aws w B A n c L) (hb : RowKit.Below B' w w') (hB : B ≤ B') : Aws w' B A n c L := ⟨h.sn.below hb hB, h.ok⟩
theorem Aws.nil_ (w : World) (B : Nat) : Aws w B none 0 0 [] := ⟨Sn.nil_ w B none 0 3 (Nat.zero_le _), fun x hx => by cases hx⟩
theorem Aws.at_ {j : Nat} (h : Aws w B A n c L) (hj : j < n) : ∃ b o x, A = some ⟨b, o, none⟩ ∧ b < B ∧ L[j]? = some x ∧ w.cell? ⟨b, o + j * 3, none⟩ = some (.int .u8 (x.d : Int)) ∧ w.cell? ⟨b, o + j * 3 + 1, none⟩ = some (.int .u8 (x.n : Int)) ∧ w.cell? ⟨b, o + j * 3 + 2, none⟩ = some (.int .u64 (x.m : Int)) ∧ AwOk x := by
  have hl : j < L.length := by rw [h.len]; exact hj
  have hr : L[j]? = some L[j] := List.getElem?_eq_getElem hl
  obtain ⟨b, o, e, hb, hc⟩ := h.sn.cell (by omega)
  have k : ∀ t, t < 3 → ∀ y, (awv L[j])[t]? = some y → w.cell? ⟨b, o + (j * 3 + t), none⟩ = some y := fun t ht y hy => hc _ _ ((awvs_at hr ht).trans hy)
  exact ⟨b, o, L[j], e, hb, hr, k 0 (by omega) _ rfl, k 1 (by omega) _ rfl, k 2 (by omega) _ rfl, h.ok _ (List.getElem_mem hl)⟩
end
theorem cellsAct15 : Try.prog.cellsOf 36 = 3 := by kernel_rfl
theorem cellsU8 : Try.prog.cellsOf 5 = 1 := by kernel_rfl
theorem cellsU64 : Try.prog.cellsOf 25 = 1 := by kernel_rfl
theorem list3 {l : List Value} (h : l.length = 3) : ∃ a b c, l = [a, b, c] := by
  rcases l with _ | ⟨a, _ | ⟨b, _ | ⟨c, _ | ⟨d, t⟩⟩⟩⟩
  all_goals simp at h
  exact ⟨a, b, c, rfl⟩
set_option maxRecDepth 100000 in
theorem read_act15 {H : Type} {enc : TypeId × Value → H} {W : World} {fuel : Nat} {v0 v1 v2 : Value} {x : DataW H × List MemPlace}
    (hf : DataW.trod enc Try.prog W 0 (fun _ => true) true fuel 36 [v0, v1, v2] = some x) :
    ∃ k : Aw, [v0, v1, v2] = awv k ∧ AwOk k := by
  obtain ⟨y0, y1, y2, n, -, -, h0, h1, h2⟩ := Deep.trod_struct3 Try.underlying36 hf
  simp only [cellsU8, cellsU64, List.drop_zero, List.drop_succ_cons, List.take_succ_cons, List.take_zero] at h0 h1 h2
  obtain ⟨N, hN, -, hw⟩ := DataW.trod_int Try.underlying5 h0
  obtain ⟨M, hM, -, hw'⟩ := DataW.trod_int Try.underlying5 h1
  obtain ⟨T, hT, -, hw''⟩ := DataW.trod_int Try.underlying25 h2
  injection hN with hN
  injection hM with hM
  injection hT with hT
  subst hN hM hT
  have hb := bounds_u8 hw
  have hb' := bounds_u8 hw'
  have hb'' := bounds_u64 hw''
  refine ⟨⟨N.toNat, M.toNat, T.toNat⟩, ?_, ⟨?_, ?_, ?_⟩⟩
  · show _ = [Value.int .u8 (N.toNat : Int), Value.int .u8 (M.toNat : Int), Value.int .u64 (T.toNat : Int)]
    rw [Int.toNat_of_nonneg hb.1, Int.toNat_of_nonneg hb'.1, Int.toNat_of_nonneg hb''.1]
  · show N.toNat < 256
    omega
  · show M.toNat < 256
    omega
  · show T.toNat < 18446744073709551616
    omega
set_option maxRecDepth 100000 in
theorem came_acts15 {H : Type} {enc : TypeId × Value → H} {W : World} {base : Nat} {v : Value} {d : DataW H} {p : List MemPlace}
    (hv : Value.okWide Try.prog W .any base 23 v) (h : DataW.Trod enc Try.prog W 0 (fun _ => true) true 23 v d p) :
    ∃ A n c, v = .slice A n c ∧ ∃ L, Aws W W.heap.size A n c L := by
  obtain ⟨A, n, c, rfl⟩ := okWide_slice Try.underlying23 hv
  refine ⟨A, n, c, rfl, ?_⟩
  obtain ⟨fuel, hf⟩ := h
  rcases Deep.open_slice Try.underlying23 hf with ⟨hcs, _⟩ | ⟨a, len, cap, m, n', D, Pl, hcs, _, hl, hm, hmm, _, hx⟩
  · simp [Value.cells] at hcs
    obtain ⟨rfl, rfl, rfl⟩ := hcs
    exact ⟨[], Aws.nil_ _ _⟩
  · simp [Value.cells] at hcs
    obtain ⟨rfl, rfl, rfl⟩ := hcs
    have hlm : n ≤ m := by rw [hmm]; simp; exact hl
    rw [cellsAct15] at hx
    have one : ∀ i, i < n → ∃ k : Aw, (∀ t y, (awv k)[t]? = some y → W.cell? (a.add (i * 3 + t)) = some y) ∧ AwOk k := fun i hi => by
      obtain ⟨cs', h1, h2⟩ := hx i (by omega)
      obtain ⟨_, hlen, hcell⟩ := World.cells?_some h1
      obtain ⟨v0, v1, v2, rfl⟩ := list3 hlen
      obtain ⟨k, hk, hok⟩ := read_act15 h2
      rw [hk] at hcell
      refine ⟨k, fun t y hy => ?_, hok⟩
      have ht : t < 3 := by have := (List.getElem?_eq_some_iff.1 hy).1; simpa [awv] using this
      have e := hcell t ht
      rw [Deep.add_add] at e
      rw [e]
      exact hy
    obtain ⟨Q, hQ⟩ := Deep.choose_lt (p := fun i (k : Aw) => (∀ t y, (awv k)[t]? = some y → W.cell? (a.add (i * 3 + t)) = some y) ∧ AwOk k) one
    refine ⟨(List.range n).map Q, ⟨by rw [awvs_len]; simp, hl, hm, fun hn => ?_⟩, fun q hq => ?_⟩
    · have h0 := (hQ 0 (by omega)).1 0 _ rfl
      obtain ⟨b, o, spot⟩ := a
      have hspot : spot = none := by simpa [Addr.add] using World.cell?_spot h0
      subst hspot
      have hb := World.block_lt_of_cell? W _ h0
      refine ⟨b, o, rfl, by simpa [Addr.add] using hb, fun j x hj => ?_⟩
      have hjl : j < n * 3 := by
        have := (List.getElem?_eq_some_iff.1 hj).1
        rw [awvs_len] at this
        simpa using this
      have hi : j / 3 < n := by omega
      have hat : ((List.range n).map Q)[j / 3]? = some (Q (j / 3)) := by simp [hi]
      have e : j / 3 * 3 + j % 3 = j := by omega
      have h1 := awvs_at hat (show j % 3 < 3 by omega)
      rw [e, hj] at h1
      have h2 := (hQ (j / 3) hi).1 (j % 3) x h1.symm
      rw [e, Go.Proofs.Ythhmgbeigeagdaa.add_plain] at h2
      exact h2
    · obtain ⟨i, hi, rfl⟩ := List.mem_map.1 hq
      exact (hQ i (by simpa using hi)).2
end Go.Proofs.Ythhmgbeigeagdaa
