/-
  CONTRACT of the statements' own small.
  No statement is proved here.
-/
import Derived.Test.YtfmfamnngfanfaaShareTop
namespace Go.Proofs.Ytfmfamnngfanfaa
open Go.RowKit Go.Sort

/-- A slice of numbers of one kind, below M. -/
structure Us (q : IntKind) (M : Nat) (w : World) (B : Nat) (A : Option Addr) (n c : Nat) (L : List Nat) : Prop where
  sn : Sn w B A n c 1 (L.map fun (x : Nat) => Value.int q (x : Int))
  lt : ∀ x ∈ L, x < M
section
variable {q : IntKind} {M : Nat} {w w' : World} {B : Nat} {A : Option Addr} {n c : Nat} {L : List Nat}
theorem Us.len (h : Us q M w B A n c L) : L.length = n := by have := h.sn.len; simp at this; omega
theorem Us.below {B' : Nat} (h : Us q M w B A n c L) (hb : RowKit.Below B' w w') (hB : B ≤ B') : Us q M w' B A n c L := ⟨h.sn.below hb hB, h.lt⟩
theorem Us.on (h : Us q M w B A n c L) (hb : RowKit.Below w.heap.size w w') (hB : B ≤ w.heap.size) : Us q M w' w'.heap.size A n c L := ⟨h.sn.on hb hB, h.lt⟩
theorem Us.at_ {j : Nat} (h : Us q M w B A n c L) (hj : j < n) : ∃ b o x, A = some ⟨b, o, none⟩ ∧ b < B ∧ L[j]? = some x ∧ w.cell? ⟨b, o + j, none⟩ = some (.int q (x : Int)) ∧ x < M := by
  have hl : j < L.length := by rw [h.len]; exact hj
  have hr := List.getElem?_eq_getElem hl
  obtain ⟨b, o, e, hb, hc⟩ := h.sn.cell (by omega)
  exact ⟨b, o, L[j], e, hb, hr, hc _ _ (by simp [hr]), h.lt _ (List.getElem_mem hl)⟩
end
theorem ints_info : (Try.prog.info? 22).map (fun i => (i.zero, i.size, i.bytes)) = some (some (.slice none 0 0), 1, 24) := by kernel_rfl
/-- The weights that small makes. -/
def wOf (U : List Nat) : List Int := if U = [] then [1] else (U.take 8).map fun x => 1 + ((x % 1000 : Nat) : Int)
theorem wOf_right (U : List Nat) : rightW (wOf U) = true := by
  unfold wOf rightW
  by_cases h : U = []
  · rw [if_pos h]; decide
  · rw [if_neg h]
    have := List.length_pos_iff.2 h
    simp only [Bool.and_eq_true, List.all_eq_true, decide_eq_true_eq]
    refine ⟨⟨fun x hx => ?_, ?_⟩, ?_⟩
    · obtain ⟨y, _, rfl⟩ := List.mem_map.1 hx
      unfold okW
      have := Nat.mod_lt y (show 0 < 1000 by omega)
      simp
      omega
    · simp; omega
    · simp; omega
def wTo (U : List Nat) (k : Nat) : List Int := ((U.take k).take 8).map fun x => 1 + ((x % 1000 : Nat) : Int)
theorem wTo_step {U : List Nat} {k x : Nat} (hx : U[k]? = some x) : (k < 8 → wTo U (k + 1) = wTo U k ++ [1 + ((x % 1000 : Nat) : Int)]) ∧ (8 ≤ k → wTo U (k + 1) = wTo U k) := by
  have hl := (List.getElem?_eq_some_iff.1 hx).1
  constructor
  · intro hk
    unfold wTo
    rw [List.take_of_length_le (l := U.take (k + 1)) (by simp; omega), List.take_of_length_le (l := U.take k) (by simp; omega), List.take_add_one, hx]
    simp
  · intro hk
    unfold wTo
    rw [List.take_take, List.take_take, Nat.min_eq_left (by omega), Nat.min_eq_left (by omega)]
theorem wTo_len (U : List Nat) (k : Nat) : (wTo U k).length ≤ 8 := by unfold wTo; simp; omega
def S1Rel (w : World) (U : List Nat) (nu gk : Nat) (vw vi : Value) (wr : World) : Prop :=
  ∃ (k : Nat) (A : Option Addr) (n c : Nat), gk + k = nu ∧ vi = .int .i64 (k : Int) ∧ vw = .slice A n c ∧ wr.ownsRow w.heap.size 3 1 (.slice A n c) n (ivs (wTo U k)) ∧ RowKit.Below w.heap.size w wr
/-- What small hands back. -/
structure Made (w : World) (U : List Nat) (room : Int) (A : Option Addr) (n c : Nat) (Aq : Option Addr) (nq cq : Nat) (R : List Ic) (cls sz : Nat) (w' : World) : Prop where
  wi : Is w' w'.heap.size A n c (wOf U)
  qi : Iss w' w'.heap.size Aq nq cq R
  len : nq = n
  clsLt : cls < n
  szLt : sz < 65536
  roomIn : (sz : Int) ≤ room ∧ room < sz + 100000
  each : ∀ x ∈ R, (∀ s ∈ x.L, 0 ≤ s ∧ s ≤ 65535) ∧ x.n ≤ 30
  bel : RowKit.Below w.heap.size w w'
def SaysMade (w : World) (U : List Nat) (e : Ending) (w' : World) : Prop :=
  ∃ room A n c Aq nq cq R cls sz, e = .returned (.tuple #[.int .i64 room, .slice A n c, .slice Aq nq cq, .int .i64 ((cls : Nat) : Int), .int .i64 ((sz : Nat) : Int)]) ∧ Made w U room A n c Aq nq cq R cls sz w'
theorem made_nil {w w4 : World} {U : List Nat} {A : Option Addr} {n c qb : Nat} (nd : Nat) (hi : Is w4 w4.heap.size A n c (wOf U)) (hn : 0 < n) (ho : w4.ownsRow w.heap.size 22 1 (.slice (some ⟨qb, 0, none⟩) n n) n (madeCells (Value.slice none 0 0).cells (n * 1)).toList) (hb : RowKit.Below w.heap.size w w4) :
    Made w U 0 A n c (some ⟨qb, 0, none⟩) n n (List.replicate n ⟨none, 0, 0, []⟩) 0 0 (w4.drewN nd) := by
  have e : (madeCells (Value.slice none 0 0).cells (n * 1)).toList = icvs (List.replicate n ⟨none, 0, 0, []⟩) := by
    have h1 : (Value.slice none 0 0).cells = #[Value.slice none 0 0] := rfl
    rw [h1, Nat.mul_one, toList_madeCells_one]
    simp [icvs, icv]
  rw [e] at ho
  refine ⟨hi.drewN nd, ⟨(Sn.of_own ho).drewN nd, fun x hx => ?_⟩, rfl, hn, by omega, by omega, fun x hx => ?_, below_drewN hb nd⟩
  · rw [(List.mem_replicate.1 hx).2]
    exact Is.nil_ _ _ _ _ (Nat.zero_le _)
  · rw [(List.mem_replicate.1 hx).2]
    exact ⟨fun s hs => (by cases hs), Nat.zero_le _⟩
theorem wOf_rng (U : List Nat) : ∀ x ∈ wOf U, I64 x := fun x hx => by
  have := (right_facts (wOf_right U)).2.2.1 x hx
  unfold I64
  omega
end Go.Proofs.Ytfmfamnngfanfaa
