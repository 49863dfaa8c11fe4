/-
  WORDS for slices of numbers (int), and of such slices; CONTRACTS of share's sum, Total, has, Right, bounded.
  No statement is proved here.
-/
import Derived.Test.YtfmfamnngfanfaaRows
import Derived.Test.YtfmfamnngfanfaaCells
import Derived.Test.YtfmfamnngfanfaaEver
import Derived.Deep.QuietTactic
import Derived.BigQuiet
import Derived.Deep.LoopGhost
import Derived.WalkSpells
namespace Go.Proofs.Ytfmfamnngfanfaa
open Go.RowKit

def iv (x : Int) : Value := .int .i64 x
def ivs (L : List Int) : List Value := L.map iv
theorem ivs_len (L : List Int) : (ivs L).length = L.length := by simp [ivs]
theorem ivs_app (L M : List Int) : ivs (L ++ M) = ivs L ++ ivs M := by simp [ivs]
theorem ivs_at {L : List Int} {j : Nat} {x : Int} (h : L[j]? = some x) : (ivs L)[j]? = some (iv x) := by simp [ivs, h]
theorem ivs_take (L : List Int) (m : Nat) : (ivs L).take m = ivs (L.take m) := by simp [ivs]
theorem ivs_drop (L : List Int) (m : Nat) : (ivs L).drop m = ivs (L.drop m) := by simp [ivs]
theorem ivs_one (L : List Int) : ∀ u ∈ ivs L, u.oneCell' = true := by
  intro u hu
  obtain ⟨x, _, rfl⟩ := List.mem_map.1 hu
  rfl
def I64 (x : Int) : Prop := -9223372036854775808 ≤ x ∧ x ≤ 9223372036854775807
/-- A slice of ints reads as this list, below block B. -/
structure Is (w : World) (B : Nat) (A : Option Addr) (n c : Nat) (L : List Int) : Prop where
  sn : Sn w B A n c 1 (ivs L)
  rng : ∀ x ∈ L, I64 x
section
variable {w w' : World} {B B' : Nat} {A : Option Addr} {n c : Nat} {L : List Int}
theorem Is.len (h : Is w B A n c L) : L.length = n := by have := h.sn.len; rw [ivs_len] at this; omega
theorem Is.more (h : Is w B A n c L) (hB : B ≤ B') : Is w B' A n c L := ⟨h.sn.more hB, h.rng⟩
theorem Is.below (h : Is w B A n c L) (hb : Below B' w w') (hB : B ≤ B') : Is w' B A n c L := ⟨h.sn.below hb hB, h.rng⟩
theorem Is.on (h : Is w B A n c L) (hb : Below w.heap.size w w') (hB : B ≤ w.heap.size) : Is w' w'.heap.size A n c L := ⟨h.sn.on hb hB, h.rng⟩
theorem Is.drewN (h : Is w B A n c L) (q : Nat) : Is (w.drewN q) B A n c L := ⟨h.sn.drewN q, h.rng⟩
theorem Is.alloc (h : Is w B A n c L) (hB : B ≤ w.heap.size) (o : Obj) : Is (w.alloc o) B A n c L := ⟨h.sn.alloc hB o, h.rng⟩
theorem Is.nil_ (w : World) (B : Nat) (A : Option Addr) (c : Nat) (hc : c ≤ maxLen) : Is w B A 0 c [] := ⟨Sn.nil_ w B A c 1 hc, fun q hq => by cases hq⟩
theorem Is.keep (h : Is w B A n c L) (hk : ∀ b o, b < B → w'.cell? ⟨b, o, none⟩ = w.cell? ⟨b, o, none⟩) : Is w' B A n c L := ⟨h.sn.keep hk, h.rng⟩
theorem Is.at_ {j : Nat} (h : Is w B A n c L) (hj : j < n) : ∃ b o x, A = some ⟨b, o, none⟩ ∧ b < B ∧ L[j]? = some x ∧ w.cell? ⟨b, o + j, none⟩ = some (.int .i64 x) ∧ I64 x := by
  have hl : j < L.length := by rw [h.len]; exact hj
  have hr := List.getElem?_eq_getElem hl
  obtain ⟨b, o, e, hb, hc⟩ := h.sn.cell (by omega)
  exact ⟨b, o, L[j], e, hb, hr, hc _ _ (ivs_at hr), h.rng _ (List.getElem_mem hl)⟩
theorem Is.take (h : Is w B A n c L) {m d : Nat} (hm : m ≤ n) (hmd : m ≤ d) (hd : d ≤ c) : Is w B A m d (L.take m) :=
  ⟨by have := h.sn.take hm hmd hd; rwa [Nat.mul_one, ivs_take] at this, fun q hq => h.rng q (List.mem_of_mem_take hq)⟩
theorem Is.drop (h : Is w B A n c L) {m : Nat} (hm : m ≤ n) : Is w B (if c = m then A else A.map (·.add (m * 1))) (n - m) (c - m) (L.drop m) :=
  ⟨by have := h.sn.drop hm; simpa [ivs_drop] using this, fun q hq => h.rng q (List.mem_of_mem_drop hq)⟩
end

/-- A slice of slices of ints. -/
structure Ic where
  A : Option Addr
  n : Nat
  c : Nat
  L : List Int
def icv (x : Ic) : Value := .slice x.A x.n x.c
def icvs (Q : List Ic) : List Value := Q.map icv
theorem icvs_len (Q : List Ic) : (icvs Q).length = Q.length := by simp [icvs]
structure Iss (w : World) (B : Nat) (A : Option Addr) (n c : Nat) (Q : List Ic) : Prop where
  sn : Sn w B A n c 1 (icvs Q)
  each : ∀ x ∈ Q, Is w B x.A x.n x.c x.L
section
variable {w w' : World} {B B' : Nat} {A : Option Addr} {n c : Nat} {Q : List Ic}
theorem Iss.len (h : Iss w B A n c Q) : Q.length = n := by have := h.sn.len; rw [icvs_len] at this; omega
theorem Iss.more (h : Iss w B A n c Q) (hB : B ≤ B') : Iss w B' A n c Q := ⟨h.sn.more hB, fun x hx => (h.each x hx).more hB⟩
theorem Iss.below (h : Iss w B A n c Q) (hb : Below B' w w') (hB : B ≤ B') : Iss w' B A n c Q := ⟨h.sn.below hb hB, fun x hx => (h.each x hx).below hb hB⟩
theorem Iss.on (h : Iss w B A n c Q) (hb : Below w.heap.size w w') (hB : B ≤ w.heap.size) : Iss w' w'.heap.size A n c Q := ⟨h.sn.on hb hB, fun x hx => (h.each x hx).on hb hB⟩
theorem Iss.drewN (h : Iss w B A n c Q) (q : Nat) : Iss (w.drewN q) B A n c Q := ⟨h.sn.drewN q, fun x hx => (h.each x hx).drewN q⟩
theorem Iss.keep (h : Iss w B A n c Q) (hk : ∀ b o, b < B → w'.cell? ⟨b, o, none⟩ = w.cell? ⟨b, o, none⟩) : Iss w' B A n c Q := ⟨h.sn.keep hk, fun x hx => (h.each x hx).keep hk⟩
theorem Iss.at_ {j : Nat} (h : Iss w B A n c Q) (hj : j < n) : ∃ b o x, A = some ⟨b, o, none⟩ ∧ b < B ∧ Q[j]? = some x ∧ w.cell? ⟨b, o + j, none⟩ = some (.slice x.A x.n x.c) ∧ Is w B x.A x.n x.c x.L := by
  have hl : j < Q.length := by rw [h.len]; exact hj
  have hr := List.getElem?_eq_getElem hl
  obtain ⟨b, o, e, hb, hc⟩ := h.sn.cell (by omega)
  exact ⟨b, o, Q[j], e, hb, hr, hc _ _ (by simp [icvs, hr, icv]), h.each _ (List.getElem_mem hl)⟩
end

/-! ### sum -/
def isum (L : List Int) : Int := L.foldr (· + ·) 0
theorem isum_cons (x : Int) (L : List Int) : isum (x :: L) = x + isum L := rfl
theorem isum_app (L M : List Int) : isum (L ++ M) = isum L + isum M := by
  induction L with
  | nil => simp [isum]
  | cons x L ih => rw [List.cons_append, isum_cons, isum_cons, ih]; omega
theorem isum_take {L : List Int} {j : Nat} {x : Int} (h : L[j]? = some x) : isum (L.take (j + 1)) = isum (L.take j) + x := by
  rw [List.take_add_one, h, isum_app]
  simp [isum]
theorem isum_nn {L : List Int} (h : ∀ x ∈ L, 0 ≤ x) : 0 ≤ isum L := by
  induction L with
  | nil => simp [isum]
  | cons x L ih => rw [isum_cons]; have := ih (fun y hy => h y (List.mem_cons_of_mem _ hy)); have := h x List.mem_cons_self; omega
theorem isum_pre {L : List Int} (h : ∀ x ∈ L, 0 ≤ x) (j : Nat) : 0 ≤ isum (L.take j) ∧ isum (L.take j) ≤ isum L := by
  have h1 := isum_nn (L := L.take j) (fun x hx => h x (List.mem_of_mem_take hx))
  have h2 := isum_nn (L := L.drop j) (fun x hx => h x (List.mem_of_mem_drop hx))
  have h3 := isum_app (L.take j) (L.drop j)
  rw [List.take_append_drop] at h3
  omega
/-- A list whose sum may be reckoned. -/
structure Small (L : List Int) : Prop where
  nn : ∀ x ∈ L, 0 ≤ x
  top : isum L ≤ 4611686018427387904

def SumRel (w : World) (L : List Int) (n gk : Nat) (vt vi : Value) (wr : World) : Prop :=
  ∃ k, gk + k = n ∧ vi = .int .i64 (k : Int) ∧ vt = .int .i64 (isum (L.take k)) ∧ w = wr
theorem sum_step {L : List Int} {k : Nat} {x : Int} (hs : Small L) (hx : L[k]? = some x) : isum (L.take (k + 1)) = isum (L.take k) + x ∧ 0 ≤ isum (L.take k) ∧ 0 ≤ x ∧ isum (L.take k) + x ≤ 4611686018427387904 := by
  have h1 := isum_take hx
  have h2 := isum_pre hs.nn k
  have h3 := isum_pre hs.nn (k + 1)
  have h4 := hs.top
  have h5 := hs.nn x (List.mem_of_getElem? hx)
  omega
set_option maxRecDepth 100000 in
set_option maxHeartbeats 1000000 in
theorem sum_any (w : World) (A : Option Addr) (n c : Nat) (L : List Int) (h : Is w w.heap.size A n c L) (hs : Small L) :
    Calls Try.prog 79 #[.slice A n c] w fun e w' => e = .returned (.int .i64 (isum L)) ∧ w = w' := by
  have H := Lib.hid h
  have HS := Lib.hid hs
  have HL := Lib.hid h.len
  have hn : n ≤ 9223372036854775807 := Nat.le_trans h.sn.le h.sn.max
  clear h hs
  go_enter Try.func79, Try.ntmps79
  go_wp2_with fail
  go_loopg [3, 8] n (fun gk vt vi wr => SumRel w L n gk vt vi wr)
  case atStart => exact ⟨0, rfl, rfl, rfl, rfl⟩
  case round =>
    obtain ⟨k, hk, rfl, rfl, rfl⟩ := hrel
    by_cases hlt : k < n
    · obtain ⟨b, o, x, rfl, hb, hx, hc, hxr⟩ := H.out.at_ hlt
      obtain ⟨h1, h2, h3, h4⟩ := sum_step HS.out hx
      have H1 := Lib.hid h1
      clear h1 hx
      generalize isum (L.take k) = t at *
      go_wp2_with fail
      go_roundg (gk - 1)
      case measure => omega
      case rel => exact ⟨k + 1, by omega, by go_num, by rw [H1.out], rfl⟩
    · go_wp2_with fail
      go_ret
      refine ⟨?_, rfl⟩
      have HT : L.take k = L := List.take_of_length_le (by have := HL.out; omega)
      rw [HT]
      rfl
theorem sum_says (w : World) (A : Option Addr) (n c : Nat) (L : List Int) (h : Is w w.heap.size A n c L) (hs : Small L) :
    Calls Try.prog 79 #[.slice A n c] w (Says w (.int .i64 (isum L))) :=
  (sum_any w A n c L h hs).mono fun _ _ ⟨h1, h2⟩ => ⟨h1, h2 ▸ Below.refl _ _⟩
end Go.Proofs.Ytfmfamnngfanfaa
