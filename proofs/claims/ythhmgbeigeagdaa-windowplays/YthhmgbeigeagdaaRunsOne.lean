/-
  WORDS for slices of runs; CONTRACTS of apart, few, own, the reference's Same, Has.
  No statement is proved here.
-/
import Derived.Test.YthhmgbeigeagdaaRows
import Derived.Test.YthhmgbeigeagdaaCells
import Derived.Test.YthhmgbeigeagdaaEver
import Derived.Test.YthhmgbeigeagdaaRunsMore
import Derived.Deep.QuietTactic
import Derived.BigQuiet
import Derived.Deep.LoopGhost
import Derived.WalkSpells
import Derived.Laws.StructEq
namespace Go.Proofs.Ythhmgbeigeagdaa
open Go.RowKit

def rv (r : Rn) : List Value := [.int .u64 (r.1 : Int), .int .u64 (r.2 : Int)]
def rvs (L : List Rn) : List Value := L.flatMap rv
theorem rvs_len (L : List Rn) : (rvs L).length = L.length * 2 := by
  induction L with
  | nil => rfl
  | cons a L ih => unfold rvs at *; rw [List.flatMap_cons, List.length_append, ih, List.length_cons]; simp [rv]; omega
theorem rvs_app (L M : List Rn) : rvs (L ++ M) = rvs L ++ rvs M := by unfold rvs; rw [List.flatMap_append]
theorem rvs_cons (a : Rn) (L : List Rn) : rvs (a :: L) = rv a ++ rvs L := rfl
theorem rvs_one1 (a : Rn) : rvs [a] = rv a := by simp [rvs]
theorem rvs_one (L : List Rn) : ∀ u ∈ rvs L, u.oneCell' = true := by
  intro u hu
  obtain ⟨r, _, h⟩ := List.mem_flatMap.1 hu
  simp only [rv, List.mem_cons, List.not_mem_nil, or_false] at h
  rcases h with rfl | rfl <;> rfl
theorem rvs_at {L : List Rn} {j : Nat} {r : Rn} (h : L[j]? = some r) : (rvs L)[j * 2]? = some (.int .u64 (r.1 : Int)) ∧ (rvs L)[j * 2 + 1]? = some (.int .u64 (r.2 : Int)) := by
  induction L generalizing j with
  | nil => simp at h
  | cons a L ih =>
    rw [rvs_cons]
    rcases j with _ | j
    · simp at h
      subst h
      exact ⟨rfl, rfl⟩
    · have := ih (j := j) (by simpa using h)
      have hl : (rv a).length = 2 := rfl
      rw [List.getElem?_append_right (by omega), List.getElem?_append_right (by omega), show (j + 1) * 2 - (rv a).length = j * 2 from by omega, show (j + 1) * 2 + 1 - (rv a).length = j * 2 + 1 from by omega]
      exact this
theorem rvs_take (L : List Rn) (m : Nat) : (rvs L).take (m * 2) = rvs (L.take m) := by
  induction L generalizing m with
  | nil => simp [rvs]
  | cons a L ih =>
    rcases m with _ | m
    · simp [rvs]
    · rw [List.take_succ_cons, rvs_cons, rvs_cons, ← ih, show (m + 1) * 2 = 2 + m * 2 from by omega]
      simp [rv, show 2 + m * 2 = m * 2 + 1 + 1 from by omega]
theorem rvs_drop (L : List Rn) (m : Nat) : (rvs L).drop (m * 2) = rvs (L.drop m) := by
  induction L generalizing m with
  | nil => simp [rvs]
  | cons a L ih =>
    rcases m with _ | m
    · simp
    · rw [List.drop_succ_cons, rvs_cons, ← ih, show (m + 1) * 2 = m * 2 + 1 + 1 from by omega]
      simp [rv]

/-- A slice of runs reads as this list, below block B. -/
structure Rs (w : World) (B : Nat) (A : Option Addr) (n c : Nat) (L : List Rn) : Prop where
  sn : Sn w B A n c 2 (rvs L)
  lt : ∀ q ∈ L, q.1 < two64 ∧ q.2 < two64
section
variable {w w' : World} {B B' : Nat} {A : Option Addr} {n c : Nat} {L : List Rn}
theorem Rs.len (h : Rs w B A n c L) : L.length = n := by have := h.sn.len; rw [rvs_len] at this; omega
theorem Rs.more (h : Rs w B A n c L) (hB : B ≤ B') : Rs w B' A n c L := ⟨h.sn.more hB, h.lt⟩
theorem Rs.below (h : Rs w B A n c L) (hb : Below B' w w') (hB : B ≤ B') : Rs w' B A n c L := ⟨h.sn.below hb hB, h.lt⟩
theorem Rs.on (h : Rs w B A n c L) (hb : Below w.heap.size w w') (hB : B ≤ w.heap.size) : Rs w' w'.heap.size A n c L := ⟨h.sn.on hb hB, h.lt⟩
theorem Rs.onA (h : Rs w w.heap.size A n c L) (o : Obj) : Rs (w.alloc o) (w.alloc o).heap.size A n c L := ⟨h.sn.onA o, h.lt⟩
theorem Rs.onD (h : Rs w w.heap.size A n c L) (q : Nat) : Rs (w.drewN q) (w.drewN q).heap.size A n c L := ⟨h.sn.onD q, h.lt⟩
theorem Rs.drewN (h : Rs w B A n c L) (q : Nat) : Rs (w.drewN q) B A n c L := ⟨h.sn.drewN q, h.lt⟩
theorem Rs.alloc (h : Rs w B A n c L) (hB : B ≤ w.heap.size) (o : Obj) : Rs (w.alloc o) B A n c L := ⟨h.sn.alloc hB o, h.lt⟩
theorem Rs.nil_ (w : World) (B : Nat) (A : Option Addr) (c : Nat) (hc : c ≤ maxLen) : Rs w B A 0 c [] := ⟨Sn.nil_ w B A c 2 hc, fun q hq => by cases hq⟩
theorem Rs.of_own {base : Nat} {e : TypeId} (h : w.ownsRow base e 2 (.slice A n c) n (rvs L)) (hl : ∀ q ∈ L, q.1 < two64 ∧ q.2 < two64) : Rs w w.heap.size A n c L := ⟨Sn.of_own h, hl⟩
theorem Rs.at_ {j : Nat} (h : Rs w B A n c L) (hj : j < n) : ∃ b o r, A = some ⟨b, o, none⟩ ∧ b < B ∧ L[j]? = some r ∧ w.cell? ⟨b, o + j * 2, none⟩ = some (.int .u64 (r.1 : Int)) ∧ w.cell? ⟨b, o + j * 2 + 1, none⟩ = some (.int .u64 (r.2 : Int)) ∧ r.1 < two64 ∧ r.2 < two64 := by
  have hl : j < L.length := by rw [h.len]; exact hj
  have hr := List.getElem?_eq_getElem hl
  obtain ⟨b, o, e, hb, hc⟩ := h.sn.cell (by omega)
  obtain ⟨h0, h1⟩ := rvs_at hr
  obtain ⟨k0, k1⟩ := h.lt _ (List.getElem_mem hl)
  exact ⟨b, o, L[j], e, hb, hr, hc _ _ h0, by rw [Nat.add_assoc]; exact hc _ _ h1, k0, k1⟩
theorem Rs.take (h : Rs w B A n c L) {m d : Nat} (hm : m ≤ n) (hmd : m ≤ d) (hd : d ≤ c) : Rs w B A m d (L.take m) :=
  ⟨by have := h.sn.take hm hmd hd; rwa [rvs_take] at this, fun q hq => h.lt q (List.mem_of_mem_take hq)⟩
theorem Rs.drop (h : Rs w B A n c L) {m : Nat} (hm : m ≤ n) : Rs w B (if c = m then A else A.map (·.add (m * 2))) (n - m) (c - m) (L.drop m) :=
  ⟨by have := h.sn.drop hm; rwa [rvs_drop] at this, fun q hq => h.lt q (List.mem_of_mem_drop hq)⟩
theorem ever_rs (h : Rs w w.heap.size A n c L) : Ever (fun w2 => Rs w2 w2.heap.size A n c L) w := fun _ hb => h.on hb (Nat.le_refl _)
end

/-- A run, a set, as values. -/
def rnv (r : Rn) : Value := .agg #[.int .u64 (r.1 : Int), .int .u64 (r.2 : Int)]
/-- A slice of runs is handed back; nothing that was there has turned. -/
def SaysR (w : World) (L : List Rn) (e : Ending) (w' : World) : Prop := ∃ A n c, e = .returned (.slice A n c) ∧ Rs w' w'.heap.size A n c L ∧ Below w.heap.size w w'
/-- A set's row: it reads as this list, and wherever it lies, it lies below B. -/
structure St (w : World) (B : Nat) (A : Option Addr) (n c : Nat) (L : List Rn) : Prop where
  rs : Rs w B A n c L
  lies : ∀ b o, A = some ⟨b, o, none⟩ → b < B
theorem St.below {w w' : World} {B B' : Nat} {A : Option Addr} {n c : Nat} {L : List Rn} (h : St w B A n c L) (hb : Below B' w w') (hB : B ≤ B') : St w' B A n c L := ⟨h.rs.below hb hB, h.lies⟩
theorem St.more {w : World} {B B' : Nat} {A : Option Addr} {n c : Nat} {L : List Rn} (h : St w B A n c L) (hB : B ≤ B') : St w B' A n c L := ⟨h.rs.more hB, fun b o e => Nat.lt_of_lt_of_le (h.lies b o e) hB⟩
theorem St.on {w w' : World} {B : Nat} {A : Option Addr} {n c : Nat} {L : List Rn} (h : St w B A n c L) (hb : Below w.heap.size w w') (hB : B ≤ w.heap.size) : St w' w'.heap.size A n c L := (h.below hb hB).more (Nat.le_trans hB hb.size)
theorem St.of_own {w : World} {base : Nat} {e : TypeId} {A : Option Addr} {n c : Nat} {L : List Rn} (h : w.ownsRow base e 2 (.slice A n c) n (rvs L)) (hl : ∀ q ∈ L, q.1 < two64 ∧ q.2 < two64) : St w w.heap.size A n c L :=
  ⟨Rs.of_own h hl, fun b o e => (h.lt b (by rw [e]; rfl)).2⟩
theorem St.nil_ (w : World) (B : Nat) : St w B none 0 0 [] := ⟨Rs.nil_ w B none 0 (Nat.zero_le _), fun b o e => by cases e⟩
theorem ever_st {w : World} {A : Option Addr} {n c : Nat} {L : List Rn} (h : St w w.heap.size A n c L) : Ever (fun w2 => St w2 w2.heap.size A n c L) w := fun _ hb => h.on hb (Nat.le_refl _)
/-- A set is handed back; its row is a new one, or lies below B. -/
def SaysS (w : World) (B : Nat) (L : List Rn) (e : Ending) (w' : World) : Prop :=
  ∃ A n c, e = .returned (.agg #[.slice A n c]) ∧ St w' w'.heap.size A n c L ∧ (∀ b o, A = some ⟨b, o, none⟩ → b < B ∨ w.heap.size ≤ b) ∧ Below w.heap.size w w'
/-- A row stays where another block is written to. -/
theorem Rs.off {w : World} {B : Nat} {A : Option Addr} {n c : Nat} {L : List Rn} {p : Addr} (h : Rs w B A n c L) (hp : ∀ b o, A = some ⟨b, o, none⟩ → b ≠ p.block) (u : Value) : Rs (w.setCell p u) B A n c L :=
  ⟨⟨h.sn.len, h.sn.le, h.sn.max, fun hn => by
    obtain ⟨b, o, e, hb, hc⟩ := h.sn.cell hn
    refine ⟨b, o, e, hb, fun j x hx => ?_⟩
    rw [World.cell?_setCell_other w p ⟨b, o + j, none⟩ u (fun e' => hp b o e (by rw [e']))]
    exact hc j x hx⟩, h.lt⟩
theorem Rs.block {w : World} {B b o : Nat} {n c : Nat} {L : List Rn} (h : Rs w B (some ⟨b, o, none⟩) n c L) (hn : 0 < n) : b < B := by
  obtain ⟨b', o', e, hb, _⟩ := h.sn.cell (by omega)
  injection e with e
  injection e with e
  omega

set_option maxHeartbeats 400000 in
theorem apart_any (w : World) (a b : Rn) (ha : a.1 < two64 ∧ a.2 < two64) (hb : b.1 < two64 ∧ b.2 < two64) :
    Calls Try.prog 48 #[rnv a, rnv b] w (Says w (.bool (apartB a b))) := by
  obtain ⟨a1, a2⟩ := a
  obtain ⟨b1, b2⟩ := b
  unfold two64 at ha hb
  unfold rnv
  simp only at ha hb ⊢
  go_enter Try.func48, Try.ntmps48
  go_wp2
  all_goals (go_ret; refine ⟨congrArg (fun b => Ending.returned (.bool b)) ?_, (below_box w _).alloc (by simp) _⟩; rw [Bool.eq_iff_iff]; simp [apartB]; try omega)
end Go.Proofs.Ythhmgbeigeagdaa
