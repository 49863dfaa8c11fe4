/-
  Words for the walk of the law FrameLong: bytes that are all 0, a Batch that grows item by item, its length; frame.Name.
-/
import Derived.Test.YtlkcnpmgafckoaaDoorFrameAwake
import Derived.Test.YtlkcnpmgafckoaaDoorRefGet2
import Derived.Test.YtlkcnpmgafckoaaDoorFrameInj
import Derived.OwnWalk
namespace Go.Proofs.YtlkcnpmgafckoaaDoor
open Go.RowKit

theorem made_zero (n : Nat) : ∃ z : List UInt8, (madeCells #[.int .u8 0] (n * 1)).toList = cbs z ∧ z.length = n ∧ ∀ x ∈ z, x = 0 := by
  refine ⟨List.replicate n 0, ?_, by simp, fun x hx => List.eq_of_mem_replicate hx⟩
  refine List.ext_getElem (by simp [madeCells, cbs]) ?_
  intro i h1 h2
  simp [madeCells, cbs]
  rw [Nat.mod_one]
  rfl
theorem grown_below {w w' : World} (h : w.grownBy w' none) : Below w.heap.size w w' :=
  ⟨h.os, h.tape, h.output, h.size, fun i hi => h.block i hi (fun e => by cases e)⟩
theorem opn_er (l : List UInt8) : (opn l).2 = 0 ∨ (opn l).2 = 2 ∨ (opn l).2 = 3 := by
  unfold opn
  split
  · exact .inr (.inl rfl)
  · split
    · exact .inl rfl
    · exact .inr (.inr rfl)
theorem opn_sub (l : List UInt8) : ∀ x ∈ (opn l).1, x ∈ l := by
  unfold opn
  split
  · intro x hx; exact absurd hx List.not_mem_nil
  · split
    · intro x hx; exact List.mem_of_mem_take hx
    · intro x hx; exact absurd hx List.not_mem_nil
theorem dec_zeros {z : List UInt8} (hl : z.length = 65507) (hz : ∀ x ∈ z, x = 0) : (decM z).2 ≠ 6 := by
  by_cases h2 : (opn z).2 = 0
  · obtain ⟨⟨kd, l1, e1⟩, h1⟩ : ∃ x, stByte (opn z).1 0 = x := ⟨_, rfl⟩
    have hk : kd = 0 := by
      unfold stByte at h1
      rw [if_pos rfl] at h1
      cases hq : (opn z).1 with
      | nil => rw [hq] at h1; injection h1 with h1 _; exact h1.symm
      | cons b t =>
        rw [hq] at h1
        injection h1 with h1 _
        have := hz b (opn_sub z b (by rw [hq]; exact List.mem_cons_self))
        rw [this] at h1
        exact h1.symm
    rw [dec_kind (by omega) h2 h1 (by omega)]
    show (2 : Nat) ≠ 6
    omega
  · rw [dec_bad (by omega) h2]
    rcases opn_er z with h | h | h
    · exact absurd h h2
    · show (opn z).2 ≠ 6; omega
    · show (opn z).2 ≠ 6; omega
/-- Items of one body. -/
def itsK (l : List UInt8) : Nat → List It
  | 0 => []
  | n + 1 => itsK l n ++ [⟨n + 1, 0, l⟩]
def ksK (l : List UInt8) (B : Nat) : Nat → List Ik
  | 0 => []
  | n + 1 => ksK l B n ++ [⟨n + 1, 0, ⟨some ⟨B, 0, none⟩, 4096, 4096, l⟩⟩]
theorem ksK_it (l : List UInt8) (B : Nat) : ∀ n, (ksK l B n).map Ik.it = itsK l n
  | 0 => rfl
  | n + 1 => by unfold ksK itsK; rw [List.map_append, ksK_it l B n]; rfl
theorem ksK_len (l : List UInt8) (B : Nat) : ∀ n, (ksK l B n).length = n
  | 0 => rfl
  | n + 1 => by unfold ksK; rw [List.length_append, ksK_len l B n]; rfl
theorem ksK_mem {l : List UInt8} {B : Nat} {x : Ik} : ∀ {n}, x ∈ ksK l B n → x.q = ⟨some ⟨B, 0, none⟩, 4096, 4096, l⟩ ∧ x.N ≤ n
  | 0, h => absurd h List.not_mem_nil
  | n + 1, h => by
    unfold ksK at h
    rcases List.mem_append.1 h with h | h
    · have := ksK_mem h; exact ⟨this.1, by omega⟩
    · rw [List.mem_singleton.1 h]; exact ⟨rfl, Nat.le_refl _⟩
theorem itsK_len (l : List UInt8) : ∀ n, (itsK l n).length = n
  | 0 => rfl
  | n + 1 => by unfold itsK; rw [List.length_append, itsK_len l n]; rfl
theorem itsK_at {l : List UInt8} : ∀ {n j : Nat} {x : It}, (itsK l n)[j]? = some x → j < n ∧ x = ⟨j + 1, 0, l⟩
  | 0, j, x, h => by simp [itsK] at h
  | n + 1, j, x, h => by
    unfold itsK at h
    by_cases hj : j < n
    · rw [List.getElem?_append_left (by rw [itsK_len]; exact hj)] at h
      have := itsK_at h
      exact ⟨by omega, this.2⟩
    · rw [List.getElem?_append_right (by rw [itsK_len]; omega), itsK_len] at h
      have h0 : j - n = 0 := by
        by_cases h1 : j - n = 0
        · exact h1
        · rw [List.getElem?_eq_none (by simp; omega)] at h; exact absurd h (by simp)
      rw [h0] at h
      simp at h
      have : j = n := by omega
      subst this
      exact ⟨by omega, h.symm⟩
theorem itsK_bytes {l : List UInt8} (hl : l.length = 4096) : ∀ n, n ≤ 16 → (itsB (itsK l n)).length = n * 4100
  | 0, _ => rfl
  | n + 1, h => by
    have ih := itsK_bytes hl n (by omega)
    have e1 : (num (n + 1)).length = 1 := by rw [num_lo (by omega)]; rfl
    have e2 : (num 4096).length = 2 := by rw [num_hi (by omega), num_lo (by omega)]; rfl
    have e3 : (itemB (n + 1) 0 l).length = 4100 := by
      unfold itemB spanB byts
      rw [hl]
      simp only [List.length_append, List.length_cons, e1, e2, hl]
    have e4 : itsB (itsK l n ++ [⟨n + 1, 0, l⟩]) = itsB (itsK l n) ++ itemB (n + 1) 0 l := by
      unfold itsB
      rw [List.flatMap_append]
      simp [itB]
    show (itsB (itsK l n ++ [⟨n + 1, 0, l⟩])).length = _
    rw [e4, List.length_append, ih, e3]
    omega
def mK (l : List UInt8) (n : Nat) : Fm := ⟨3, 0, 1, 0, 1, 0, 0, [], itsK l n⟩
theorem mK_right {l : List UInt8} (hl : l.length = 4096) (n : Nat) (hn : n ≤ 16) : RightP (mK l n) := by
  refine ⟨by show (0 : Int) ≤ 0; omega, by show (0 : Int) < 16; omega, Nat.le_refl _, .inr (.inr ⟨rfl, Nat.le_refl _, ⟨rfl, rfl, rfl⟩, ?_, ?_⟩)⟩
  · show (itsK l n).length ≤ 64
    rw [itsK_len]; omega
  · intro j x hx
    obtain ⟨h1, rfl⟩ := itsK_at hx
    refine ⟨?_, Nat.le_add_left _ _, fun y hj hy => ?_⟩
    · show rightB 0 l.length = true
      unfold rightB
      rw [hl]
      rfl
    · obtain ⟨_, rfl⟩ := itsK_at hy
      show j - 1 + 1 < j + 1
      omega
theorem mK_len {l : List UInt8} (hl : l.length = 4096) (n : Nat) (hn : n ≤ 16) : (encB (mK l n)).length = n * 4100 + 10 := by
  have e0 : (num 0).length = 1 := by rw [num_lo (by omega)]; rfl
  have e1 : (num 1).length = 1 := by rw [num_lo (by omega)]; rfl
  have e2 : (num n).length = 1 := by rw [num_lo (by omega)]; rfl
  have ht : tailB (mK l n) = num 0 ++ (num 1 ++ (num n ++ itsB (itsK l n))) := by
    show (if (3 : Nat) = 1 then helloB (mK l n) else if (3 : Nat) = 3 then batchB (mK l n) else answerB (mK l n)) = _
    rw [if_neg (by omega), if_pos rfl]
    show numsB [0, 1, (itsK l n).length] ++ itsB (itsK l n) = _
    rw [itsK_len, numsB_cons, numsB_cons, numsB_cons, numsB_nil]
  have hi : innerB (mK l n) = [UInt8.ofNat 3] ++ (num 0 ++ (num 1 ++ tailB (mK l n))) := by
    show [UInt8.ofNat 3] ++ numsB [(0 : Int).toNat, 1] ++ tailB (mK l n) = _
    rw [List.append_assoc, numsB_cons, numsB_cons, numsB_nil]
    rfl
  unfold encB
  rw [closed_len, hi, ht]
  simp only [List.length_append, List.length_cons, List.length_nil, e0, e1, e2, itsK_bytes hl n hn]
  omega
def fK (l : List UInt8) (B n : Nat) (A : Option Addr) (cp : Nat) : Fv := batF 3 0 1 0 1 A n cp (ksK l B n)
theorem fK_m (l : List UInt8) (B n : Nat) (A : Option Addr) (cp : Nat) : (fK l B n A cp).m = mK l n := by
  show Fm.mk 3 0 1 0 1 0 0 [] ((ksK l B n).map Ik.it) = _
  rw [ksK_it]
  rfl
/-- The Batch on its way: its variable in block F, the body in block B. -/
structure Lg (w0 w : World) (F B n : Nat) (A : Option Addr) (cp : Nat) (l : List UInt8) : Prop where
  blk : w.heap[F]? = some (fK l B n A cp).box
  its : w.ownsRow (F + 1) 58 3 (.slice A n cp) n (itvs (ksK l B n))
  big : w.ownsRow (F + 1) 5 1 (.slice (some ⟨B, 0, none⟩) 4096 4096) 4096 (cbs l)
  bel : Below w0.heap.size w0 w
  le : w0.heap.size ≤ F
  len : l.length = 4096
theorem Lg.fl {w0 w : World} {F B n : Nat} {A : Option Addr} {cp : Nat} {l : List UInt8} (h : Lg w0 w F B n A cp l) : F < w.heap.size := (Array.getElem?_eq_some_iff.1 h.blk).1
theorem Lg.on {w0 w w' : World} {F B n : Nat} {A : Option Addr} {cp : Nat} {l : List UInt8} (h : Lg w0 w F B n A cp l) (hb : Below w.heap.size w w') : Lg w0 w' F B n A cp l :=
  ⟨(hb.block F h.fl).trans h.blk, own_onK h.its hb, own_onK h.big hb, h.bel.trans (hb.mono h.bel.size), h.le, h.len⟩
theorem Lg.cellAt {w0 w : World} {F B n : Nat} {A : Option Addr} {cp : Nat} {l : List UInt8} (h : Lg w0 w F B n A cp l) (i : Nat) : w.cell? ⟨F, i, none⟩ = (#[Value.int .u8 3, .int .i64 0, .int .u64 1, .int .u64 0, .int .u64 1, .int .u64 0, .int .u64 0, .slice none 0 0, .slice A n cp] : Array Value)[i]? := cell_of_row w _ i _ _ _ h.blk
theorem Lg.fr {w0 w : World} {F B n : Nat} {A : Option Addr} {cp : Nat} {l : List UInt8} (h : Lg w0 w F B n A cp l) (hn : n ≤ 16) : FrAt w (fK l B n A cp) where
  rs := ⟨Sn.of_own (base := 0) (e := 77) ⟨rfl, .inl ⟨rfl, rfl⟩⟩, fun x hx => absurd hx List.not_mem_nil⟩
  it := Itms.of_own h.its (fun x hx => by
    obtain ⟨h1, h2⟩ := ksK_mem hx
    rw [h1]
    exact ⟨Sl.of_own h.big, by unfold two64; omega⟩)
  kd := (by show (3 : Nat) < 256; omega)
  ag := ⟨by show (-9223372036854775808 : Int) ≤ 0; decide, by show (0 : Int) ≤ 9223372036854775807; decide⟩
  ep := (by show 1 < two64; decide)
  ic := (by show 0 < two64; decide)
  ba := (by show 1 < two64; decide)
  cu := (by show 0 < two64; decide)
  li := (by show 0 < two64; decide)
theorem Lg.more {w0 w w4 : World} {F B n : Nat} {A A4 : Option Addr} {cp c4 : Nat} {l : List UInt8} (h : Lg w0 w F B n A cp l) (hb : Below (F + 1) w w4) (hg : w.grownBy w4 (if n = cp then none else (Value.slice A n cp).ownBlock)) (ho : w4.ownsRow (F + 1) 58 3 (.slice A4 (n + 1) c4) (n + 1) (itvs (ksK l B n) ++ Ik.v ⟨n + 1, 0, ⟨some ⟨B, 0, none⟩, 4096, 4096, l⟩⟩)) :
    Lg w0 (w4.setCell ⟨F, 8, none⟩ (.slice A4 (n + 1) c4)) F B (n + 1) A4 c4 l := by
  have hblk := (hb.block F (by omega)).trans h.blk
  have hF : F < F + 1 := by omega
  refine ⟨?_, ?_, ?_, ?_, h.le, h.len⟩
  · have e := heap_setCell_same _ F 8 _ _ (.slice A4 (n + 1) c4) hblk
    rw [e]
    rfl
  · have e : itvs (ksK l B (n + 1)) = itvs (ksK l B n) ++ Ik.v ⟨n + 1, 0, ⟨some ⟨B, 0, none⟩, 4096, 4096, l⟩⟩ := by
      show itvs (ksK l B n ++ [⟨n + 1, 0, ⟨some ⟨B, 0, none⟩, 4096, 4096, l⟩⟩]) = _
      simp [itvs]
    rw [e]
    exact own_otherN _ ho hF
  · refine own_otherN _ (h.big.kept hg ?_) hF
    split
    · exact .inr (by simp [Value.ownBlock])
    · exact own_typed h.big h.its (by decide)
  · have hb0 : Below w0.heap.size w0 w4 := h.bel.trans (hb.mono (Nat.le_trans h.le (by omega)))
    exact hb0.setCell (p := ⟨F, 8, none⟩) h.le _
set_option maxRecDepth 100000 in
set_option maxHeartbeats 400000 in
theorem item_any (w : World) (N : Nat) (A : Option Addr) (n c : Nat) : Calls Tryd.prog 25 #[.int .u64 (N : Int), .slice A n c] w (Says w (.agg #[.int .u64 (N : Int), .int .i64 0, .slice A n c])) := by
  go_enter Tryd.func25, Tryd.ntmps25
  go_wp2
  refine bodyPost_ret (v := .agg #[.int .u64 (N : Int), .int .i64 0, .slice A n c]) (by simp [results, Tryd.results25, go_sem]) rfl ⟨rfl, ?_⟩
  exact below_box w _
set_option maxRecDepth 100000 in
set_option maxHeartbeats 400000 in
theorem name4_any (w : World) : Calls Tryd.prog 26 #[.int .u8 4] w (Says w (.string ⟨#[97, 99, 107]⟩)) := by
  go_enter Tryd.func26, Tryd.ntmps26
  go_wp2_with fail
  refine (parts4 w).mono ?_
  rintro e w2 ⟨rfl, hb⟩
  have HB := Lib.hid hb
  clear hb
  go_wp2
  go_ret
  exact ⟨rfl, HB.out.alloc HB.out.size _⟩
set_option maxRecDepth 100000 in
set_option maxHeartbeats 400000 in
theorem nameNo_any (w : World) (k : Nat) (h0 : ¬ (k = 1 ∨ k = 2 ∨ k = 3 ∨ k = 4)) : Calls Tryd.prog 26 #[.int .u8 (k : Int)] w (Says w (.string ⟨#[]⟩)) := by
  go_enter Tryd.func26, Tryd.ntmps26
  go_wp2_with fail
  refine (parts_no w k h0).mono ?_
  rintro e w2 ⟨rfl, hb⟩
  have HB := Lib.hid hb
  clear hb
  go_wp2
  go_ret
  exact ⟨rfl, HB.out.alloc HB.out.size _⟩
def LongFill (w0 : World) (F B gk : Nat) (i : Value) (wr : World) : Prop := ∃ (j : Nat) (l : List UInt8), gk + j = 4096 ∧ i = .int .i64 (j : Int) ∧ Lg w0 wr F B 0 none 0 l
def LongRel (w0 : World) (F B gk : Nat) (i : Value) (wr : World) : Prop := ∃ (j : Nat) (A : Option Addr) (cp : Nat) (l : List UInt8), gk + j = 15 ∧ i = .int .u64 (j : Int) ∧ Lg w0 wr F B j A cp l

end Go.Proofs.YtlkcnpmgafckoaaDoor
