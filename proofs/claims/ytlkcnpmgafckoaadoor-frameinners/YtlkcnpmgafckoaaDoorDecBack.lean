/-
  MATHEMATICS of frames: what is read without an error, written again, is just these bytes; what is written is read again; which errors there are.
  No statement is proved here.
-/
import Derived.Test.YtlkcnpmgafckoaaDoorFrameGet5
import Derived.Test.YtlkcnpmgafckoaaDoorFrameInj
namespace Go.Proofs.YtlkcnpmgafckoaaDoor
open Go.RowKit

theorem rdGo_e (l : List UInt8) : ∀ i acc, (rdGo i acc l).2.2 ≠ 3 := by
  induction l with
  | nil => intro i acc; show (2 : Nat) ≠ 3; omega
  | cons b t ih =>
    intro i acc
    unfold rdGo
    split
    · show (7 : Nat) ≠ 3; omega
    · split
      · exact ih _ _
      · split
        · show (2 : Nat) ≠ 3; omega
        · show (0 : Nat) ≠ 3; omega
theorem failN_e {er : Nat} (h : er ≠ 3) : failN er 2 ≠ 3 := by unfold failN; split <;> omega
theorem stNum_e {l : List UInt8} {er : Nat} (h : er ≠ 3) : (stNum l er).2.2 ≠ 3 := by
  unfold stNum
  split
  · split
    · show (0 : Nat) ≠ 3; omega
    · exact rdGo_e l 0 0
  · exact h
theorem stMost_e {l : List UInt8} {er most : Nat} (h : er ≠ 3) : (stMost l er most).2.2 ≠ 3 := by
  unfold stMost
  split
  · exact failN_e (stNum_e h)
  · exact stNum_e h
theorem stByte_e {l : List UInt8} {er : Nat} (h : er ≠ 3) : (stByte l er).2.2 ≠ 3 := by
  unfold stByte
  split
  · split
    · show (2 : Nat) ≠ 3; omega
    · show (0 : Nat) ≠ 3; omega
  · exact h
theorem stBytes_e {l : List UInt8} {er : Nat} {most : Int} (h : er ≠ 3) : (stBytes l er most).2.2 ≠ 3 := by
  unfold stBytes
  split
  · split
    · split
      · show (0 : Nat) ≠ 3; omega
      · show judgeN _ _ _ ≠ 3
        unfold judgeN
        split
        · omega
        · split <;> omega
    · exact rdGo_e l 0 0
  · exact h
theorem stSpan_e {l : List UInt8} {er : Nat} (h : er ≠ 3) : (stSpan l er).2.2.2 ≠ 3 := by
  have h1 : cls8 (stByte l er).1 (stByte l er).2.2 ≠ 3 := by
    unfold cls8
    split
    · exact failN_e (stByte_e h)
    · exact stByte_e h
  unfold stSpan
  dsimp only
  split
  · show (0 : Nat) ≠ 3; omega
  · exact stBytes_e h1
theorem stItem_e {l : List UInt8} {er : Nat} (h : er ≠ 3) : (stItem l er).2.2.2.2 ≠ 3 := by
  unfold stItem
  dsimp only
  split
  · show (0 : Nat) ≠ 3; omega
  · exact stSpan_e (stNum_e h)
theorem stRuns_e {l : List UInt8} {er : Nat} (h : er ≠ 3) : ∀ n, (stRuns l er n).2.2 ≠ 3
  | 0 => h
  | n + 1 => stNum_e (stNum_e (stRuns_e h n))
theorem stItems_e {l : List UInt8} {er : Nat} (h : er ≠ 3) : ∀ n, (stItems l er n).2.2 ≠ 3
  | 0 => h
  | n + 1 => stItem_e (stItems_e h n)
theorem getH_e {m : Fm} {l : List UInt8} {er : Nat} (h : er ≠ 3) : (getH m l er).2.2 ≠ 3 := stNum_e (l := l) h
theorem getA_e {m : Fm} {l : List UInt8} {er : Nat} (h : er ≠ 3) : (getA m l er).2.2 ≠ 3 := by
  unfold getA
  dsimp only
  exact stRuns_e (stMost_e (stNum_e (stNum_e (stNum_e h)))) _
theorem getB_e {m : Fm} {l : List UInt8} {er : Nat} (h : er ≠ 3) : (getB m l er).2.2 ≠ 3 := by
  unfold getB
  dsimp only
  exact stItems_e (stMost_e (stNum_e (stNum_e h))) _
theorem getK_e {m : Fm} {l : List UInt8} {er : Nat} (h : er ≠ 3) : (getK m l er).2.2 ≠ 3 := by
  unfold getK
  by_cases h1 : m.kd = 1
  · rw [if_pos h1]; exact getH_e h
  · rw [if_neg h1]
    by_cases h3 : m.kd = 3
    · rw [if_pos h3]; exact getB_e h
    · rw [if_neg h3]; exact getA_e h
theorem getM_e (l : List UInt8) : (getM l).2.2 ≠ 3 := by
  obtain ⟨⟨kd, l1, e1⟩, h1⟩ : ∃ x, stByte l 0 = x := ⟨_, rfl⟩
  obtain ⟨⟨a, l2, e2⟩, h2⟩ : ∃ x, stMost l1 e1 15 = x := ⟨_, rfl⟩
  obtain ⟨⟨p, l3, e3⟩, h3⟩ : ∃ x, stNum l2 e2 = x := ⟨_, rfl⟩
  have b1 : e1 ≠ 3 := by have := stByte_e (l := l) (er := 0) (by omega); rw [h1] at this; exact this
  have b2 : e2 ≠ 3 := by have := stMost_e (l := l1) (most := 15) b1; rw [h2] at this; exact this
  have b3 : e3 ≠ 3 := by have := stNum_e (l := l2) b2; rw [h3] at this; exact this
  unfold getM
  simp only [h1, h2, h3]
  by_cases hk : 1 ≤ kd ∧ kd ≤ 4
  · rw [if_pos hk]; exact getK_e b3
  · rw [if_neg hk]; exact failN_e b1
theorem endN_e {l : List UInt8} {er : Nat} (h : er ≠ 3) : endN l er ≠ 3 := by
  unfold endN
  split
  · exact failN_e h
  · exact h
theorem opn_closed' (p : List UInt8) : opn (closed p) = (p, 0) := by
  have hl := closed_len p
  have ht : (closed p).take ((closed p).length - 4) = p := by
    rw [hl]
    unfold closed
    simp
  unfold opn
  rw [if_neg (by omega), ht, if_pos rfl]
theorem dec_not3 (p : List UInt8) : (decM (closed p)).2 ≠ 3 := by
  unfold decM
  rw [opn_closed']
  dsimp only
  split
  · show (6 : Nat) ≠ 3; omega
  · rw [if_neg (by omega)]
    split
    · exact endN_e (getM_e p)
    · split
      · show (0 : Nat) ≠ 3; omega
      · show (1 : Nat) ≠ 3; omega
theorem dec_right {l : List UInt8} (h : (decM l).2 = 0) : RightP (decM l).1 ∧ l.length ≤ 65507 ∧ ∃ q, l = closed q ∧ getM q = ((decM l).1, [], 0) := by
  unfold decM at h ⊢
  split at h
  · exact absurd h (by show (6 : Nat) ≠ 0; omega)
  rename_i h1
  rw [if_neg h1]
  split at h
  · rename_i h2; exact absurd h h2
  rename_i h2
  rw [if_neg h2]
  dsimp only at h ⊢
  split at h
  · rename_i h3; exact absurd h h3
  rename_i h3
  rw [if_neg h3]
  split at h
  · rename_i h4
    rw [if_pos h4]
    refine ⟨h4, by omega, (opn l).1, ?_, ?_⟩
    · have h5 : (opn l).2 = 0 := by omega
      unfold opn at h5 ⊢
      split at h5
      · exact absurd h5 (by show (2 : Nat) ≠ 0; omega)
      · rename_i h6
        rw [if_neg h6]
        split at h5
        · rename_i h7; rw [if_pos h7]; exact h7.symm
        · exact absurd h5 (by show (3 : Nat) ≠ 0; omega)
    · obtain ⟨⟨m, l2, e2⟩, hg⟩ : ∃ x, getM (opn l).1 = x := ⟨_, rfl⟩
      rw [hg] at h3 ⊢
      dsimp only at h3 ⊢
      have h5 : endN l2 e2 = 0 := by omega
      unfold endN failN at h5
      split at h5
      · split at h5 <;> omega
      · rename_i h6
        have : l2 = [] := List.eq_nil_of_length_eq_zero (by omega)
        rw [this, h5]
  · exact absurd h (by show (1 : Nat) ≠ 0; omega)
theorem dec_zero {l : List UInt8} (h : (decM l).2 ≠ 0) : (decM l).1 = zeroM := by
  unfold decM at h ⊢
  split at h
  · rename_i h1; rw [if_pos h1]
  rename_i h1
  rw [if_neg h1]
  split at h
  · rename_i h2; rw [if_pos h2]
  rename_i h2
  rw [if_neg h2]
  dsimp only at h ⊢
  split at h
  · rename_i h3; rw [if_pos h3]
  rename_i h3
  rw [if_neg h3]
  split at h
  · exact absurd rfl h
  · rename_i h4; rw [if_neg h4]
theorem right_small {m : Fm} (h : RightP m) : m.L.length ≤ 40 ∧ m.its.length ≤ 70 := by
  rcases h.2.2.2 with ⟨_, h⟩ | ⟨_, h⟩ | ⟨_, h⟩
  · rw [h.2.2.2.2.2, h.2.2.1]; exact ⟨Nat.zero_le _, Nat.zero_le _⟩
  · rw [h.2.1]
    refine ⟨?_, Nat.zero_le _⟩
    rcases h.2.2.2 with h | h
    · rw [h]; exact Nat.zero_le _
    · have := h.1; omega
  · rw [h.2.1.2.2]
    exact ⟨Nat.zero_le _, by have := h.2.2.1; omega⟩
theorem dec_small (l : List UInt8) : (decM l).1.L.length ≤ 40 ∧ (decM l).1.its.length ≤ 70 := by
  by_cases h : (decM l).2 = 0
  · exact right_small (dec_right h).1
  · rw [dec_zero h]; exact ⟨Nat.zero_le _, Nat.zero_le _⟩

/- Back: what was read, written again. -/
theorem stNum_back {l r : List UInt8} {v er : Nat} (h : stNum l er = (v, r, 0)) : er = 0 ∧ l = num v ++ r := by
  unfold stNum at h
  split at h
  · rename_i he
    split at h
    · rename_i h2
      injection h with h3 h4
      injection h4 with h4 _
      refine ⟨he, ?_⟩
      have hr : rd l = (v, (rd l).2.1, 0) := by rw [← h3, ← h2]
      rw [← h4, ← rd_back hr, List.take_append_drop]
    · rename_i h2
      injection h with _ h4
      injection h4 with _ h4
      exact absurd h4 h2
  · rename_i he
    injection h with _ h4
    injection h4 with _ h4
    exact absurd h4 he
theorem stMost_back {l r : List UInt8} {v er most : Nat} (h : stMost l er most = (v, r, 0)) : er = 0 ∧ l = num v ++ r := by
  unfold stMost at h
  split at h
  · injection h with _ h
    injection h with _ h
    unfold failN at h
    split at h <;> omega
  · exact stNum_back h
theorem stByte_back {l r : List UInt8} {v er : Nat} (h : stByte l er = (v, r, 0)) : er = 0 ∧ l = UInt8.ofNat v :: r := by
  unfold stByte at h
  split at h
  · rename_i he
    split at h
    · injection h with _ h
      injection h with _ h
      omega
    · injection h with h1 h
      injection h with h2 _
      refine ⟨he, ?_⟩
      rw [← h1, ← h2]
      simp
  · rename_i he
    injection h with _ h
    injection h with _ h
    exact absurd h he
theorem stBytes_back {l r b : List UInt8} {er : Nat} (h : stBytes l er 4096 = (b, r, 0)) : er = 0 ∧ l = byts b ++ r := by
  unfold stBytes at h
  split at h
  · rename_i he
    split at h
    · rename_i h2
      split at h
      · rename_i hj
        injection h with h3 h4
        injection h4 with h4 _
        have hr : rd l = ((rd l).1, (rd l).2.1, 0) := by rw [← h2]
        have hs := (rd_bd (v := (rd l).1) (s := (rd l).2.1) (e := (rd l).2.2) rfl).2.1
        have hv : (rd l).1 ≤ l.length - (rd l).2.1 := by
          unfold judgeN at hj
          split at hj
          · omega
          · split at hj <;> omega
        have hbl : b.length = (rd l).1 := by rw [← h3, List.length_take, List.length_drop]; omega
        refine ⟨he, ?_⟩
        unfold byts
        rw [hbl, ← h3, ← h4, ← rd_back hr, List.append_assoc, ← List.drop_drop, List.take_append_drop, List.take_append_drop]
      · rename_i hj
        injection h with _ h4
        injection h4 with _ h4
        exact absurd h4 hj
    · rename_i h2
      injection h with _ h4
      injection h4 with _ h4
      exact absurd h4 h2
  · rename_i he
    injection h with _ h4
    injection h4 with _ h4
    exact absurd h4 he
theorem stSpan_back {l r b : List UInt8} {k er : Nat} (h : stSpan l er = (k, b, r, 0)) : er = 0 ∧ l = spanB (k : Int) b ++ r := by
  obtain ⟨⟨k1, l1, e1⟩, h1⟩ : ∃ x, stByte l er = x := ⟨_, rfl⟩
  obtain ⟨⟨b2, l2, e2⟩, h2⟩ : ∃ x, stBytes l1 (cls8 k1 e1) 4096 = x := ⟨_, rfl⟩
  by_cases he : e2 = 0
  · subst he
    rw [stSpan_ok h1 h2] at h
    injection h with h3 h4
    injection h4 with h4 h5
    injection h5 with h5 _
    subst h3 h4 h5
    obtain ⟨hc, hl1⟩ := stBytes_back h2
    have hk : k1 < 8 ∧ e1 = 0 := by
      unfold cls8 failN at hc
      split at hc
      · split at hc <;> omega
      · omega
    obtain ⟨hk, rfl⟩ := hk
    obtain ⟨he, hl⟩ := stByte_back h1
    refine ⟨he, ?_⟩
    unfold spanB clsB
    rw [hl, hl1, List.cons_append]
    congr 2
    omega
  · rw [stSpan_no h1 h2 he] at h
    injection h with _ h4
    injection h4 with _ h5
    injection h5 with _ h6
    exact absurd h6 he
theorem stItem_back {l r b : List UInt8} {N k er : Nat} (h : stItem l er = (N, k, b, r, 0)) : er = 0 ∧ l = itemB N (k : Int) b ++ r := by
  obtain ⟨⟨N1, l1, e1⟩, h1⟩ : ∃ x, stNum l er = x := ⟨_, rfl⟩
  obtain ⟨⟨k2, b2, l2, e2⟩, h2⟩ : ∃ x, stSpan l1 e1 = x := ⟨_, rfl⟩
  by_cases he : e2 = 0
  · subst he
    rw [stItem_ok h1 h2] at h
    injection h with h3 h4
    injection h4 with h4 h5
    injection h5 with h5 h6
    injection h6 with h6 _
    subst h3 h4 h5 h6
    obtain ⟨rfl, hl1⟩ := stSpan_back h2
    obtain ⟨he, hl⟩ := stNum_back h1
    refine ⟨he, ?_⟩
    unfold itemB
    rw [hl, hl1, List.append_assoc]
  · rw [stItem_no h1 h2 he] at h
    injection h with _ h4
    injection h4 with _ h5
    injection h5 with _ h6
    injection h6 with _ h6
    exact absurd h6 he
theorem runsB_app (L L' : List Rn) : runsB (L ++ L') = runsB L ++ runsB L' := by unfold runsB; rw [List.flatMap_append]
theorem itsB_app (L L' : List It) : itsB (L ++ L') = itsB L ++ itsB L' := by unfold itsB; rw [List.flatMap_append]
theorem stRuns_back (l : List UInt8) (er : Nat) : ∀ (n : Nat) (S : List Rn) (r : List UInt8), stRuns l er n = (S, r, 0) → er = 0 ∧ l = runsB S ++ r
  | 0, S, r, h => by
    injection h with h1 h2
    injection h2 with h2 h3
    subst h1 h2
    exact ⟨h3, rfl⟩
  | n + 1, S, r, h => by
    obtain ⟨⟨S1, l1, e1⟩, h1⟩ : ∃ x, stRuns l er n = x := ⟨_, rfl⟩
    obtain ⟨⟨v2, l2, e2⟩, h2⟩ : ∃ x, stNum l1 e1 = x := ⟨_, rfl⟩
    obtain ⟨⟨v3, l3, e3⟩, h3⟩ : ∃ x, stNum l2 e2 = x := ⟨_, rfl⟩
    rw [stRuns_succ h1 h2 h3] at h
    injection h with h4 h5
    injection h5 with h5 h6
    subst h4 h5 h6
    obtain ⟨rfl, hl2⟩ := stNum_back h3
    obtain ⟨rfl, hl1⟩ := stNum_back h2
    obtain ⟨he, hl⟩ := stRuns_back l er n _ _ h1
    refine ⟨he, ?_⟩
    rw [hl, hl1, hl2, runsB_app, List.append_assoc, runsB_cons]
    rfl
theorem stItems_back (l : List UInt8) (er : Nat) : ∀ (n : Nat) (S : List It) (r : List UInt8), stItems l er n = (S, r, 0) → er = 0 ∧ l = itsB S ++ r
  | 0, S, r, h => by
    injection h with h1 h2
    injection h2 with h2 h3
    subst h1 h2
    exact ⟨h3, rfl⟩
  | n + 1, S, r, h => by
    obtain ⟨⟨S1, l1, e1⟩, h1⟩ : ∃ x, stItems l er n = x := ⟨_, rfl⟩
    obtain ⟨⟨N, k, b, l2, e2⟩, h2⟩ : ∃ x, stItem l1 e1 = x := ⟨_, rfl⟩
    rw [stItems_succ h1 h2] at h
    injection h with h4 h5
    injection h5 with h5 h6
    subst h4 h5 h6
    obtain ⟨rfl, hl1⟩ := stItem_back h2
    obtain ⟨he, hl⟩ := stItems_back l er n _ _ h1
    refine ⟨he, ?_⟩
    rw [hl, hl1, itsB_app, List.append_assoc, itsB_cons]
    rfl
theorem getM_back {q : List UInt8} {m : Fm} (h : getM q = (m, [], 0)) : innerB m = q := by
  obtain ⟨⟨kd, l1, e1⟩, h1⟩ : ∃ x, stByte q 0 = x := ⟨_, rfl⟩
  obtain ⟨⟨a, l2, e2⟩, h2⟩ : ∃ x, stMost l1 e1 15 = x := ⟨_, rfl⟩
  obtain ⟨⟨p, l3, e3⟩, h3⟩ : ∃ x, stNum l2 e2 = x := ⟨_, rfl⟩
  unfold getM at h
  simp only [h1, h2, h3] at h
  have fin : ∀ (t : List UInt8) (m' : Fm), e3 = 0 → l3 = t → m'.kd = kd → m'.ag = (a : Int) → m'.ep = p → tailB m' = t → innerB m' = q := by
    intro t m' he ht hk ha hp htl
    subst he
    obtain ⟨rfl, hl2⟩ := stNum_back h3
    obtain ⟨rfl, hl1⟩ := stMost_back h2
    obtain ⟨_, hq⟩ := stByte_back h1
    unfold innerB
    rw [htl, hk, ha, hp, hq, hl1, hl2, ht, List.append_assoc, numsB_cons, numsB_cons, numsB_nil]
    rfl
  split at h
  · rename_i hkd
    unfold getK at h
    dsimp only at h
    split at h
    · rename_i k1
      unfold getH at h
      obtain ⟨⟨v, l4, e4⟩, h4⟩ : ∃ x, stNum l3 e3 = x := ⟨_, rfl⟩
      simp only [h4] at h
      injection h with hm h
      injection h with hl he
      subst hl he
      obtain ⟨he3, hl3⟩ := stNum_back h4
      subst hm
      refine fin _ _ he3 hl3 rfl rfl rfl ?_
      unfold tailB helloB
      rw [if_pos k1, ← List.append_nil (numsB _), numsB_cons, numsB_nil]
    · rename_i k1
      split at h
      · rename_i k3
        unfold getB at h
        obtain ⟨⟨v, l4, e4⟩, h4⟩ : ∃ x, stNum l3 e3 = x := ⟨_, rfl⟩
        obtain ⟨⟨v5, l5, e5⟩, h5⟩ : ∃ x, stNum l4 e4 = x := ⟨_, rfl⟩
        obtain ⟨⟨n, l6, e6⟩, h6⟩ : ∃ x, stMost l5 e5 64 = x := ⟨_, rfl⟩
        obtain ⟨⟨S, l7, e7⟩, h7⟩ : ∃ x, stItems l6 e6 n = x := ⟨_, rfl⟩
        have hlen := stItems_len l6 e6 n
        rw [h7] at hlen
        simp only [h4, h5, h6, h7] at h
        injection h with hm h
        injection h with hl he
        subst hl he
        obtain ⟨rfl, hl6⟩ := stItems_back _ _ _ _ _ h7
        obtain ⟨rfl, hl5⟩ := stMost_back h6
        obtain ⟨rfl, hl4⟩ := stNum_back h5
        obtain ⟨he3, hl3⟩ := stNum_back h4
        subst hm
        refine fin _ _ he3 hl3 rfl rfl rfl ?_
        unfold tailB batchB
        rw [if_neg k1, if_pos k3]
        dsimp only [List.nil_append] at hlen ⊢
        rw [hlen, numsB_cons, numsB_cons, numsB_cons, numsB_nil, hl4, hl5, hl6, List.append_nil]
      · rename_i k3
        unfold getA at h
        obtain ⟨⟨v, l4, e4⟩, h4⟩ : ∃ x, stNum l3 e3 = x := ⟨_, rfl⟩
        obtain ⟨⟨v5, l5, e5⟩, h5⟩ : ∃ x, stNum l4 e4 = x := ⟨_, rfl⟩
        obtain ⟨⟨v6, l8, e8⟩, h8⟩ : ∃ x, stNum l5 e5 = x := ⟨_, rfl⟩
        obtain ⟨⟨n, l6, e6⟩, h6⟩ : ∃ x, stMost l8 e8 32 = x := ⟨_, rfl⟩
        obtain ⟨⟨S, l7, e7⟩, h7⟩ : ∃ x, stRuns l6 e6 n = x := ⟨_, rfl⟩
        have hlen := stRuns_len l6 e6 n
        rw [h7] at hlen
        simp only [h4, h5, h6, h7, h8] at h
        injection h with hm h
        injection h with hl he
        subst hl he
        obtain ⟨rfl, hl6⟩ := stRuns_back _ _ _ _ _ h7
        obtain ⟨rfl, hl8⟩ := stMost_back h6
        obtain ⟨rfl, hl5⟩ := stNum_back h8
        obtain ⟨rfl, hl4⟩ := stNum_back h5
        obtain ⟨he3, hl3⟩ := stNum_back h4
        subst hm
        refine fin _ _ he3 hl3 rfl rfl rfl ?_
        unfold tailB answerB
        rw [if_neg k1, if_neg k3]
        dsimp only [List.nil_append] at hlen ⊢
        rw [hlen, numsB_cons, numsB_cons, numsB_cons, numsB_cons, numsB_nil, hl4, hl5, hl8, hl6, List.append_nil]
  · injection h with _ h
    injection h with _ h
    unfold failN at h
    split at h <;> omega
theorem dec_back {l : List UInt8} (h : (decM l).2 = 0) : encB (decM l).1 = l := by
  obtain ⟨_, _, q, hq, hg⟩ := dec_right h
  unfold encB
  rw [getM_back hg]
  exact hq.symm

/- Forth: what was written, read again. -/
end Go.Proofs.YtlkcnpmgafckoaaDoor
