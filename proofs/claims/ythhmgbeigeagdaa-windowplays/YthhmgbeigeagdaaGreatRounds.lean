/-
  MATHEMATICS of pdqsort's rounds, over what the contracts of partition and partitionEqual say.
  No statement is proved here.
-/
import Derived.Test.YthhmgbeigeagdaaGreatEqual
import Derived.Test.YthhmgbeigeagdaaGreatHeap
import Derived.Test.YthhmgbeigeagdaaGreatBreak
namespace Go.Proofs.Ythhmgbeigeagdaa
open Go.RowKit Go.Sort

theorem ltB_of {x y : Nat} (h : x < y) : ltB x y = true := by simpa [ltB] using h
theorem ltB_not {x y : Nat} (h : ¬ x < y) : ltB x y = false := by simpa [ltB] using h
theorem equal_round {d3 d4 : Array Nat} {a b m N p : Nat} (h : PartedE d3 d4 a b m N p) (ha0 : 0 < a) (hb : b ≤ d3.size) (hB : Below ltB a b d3) (hnl : ltB d3[a - 1]! d3[p]! = false) :
    Below ltB m b d4 ∧ ∀ R, PermIn m b d4 R → SortedIn ltB m b R → PermIn a b d3 R ∧ SortedIn ltB a b R := by
  have hge : ∀ i, a ≤ i → i < b → ltB d3[i]! d3[p]! = false := fun i hi hi' => by
    rcases hB with h0 | hB
    · omega
    · exact swo_ltB.ntrans _ _ _ (hB i hi hi') hnl
  have h1 := h.am
  have h2 := h.mb
  have hperm := h.perm
  have hle : ∀ i, a ≤ i → i < m → ltB d3[p]! d4[i]! = false := fun i k1 k2 => ltB_not (h.pv ▸ h.lo i k1 k2)
  have hgt : ∀ i, m ≤ i → i < b → ltB d3[p]! d4[i]! = true := fun i k1 k2 => ltB_of (h.pv ▸ h.hi i k1 k2)
  have hge4 := permIn_all d3 d4 a b (fun x => ltB x d3[p]! = false) hb hperm hge
  have hb4 : b ≤ d4.size := by rw [hperm.1]; exact hb
  refine ⟨Or.inr fun i hi hi' => ?_, fun R hR hs => ⟨permIn_trans _ _ _ a b hperm (permIn_mono _ _ m b a b (by omega) (Nat.le_refl _) hb4 hR), ?_⟩⟩
  · have k1 := ltB_true (hgt i hi hi')
    have k2 := ltB_false (hle (m - 1) (by omega) (by omega))
    exact ltB_not (by omega)
  · refine sorted_glue_eq swo_ltB d3[p]! hs (fun i hi hi' => ?_) (fun i hi hi' => ?_) (permIn_all d4 R m b (fun x => ltB d3[p]! x = true) hb4 hR hgt)
    · rw [hR.2.1 i (Or.inl hi')]; exact hle i hi hi'
    · rw [hR.2.1 i (Or.inl hi')]; exact hge4 i hi (by omega)
theorem part_round {d3 d4 : Array Nat} {a b m N : Nat} (h : Parted d3 d4 a b m N) (hb : b ≤ d3.size) (hB : Below ltB a b d3) :
    Below ltB a m d4 ∧ Below ltB (m + 1) b d4 ∧
    (∀ L, PermIn a m d4 L → SortedIn ltB a m L → Below ltB (m + 1) b L ∧ ∀ R, PermIn (m + 1) b L R → SortedIn ltB (m + 1) b R → PermIn a b d3 R ∧ SortedIn ltB a b R) ∧
    (∀ L, PermIn (m + 1) b d4 L → SortedIn ltB (m + 1) b L → Below ltB a m L ∧ ∀ R, PermIn a m L R → SortedIn ltB a m R → PermIn a b d3 R ∧ SortedIn ltB a b R) := by
  have h1 := h.am
  have h2 := h.mb
  have hperm := h.perm
  have hlo : ∀ i, a ≤ i → i < m → ltB d4[i]! d4[m]! = true := fun i k1 k2 => ltB_of (h.lo i k1 k2)
  have hhi : ∀ i, m < i → i < b → ltB d4[i]! d4[m]! = false := fun i k1 k2 => ltB_not (h.hi i k1 k2)
  have hb4 : b ≤ d4.size := by rw [hperm.1]; exact hb
  have hBa : Below ltB a m d4 := (hB.perm hb hperm).mono (by omega)
  have hBr : Below ltB (m + 1) b d4 := Or.inr fun i hi hi' => by rw [Nat.add_sub_cancel]; exact hhi i (by omega) hi'
  have glue : ∀ R : Array Nat, PermIn a b d4 R → R[m]! = d4[m]! → SortedIn ltB a m R → SortedIn ltB (m + 1) b R → (∀ i, a ≤ i → i < m → ltB R[i]! d4[m]! = true) → (∀ i, m < i → i < b → ltB R[i]! d4[m]! = false) → PermIn a b d3 R ∧ SortedIn ltB a b R :=
    fun R hP he s1 s2 q1 q2 => ⟨permIn_trans _ _ _ a b hperm hP, sorted_glue swo_ltB s1 s2 (fun i k1 k2 => by rw [he]; exact q1 i k1 k2) (fun i k1 k2 => by rw [he]; exact q2 i k1 k2)⟩
  refine ⟨hBa, hBr, fun L hL hsL => ?_, fun L hL hsL => ?_⟩
  · have hbL : b ≤ L.size := by rw [hL.1]; exact hb4
    have eL : ∀ i, m ≤ i → L[i]! = d4[i]! := fun i hi => hL.2.1 i (Or.inr hi)
    refine ⟨Or.inr fun i hi hi' => by rw [Nat.add_sub_cancel, eL i (by omega), eL m (Nat.le_refl _)]; exact hhi i (by omega) hi', fun R hR hsR => ?_⟩
    have eR : ∀ i, i ≤ m → R[i]! = L[i]! := fun i hi => hR.2.1 i (Or.inl (by omega))
    refine glue R (permIn_trans _ _ _ a b (permIn_mono _ _ a m a b (Nat.le_refl _) (by omega) hb4 hL) (permIn_mono _ _ (m + 1) b a b (by omega) (Nat.le_refl _) hbL hR)) ((eR m (Nat.le_refl _)).trans (eL m (Nat.le_refl _))) (hsL.congr fun i _ hi' => eR i (by omega)) hsR (fun i hi hi' => ?_) (fun i hi hi' => ?_)
    · rw [eR i (by omega)]
      exact permIn_all d4 L a m (fun x => ltB x d4[m]! = true) (by omega) hL hlo i hi hi'
    · exact permIn_all L R (m + 1) b (fun x => ltB x d4[m]! = false) hbL hR (fun k hk hk' => by rw [eL k (by omega)]; exact hhi k (by omega) hk') i (by omega) hi'
  · have hbL : b ≤ L.size := by rw [hL.1]; exact hb4
    have eL : ∀ i, i ≤ m → L[i]! = d4[i]! := fun i hi => hL.2.1 i (Or.inl (by omega))
    refine ⟨?_, fun R hR hsR => ?_⟩
    · rcases hBa with h0 | hBa
      · exact Or.inl h0
      · exact Or.inr fun i hi hi' => by rw [eL i (by omega), eL (a - 1) (by omega)]; exact hBa i hi hi'
    have eR : ∀ i, m ≤ i → R[i]! = L[i]! := fun i hi => hR.2.1 i (Or.inr hi)
    refine glue R (permIn_trans _ _ _ a b (permIn_mono _ _ (m + 1) b a b (by omega) (Nat.le_refl _) hb4 hL) (permIn_mono _ _ a m a b (Nat.le_refl _) (by omega) hbL hR)) ((eR m (Nat.le_refl _)).trans (eL m (Nat.le_refl _))) hsR (hsL.congr fun i hi _ => eR i (by omega)) (fun i hi hi' => ?_) (fun i hi hi' => ?_)
    · exact permIn_all L R a m (fun x => ltB x d4[m]! = true) (by omega) hR (fun k hk hk' => by rw [eL k (by omega)]; exact hlo k hk hk') i hi hi'
    · rw [eR i (by omega)]
      exact permIn_all d4 L (m + 1) b (fun x => ltB x d4[m]! = false) hb4 hL (fun k hk hk' => hhi k (by omega) hk') i (by omega) hi'
end Go.Proofs.Ythhmgbeigeagdaa
