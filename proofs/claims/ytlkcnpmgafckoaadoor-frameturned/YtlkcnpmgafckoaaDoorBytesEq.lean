/-
  CONTRACTS: bytes.Equal; the reference's Same of the same bytes.
  No statement is proved here.
-/
import Derived.Test.YtlkcnpmgafckoaaDoorRefOne
import Derived.Laws.BytesArg
namespace Go.Proofs.YtlkcnpmgafckoaaDoor
open Go.RowKit

theorem same_yes (w : World) (B : Nat) (A A' : Option Addr) (n c n' c' : Nat) (l : List UInt8) (hs : Sl w B A n c l) (hs' : Sl w B A' n' c' l) :
    Calls Tryd.prog 18 #[.slice A n c, .slice A' n' c'] w fun e w' => e = .returned (.bool true) ∧ ∃ q, w' = w.drewN q := by
  have h := same_any w B A A' n c n' c' l l hs hs'
  have e : sameB l l = true := by simp [sameB]
  rw [e] at h
  exact h

set_option maxRecDepth 100000 in
theorem conv_sl {w : World} {B : Nat} {A : Option Addr} {n c : Nat} {l : List UInt8} (h : Sl w B A n c l) : (convert 37 9 (.slice A n c)).run Tryd.prog w = .ok (.string ⟨l.toArray⟩) w := by
  rcases Nat.eq_zero_or_pos n with h0 | h0
  · subst h0
    have hl : l = [] := List.eq_nil_of_length_eq_zero h.len
    subst hl
    rw [run_convert_bytes_string w 37 9 5 _ 0 c Tryd.underlying37 Tryd.underlying5 Tryd.underlying9]
    cases A <;> simp [Conv.bytesToString, loadCells]
    all_goals rfl
  · obtain ⟨b, o, rfl, _, hc⟩ := h.cell h0
    have hx := run_convert_bytes_arg (P := Tryd.prog) w 37 5 Tryd.underlying37 Tryd.underlying5 b o n c (l.map fun x => (x.toNat : Int)) (by rw [List.length_map, h.len]) (fun i hi => by
      have hl := h.len
      rw [hc i l[i] (List.getElem?_eq_getElem (by omega))]
      simp [cb, List.getElem?_eq_getElem (show i < l.length by omega)]) 9 Tryd.underlying9
    rw [hx]
    congr 2
    unfold strOfNums
    rw [List.map_map]
    have e : ((fun n : Int => UInt8.ofNat n.toNat) ∘ fun x : UInt8 => (x.toNat : Int)) = id := by
      funext x
      simp
    rw [e, List.map_id]

set_option maxHeartbeats 400000 in
theorem equal_any (w : World) (B : Nat) (A A' : Option Addr) (n c n' c' : Nat) (l l' : List UInt8) (hs : Sl w B A n c l) (hs' : Sl w B A' n' c' l') :
    Calls Tryd.prog 65 #[.slice A n c, .slice A' n' c'] w fun e w' => e = .returned (.bool (sameB l l')) ∧ w = w' := by
  have h1 := conv_sl hs
  have h2 := conv_sl hs'
  go_enter Tryd.func65, Tryd.ntmps65
  go_wp2
  go_ret
  have e : (l == l') = sameB l l' := by
    unfold sameB
    rw [Bool.eq_iff_iff]
    simp
  exact ⟨by rw [← e]; rfl, rfl⟩
end Go.Proofs.YtlkcnpmgafckoaaDoor
