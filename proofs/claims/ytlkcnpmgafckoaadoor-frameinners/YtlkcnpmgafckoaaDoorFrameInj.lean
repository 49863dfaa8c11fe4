/-
  MATHEMATICS of frames: two that may be have the same bytes just if they are alike.
  No statement is proved here.
-/
import Derived.Test.YtlkcnpmgafckoaaDoorFrameEncode
namespace Go.Proofs.YtlkcnpmgafckoaaDoor
open Go.RowKit

structure Fm.Ok (m : Fm) : Prop where
  ep : m.ep < two64
  ic : m.ic < two64
  ba : m.ba < two64
  cu : m.cu < two64
  li : m.li < two64
  L : ∀ q ∈ m.L, q.1 < two64 ∧ q.2 < two64
  its : ∀ x ∈ m.its, x.N < two64
theorem FrAt.ok {w : World} {f : Fv} (h : FrAt w f) : f.m.Ok := ⟨h.ep, h.ic, h.ba, h.cu, h.li, h.rs.lt, fun x hx => by
  obtain ⟨k, hk, rfl⟩ := List.mem_map.1 hx
  exact (h.it.sl k hk).2⟩
theorem numsB_cons (x : Nat) (xs : List Nat) (t : List UInt8) : numsB (x :: xs) ++ t = num x ++ (numsB xs ++ t) := by unfold numsB; rw [List.flatMap_cons, List.append_assoc]
theorem numsB_nil (t : List UInt8) : numsB [] ++ t = t := rfl
theorem runsB_cons (r : Rn) (L : List Rn) (t : List UInt8) : runsB (r :: L) ++ t = num r.1 ++ (num r.2 ++ (runsB L ++ t)) := by
  unfold runsB
  rw [List.flatMap_cons, List.append_assoc, numsB_cons, numsB_cons, numsB_nil]
theorem itsB_cons (x : It) (xs : List It) (t : List UInt8) : itsB (x :: xs) ++ t = itemB x.N x.C x.b ++ (itsB xs ++ t) := by
  unfold itsB
  rw [List.flatMap_cons, List.append_assoc]
  rfl
end Go.Proofs.YtlkcnpmgafckoaaDoor
