/-
  MATHEMATICS of frames: what is read of bytes.
  No statement is proved here.
-/
import Derived.Test.YtlkcnpmgafckoaaDoorFrameMath
namespace Go.Proofs.YtlkcnpmgafckoaaDoor
open Go.RowKit

/-- A number that isn't more than most; else 0, and an error. -/
def stMost (l : List UInt8) (er most : Nat) : Nat × List UInt8 × Nat :=
  if most < (stNum l er).1 then (0, (stNum l er).2.1, failN (stNum l er).2.2 2) else stNum l er
theorem stMost_le (l : List UInt8) (er most : Nat) : (stMost l er most).1 ≤ most := by
  unfold stMost
  split
  · exact Nat.zero_le _
  · omega
/-- So many runs. -/
def stRuns (l : List UInt8) (er : Nat) : Nat → List Rn × List UInt8 × Nat
  | 0 => ([], l, er)
  | n + 1 =>
    let s := stRuns l er n
    let x := stNum s.2.1 s.2.2
    let y := stNum x.2.1 x.2.2
    (s.1 ++ [(x.1, y.1)], y.2.1, y.2.2)
theorem stRuns_len (l : List UInt8) (er : Nat) : ∀ n, (stRuns l er n).1.length = n
  | 0 => rfl
  | n + 1 => by simp [stRuns, stRuns_len l er n]
/-- So many items. -/
def stItems (l : List UInt8) (er : Nat) : Nat → List It × List UInt8 × Nat
  | 0 => ([], l, er)
  | n + 1 =>
    let s := stItems l er n
    let x := stItem s.2.1 s.2.2
    (s.1 ++ [⟨x.1, (x.2.1 : Int), x.2.2.1⟩], x.2.2.2.1, x.2.2.2.2)
theorem stItems_len (l : List UInt8) (er : Nat) : ∀ n, (stItems l er n).1.length = n
  | 0 => rfl
  | n + 1 => by simp [stItems, stItems_len l er n]
theorem rd_lt (l : List UInt8) : (rd l).1 < two64 := by
  exact (rd_bd (l := l) (v := (rd l).1) (s := (rd l).2.1) (e := (rd l).2.2) rfl).1
theorem stNum_lt (l : List UInt8) (er : Nat) : (stNum l er).1 < two64 := by
  unfold stNum
  split
  · split
    · exact rd_lt l
    · unfold two64; show 0 < _; omega
  · unfold two64; show 0 < _; omega

def zeroM : Fm := ⟨0, 0, 0, 0, 0, 0, 0, [], []⟩
/-- What a Hello, an answer, a Batch tell behind their epoch. -/
def getH (m : Fm) (l : List UInt8) (er : Nat) : Fm × List UInt8 × Nat :=
  let x := stNum l er
  ({ m with ba := x.1 }, x.2.1, x.2.2)
def getA (m : Fm) (l : List UInt8) (er : Nat) : Fm × List UInt8 × Nat :=
  let i := stNum l er
  let c := stNum i.2.1 i.2.2
  let t := stNum c.2.1 c.2.2
  let n := stMost t.2.1 t.2.2 32
  let s := stRuns n.2.1 n.2.2 n.1
  ({ m with ic := i.1, cu := c.1, li := t.1, L := m.L ++ s.1 }, s.2.1, s.2.2)
def getB (m : Fm) (l : List UInt8) (er : Nat) : Fm × List UInt8 × Nat :=
  let i := stNum l er
  let b := stNum i.2.1 i.2.2
  let n := stMost b.2.1 b.2.2 64
  let s := stItems n.2.1 n.2.2 n.1
  ({ m with ic := i.1, ba := b.1, its := m.its ++ s.1 }, s.2.1, s.2.2)
def getK (m : Fm) (l : List UInt8) (er : Nat) : Fm × List UInt8 × Nat := if m.kd = 1 then getH m l er else if m.kd = 3 then getB m l er else getA m l er
/-- A frame, up to the first error. -/
def getM (l : List UInt8) : Fm × List UInt8 × Nat :=
  let k := stByte l 0
  if 1 ≤ k.1 ∧ k.1 ≤ 4 then
    let a := stMost k.2.1 k.2.2 15
    let p := stNum a.2.1 a.2.2
    getK ⟨k.1, (a.1 : Int), p.1, 0, 0, 0, 0, [], []⟩ p.2.1 p.2.2
  else (zeroM, k.2.1, failN k.2.2 2)
open Classical in
/-- The frame, the error. -/
noncomputable def decM (l : List UInt8) : Fm × Nat :=
  if 65507 < l.length then (zeroM, 6)
  else if (opn l).2 ≠ 0 then (zeroM, (opn l).2)
  else
    let g := getM (opn l).1
    if endN g.2.1 g.2.2 ≠ 0 then (zeroM, endN g.2.1 g.2.2)
    else if RightP g.1 then (g.1, 0) else (zeroM, 1)
end Go.Proofs.YtlkcnpmgafckoaaDoor
