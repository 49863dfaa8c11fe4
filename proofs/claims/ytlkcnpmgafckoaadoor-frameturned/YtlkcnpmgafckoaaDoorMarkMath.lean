/-
  THE SUM, as plain functions on numbers: a step of the register, its linearity, and that what is turned within four bytes shows.
  No statement is proved here; nothing of a program is named.
-/
import GoSem.Claim
namespace Go.Proofs.YtlkcnpmgafckoaaDoor

def two32 : Nat := 4294967296
def poly : Nat := 3988292384
theorem poly_lt : poly < two32 := by decide
/-- One step of the register. -/
def st (x : Nat) : Nat := (x / 2) ^^^ (if x % 2 = 1 then poly else 0)
def stN : Nat → Nat → Nat
  | 0, x => x
  | k + 1, x => stN k (st x)
theorem stN_succ (k x : Nat) : stN (k + 1) x = st (stN k x) := by
  induction k generalizing x with
  | zero => rfl
  | succ k ih => rw [stN, ih]; rfl
theorem stN_add (j k x : Nat) : stN (j + k) x = stN k (stN j x) := by
  induction j generalizing x with
  | zero => rw [Nat.zero_add]; rfl
  | succ j ih => rw [Nat.succ_add, stN, ih]; rfl
theorem xor_lt {a b : Nat} (ha : a < two32) (hb : b < two32) : a ^^^ b < two32 := Nat.xor_lt_two_pow (n := 32) ha hb
theorem st_lt {x : Nat} (h : x < two32) : st x < two32 := by
  unfold st
  refine xor_lt (by omega) ?_
  split
  · exact poly_lt
  · decide
theorem stN_lt (k : Nat) {x : Nat} (h : x < two32) : stN k x < two32 := by
  induction k generalizing x with
  | zero => exact h
  | succ k ih => exact ih (st_lt h)
theorem xor_half (x y : Nat) : (x ^^^ y) / 2 = (x / 2) ^^^ (y / 2) := by
  have := Nat.shiftRight_xor_distrib (a := x) (b := y) (i := 1)
  simpa [Nat.shiftRight_eq_div_pow] using this
theorem xor_mod2 (x y : Nat) : (x ^^^ y) % 2 = (x % 2 + y % 2) % 2 := by
  have h := Nat.xor_mod_two_pow (a := x) (b := y) (n := 1)
  rw [Nat.pow_one] at h
  rw [h]
  rcases Nat.mod_two_eq_zero_or_one x with hx | hx <;> rcases Nat.mod_two_eq_zero_or_one y with hy | hy <;> rw [hx, hy] <;> rfl
theorem st_xor (x y : Nat) : st (x ^^^ y) = st x ^^^ st y := by
  unfold st
  rw [xor_half]
  have h := xor_mod2 x y
  rcases Nat.mod_two_eq_zero_or_one x with hx | hx <;> rcases Nat.mod_two_eq_zero_or_one y with hy | hy
  · rw [hx, hy] at h
    simp [hx, hy, h]
  · rw [hx, hy] at h
    simp [hx, hy, h, Nat.xor_assoc]
  · rw [hx, hy] at h
    simp only [hx, hy, h]
    simp only [if_true, Nat.zero_ne_one, if_false, Nat.xor_zero]
    rw [Nat.xor_assoc, Nat.xor_assoc, Nat.xor_comm poly (y / 2)]
  · rw [hx, hy] at h
    simp only [hx, hy, h]
    simp only [Nat.reduceAdd, Nat.reduceMod, if_true, Nat.zero_ne_one, if_false, Nat.xor_zero]
    rw [Nat.xor_assoc, ← Nat.xor_assoc poly, Nat.xor_comm poly (y / 2), Nat.xor_assoc, Nat.xor_self, Nat.xor_zero]
theorem stN_xor (k x y : Nat) : stN k (x ^^^ y) = stN k x ^^^ stN k y := by
  induction k generalizing x y with
  | zero => rfl
  | succ k ih => rw [stN, st_xor, ih]; rfl
/-- Nothing but 0 comes to 0. -/
theorem st_zero {x : Nat} (hx : x < two32) (h : st x = 0) : x = 0 := by
  unfold st at h
  unfold two32 at hx
  split at h
  · have : x / 2 = poly := by
      have h2 : (x / 2 ^^^ poly) ^^^ poly = 0 ^^^ poly := by rw [h]
      rw [Nat.xor_assoc, Nat.xor_self, Nat.xor_zero, Nat.zero_xor] at h2
      exact h2
    unfold poly at this
    omega
  · rw [Nat.xor_zero] at h
    omega
theorem stN_zero (k : Nat) {x : Nat} (hx : x < two32) (h : stN k x = 0) : x = 0 := by
  induction k generalizing x with
  | zero => exact h
  | succ k ih => exact st_zero hx (ih (st_lt hx) h)
theorem stN_of0 (k : Nat) : stN k 0 = 0 := by
  induction k with
  | zero => rfl
  | succ k ih => rw [stN]; exact ih
/-- Low bits that are 0 are only shifted out. -/
theorem stN_shift (k y : Nat) : stN k (y * 2 ^ k) = y := by
  induction k with
  | zero => simp [stN]
  | succ k ih =>
    rw [stN]
    have h : st (y * 2 ^ (k + 1)) = y * 2 ^ k := by
      unfold st
      rw [Nat.pow_succ, ← Nat.mul_assoc]
      have h1 : y * 2 ^ k * 2 % 2 = 0 := Nat.mul_mod_left _ _
      rw [h1, Nat.mul_div_cancel _ (by omega)]
      simp
    rw [h, ih]

/-- The table of half bytes. -/
def hv (i : Nat) : Nat := [0, 498536548, 997073096, 651767980, 1994146192, 1802195444, 1303535960, 1342533948, 3988292384, 4027552580, 3604390888, 3412177804, 2607071920, 2262029012, 2685067896, 3183342108].getD i 0
theorem hv_all : ∀ i : Fin 16, stN 4 i.val = hv i.val ∧ hv i.val < two32 := by decide
theorem hv_lt {i : Nat} (h : i < 16) : hv i < two32 := (hv_all ⟨i, h⟩).2
theorem join_low (k x : Nat) : x = (x / 2 ^ k * 2 ^ k) ^^^ (x % 2 ^ k) := by
  have h1 : 2 ^ k * (x / 2 ^ k) + x % 2 ^ k = 2 ^ k * (x / 2 ^ k) ||| x % 2 ^ k := Nat.two_pow_add_eq_or_of_lt (Nat.mod_lt _ (Nat.two_pow_pos k)) _
  have h2 : (2 ^ k * (x / 2 ^ k)) &&& (x % 2 ^ k) = 0 := by
    apply Nat.eq_of_testBit_eq
    intro i
    rw [Nat.testBit_and, Nat.testBit_two_pow_mul, Nat.testBit_mod_two_pow, Nat.zero_testBit]
    by_cases h : i < k
    · simp [h, show ¬ k ≤ i from by omega]
    · simp [h]
  have h3 : 2 ^ k * (x / 2 ^ k) ^^^ x % 2 ^ k = 2 ^ k * (x / 2 ^ k) ||| x % 2 ^ k := by
    apply Nat.eq_of_testBit_eq
    intro i
    have h4 := congrArg (fun n => n.testBit i) h2
    simp only [Nat.testBit_and, Nat.zero_testBit] at h4
    rw [Nat.testBit_xor, Nat.testBit_or]
    revert h4
    cases (2 ^ k * (x / 2 ^ k)).testBit i <;> cases (x % 2 ^ k).testBit i <;> simp
  rw [Nat.mul_comm (x / 2 ^ k), h3, ← h1, Nat.div_add_mod]
/-- Four steps at once. -/
theorem nib (x : Nat) : (x / 16) ^^^ hv (x % 16) = stN 4 x := by
  have h := join_low 4 x
  have h1 : stN 4 x = stN 4 (x / 2 ^ 4 * 2 ^ 4) ^^^ stN 4 (x % 2 ^ 4) := by rw [← stN_xor, ← h]
  rw [h1, stN_shift]
  have h2 := (hv_all ⟨x % 16, by omega⟩).1
  rw [show (2 : Nat) ^ 4 = 16 from rfl, h2]
/-- The register behind one byte, and behind many. -/
def reg (r : Nat) (b : UInt8) : Nat := stN 8 (r ^^^ b.toNat)
def run (r : Nat) (l : List UInt8) : Nat := l.foldl reg r
theorem reg_lt {r : Nat} (h : r < two32) (b : UInt8) : reg r b < two32 := stN_lt 8 (xor_lt h (by have := b.toNat_lt; unfold two32; omega))
theorem run_lt (l : List UInt8) {r : Nat} (h : r < two32) : run r l < two32 := by
  induction l generalizing r with
  | nil => exact h
  | cons b t ih => exact ih (reg_lt h b)
theorem run_snoc (r : Nat) (l : List UInt8) (b : UInt8) : run r (l ++ [b]) = reg (run r l) b := by simp [run]
theorem run_append (r : Nat) (l m : List UInt8) : run r (l ++ m) = run (run r l) m := by simp [run]
theorem two_nibs (x : Nat) : ((x / 16 ^^^ hv (x % 16)) / 16) ^^^ hv ((x / 16 ^^^ hv (x % 16)) % 16) = stN 8 x := by
  rw [nib x, nib]
  exact (stN_add 4 4 x).symm
/-- Bit by bit. -/
def bitGo (b : Nat) (k r : Nat) : Nat := (r / 2) ^^^ (if r % 2 = b / 2 ^ k % 2 then 0 else poly)
theorem bit_step (b k r x : Nat) (h : r ^^^ (b / 2 ^ k) = x) : bitGo b k r ^^^ (b / 2 ^ (k + 1)) = st x := by
  subst h
  unfold bitGo st
  have h1 : b / 2 ^ (k + 1) = b / 2 ^ k / 2 := by rw [Nat.pow_succ, Nat.div_div_eq_div_mul]
  rw [h1, xor_half, xor_mod2]
  generalize b / 2 ^ k = c
  rcases Nat.mod_two_eq_zero_or_one r with hr | hr <;> rcases Nat.mod_two_eq_zero_or_one c with hc | hc <;> simp only [hr, hc] <;> simp <;> rw [Nat.xor_assoc, Nat.xor_comm poly, Nat.xor_assoc]
/-- All bits turned. -/
theorem all_xor {s : Nat} (h : s < two32) : 4294967295 ^^^ s = 4294967295 - s := by
  unfold two32 at h
  have e : 4294967295 - s = 2 ^ 32 - (s + 1) := by omega
  rw [e, show (4294967295 : Nat) = 2 ^ 32 - 1 from rfl]
  apply Nat.eq_of_testBit_eq
  intro i
  rw [Nat.testBit_xor, Nat.testBit_two_pow_sub_one, Nat.testBit_two_pow_sub_succ h]
  by_cases hi : i < 32
  · simp [hi]
  · have : s.testBit i = false := Nat.testBit_lt_two_pow (Nat.lt_of_lt_of_le h (Nat.pow_le_pow_right (by omega) (by omega) : 2 ^ 32 ≤ 2 ^ i))
    simp [hi, this]
/-- The sum. -/
def sum (l : List UInt8) : Nat := 4294967295 - run 4294967295 l
def more (s : Nat) (l : List UInt8) : Nat := 4294967295 - run (4294967295 - s) l
theorem sum_lt (l : List UInt8) : sum l < two32 := by unfold sum two32; omega
theorem more_zero (l : List UInt8) : more 0 l = sum l := rfl
theorem more_sum (l m : List UInt8) : more (sum l) m = sum (l ++ m) := by
  unfold more sum
  have h := run_lt l (r := 4294967295) (by decide)
  unfold two32 at h
  rw [run_append, show 4294967295 - (4294967295 - run 4294967295 l) = run 4294967295 l from by omega]

/-- A sum's four bytes, the lowest first; what is closed; what is opened. -/
def lay4 (s : Nat) : List UInt8 := [UInt8.ofNat (s % 256), UInt8.ofNat (s / 256 % 256), UInt8.ofNat (s / 65536 % 256), UInt8.ofNat (s / 16777216 % 256)]
def closed (l : List UInt8) : List UInt8 := l ++ lay4 (sum l)
def tk : List UInt8 → Nat
  | [] => 0
  | b :: t => b.toNat + 256 * tk t
def opn (l : List UInt8) : List UInt8 × Nat :=
  if l.length < 4 then ([], 2) else if closed (l.take (l.length - 4)) = l then (l.take (l.length - 4), 0) else ([], 3)
theorem closed_len (l : List UInt8) : (closed l).length = l.length + 4 := by simp [closed, lay4]
theorem tk_lay4 {s : Nat} (h : s < two32) : tk (lay4 s) = s := by
  unfold two32 at h
  simp only [tk, lay4, UInt8.toNat_ofNat']
  omega
theorem lay4_tk {l : List UInt8} (h : l.length = 4) : lay4 (tk l) = l := by
  match l, h with
  | [a, b, c, d], _ =>
    have ha := a.toNat_lt
    have hb := b.toNat_lt
    have hc := c.toNat_lt
    have hd := d.toNat_lt
    have e0 : tk [a, b, c, d] = a.toNat + 256 * (b.toNat + 256 * (c.toNat + 256 * d.toNat)) := by simp [tk]
    rw [e0]
    unfold lay4
    generalize ea : a.toNat = x at *
    generalize eb : b.toNat = y at *
    generalize ec : c.toNat = z at *
    generalize ed : d.toNat = u at *
    have h1 : (x + 256 * (y + 256 * (z + 256 * u))) % 256 = x := by omega
    have h2 : (x + 256 * (y + 256 * (z + 256 * u))) / 256 % 256 = y := by omega
    have h3 : (x + 256 * (y + 256 * (z + 256 * u))) / 65536 % 256 = z := by omega
    have h4 : (x + 256 * (y + 256 * (z + 256 * u))) / 16777216 % 256 = u := by omega
    rw [h1, h2, h3, h4, ← ea, ← eb, ← ec, ← ed]
    simp
/-- The last four bytes are the sum just if what is ahead, closed, is all. -/
theorem tk_iff {l : List UInt8} (h : 4 ≤ l.length) : tk (l.drop (l.length - 4)) = sum (l.take (l.length - 4)) ↔ closed (l.take (l.length - 4)) = l := by
  constructor
  · intro e
    unfold closed
    rw [← e, lay4_tk (by rw [List.length_drop]; omega), List.take_append_drop]
  · intro e
    have h1 : l.drop (l.length - 4) = lay4 (sum (l.take (l.length - 4))) := by
      have h2 := congrArg (List.drop (l.length - 4)) e
      unfold closed at h2
      rw [List.drop_left' (by rw [List.length_take]; omega)] at h2
      exact h2.symm
    rw [h1, tk_lay4 (sum_lt _)]
theorem opn_closed (l : List UInt8) : opn (closed l) = (l, 0) := by
  have hl := closed_len l
  have ht : (closed l).take ((closed l).length - 4) = l := by rw [hl]; unfold closed; simp
  unfold opn
  rw [if_neg (by omega), ht, if_pos rfl]
end Go.Proofs.YtlkcnpmgafckoaaDoor
