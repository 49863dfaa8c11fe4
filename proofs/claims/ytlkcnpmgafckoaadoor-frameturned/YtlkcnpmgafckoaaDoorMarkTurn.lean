/-
  WHAT IS TURNED SHOWS, as plain mathematics on lists of bytes: two rows that differ within four bytes one behind the other come to different registers.
  No statement is proved here; nothing of a program is named.
-/
import Derived.Test.YtlkcnpmgafckoaaDoorMarkMath
namespace Go.Proofs.YtlkcnpmgafckoaaDoor

theorem stN_inj (k : Nat) {x y : Nat} (hx : x < two32) (hy : y < two32) (h : stN k x = stN k y) : x = y := by
  have h1 : stN k (x ^^^ y) = 0 := by rw [stN_xor, h, Nat.xor_self]
  have h2 := stN_zero k (xor_lt hx hy) h1
  have h3 : (x ^^^ y) ^^^ y = 0 ^^^ y := by rw [h2]
  rwa [Nat.xor_assoc, Nat.xor_self, Nat.xor_zero, Nat.zero_xor] at h3
/-- Low and high parts, laid over each other. -/
theorem low_high (b m : Nat) (hb : b < 256) : b + 256 * m = b ^^^ (m * 2 ^ 8) := by
  have h := join_low 8 (b + 256 * m)
  have e1 : (b + 256 * m) / 2 ^ 8 = m := by omega
  have e2 : (b + 256 * m) % 2 ^ 8 = b := by omega
  rw [e1, e2, Nat.xor_comm] at h
  exact h
theorem run_tk (l : List UInt8) : ∀ r, run r l = stN (8 * l.length) (r ^^^ tk l) := by
  induction l with
  | nil => intro r; simp [run, tk, stN]
  | cons b t ih =>
    intro r
    have hb := b.toNat_lt
    have e : run r (b :: t) = run (reg r b) t := rfl
    rw [e, ih, List.length_cons, show 8 * (t.length + 1) = 8 + 8 * t.length from by omega, stN_add]
    congr 1
    rw [tk, low_high b.toNat (tk t) (by omega), ← Nat.xor_assoc, stN_xor, stN_shift]
    rfl
theorem tk_bd (l : List UInt8) (h : l.length ≤ 4) : tk l < two32 := by
  have : ∀ (l : List UInt8) k, l.length ≤ k → tk l < 256 ^ k := by
    intro l
    induction l with
    | nil => intro k _; exact Nat.pow_pos (by omega)
    | cons b t ih =>
      intro k hk
      rcases k with _ | k
      · simp at hk
      · have h1 := ih k (by simpa using hk)
        have hb := b.toNat_lt
        rw [tk, Nat.pow_succ]
        omega
  exact this l 4 h
theorem tk_inj (l : List UInt8) : ∀ m : List UInt8, l.length = m.length → tk l = tk m → l = m := by
  induction l with
  | nil => intro m h _; exact (List.eq_nil_of_length_eq_zero h.symm).symm
  | cons b t ih =>
    intro m hl h
    rcases m with _ | ⟨c, u⟩
    · simp at hl
    · have hb := b.toNat_lt
      have hc := c.toNat_lt
      rw [tk, tk] at h
      have h1 : b = c := UInt8.toNat_inj.1 (by omega)
      have h2 := ih u (by simpa using hl) (by omega)
      rw [h1, h2]
theorem run_inj (y : List UInt8) : ∀ {r s : Nat}, r < two32 → s < two32 → run r y = run s y → r = s := by
  induction y with
  | nil => intro r s _ _ h; exact h
  | cons b t ih =>
    intro r s hr hs h
    have h1 := ih (reg_lt hr b) (reg_lt hs b) h
    have hb : b.toNat < two32 := by have := b.toNat_lt; unfold two32; omega
    have h2 := stN_inj 8 (xor_lt hr hb) (xor_lt hs hb) h1
    have h3 : (r ^^^ b.toNat) ^^^ b.toNat = (s ^^^ b.toNat) ^^^ b.toNat := by rw [h2]
    rwa [Nat.xor_assoc, Nat.xor_assoc, Nat.xor_self, Nat.xor_zero, Nat.xor_zero] at h3
/-- ROWS THAT DIFFER WITHIN FOUR BYTES ALONE come to different registers. -/
theorem run_differ {q q' : List UInt8} (k m : Nat) (hm : m ≤ 4) (hl : q.length = q'.length) (ht : q.take k = q'.take k) (hd : q.drop (k + m) = q'.drop (k + m)) (hne : q ≠ q') {r : Nat} (hr : r < two32) : run r q ≠ run r q' := by
  intro h
  have e : ∀ l : List UInt8, l = l.take k ++ ((l.drop k).take m ++ l.drop (k + m)) := fun l => by
    rw [← List.drop_drop, List.take_append_drop, List.take_append_drop]
  have h' := h
  rw [e q, e q', run_append, run_append, run_append, run_append, ← ht, ← hd] at h'
  have hR := run_lt (q.take k) hr
  have h1 := run_inj (q.drop (k + m)) (run_lt _ hR) (run_lt _ hR) h'
  have l1 : ((q.drop k).take m).length ≤ 4 := by rw [List.length_take]; omega
  have l2 : ((q'.drop k).take m).length ≤ 4 := by rw [List.length_take]; omega
  have l3 : ((q.drop k).take m).length = ((q'.drop k).take m).length := by simp [hl]
  generalize run r (q.take k) = R at *
  rw [run_tk, run_tk, ← l3] at h1
  have h2 := stN_inj _ (xor_lt hR (tk_bd _ l1)) (xor_lt hR (tk_bd _ l2)) h1
  have h3 : tk ((q.drop k).take m) = tk ((q'.drop k).take m) := by
    have h4 : R ^^^ (R ^^^ tk ((q.drop k).take m)) = R ^^^ (R ^^^ tk ((q'.drop k).take m)) := by rw [h2]
    rwa [← Nat.xor_assoc, ← Nat.xor_assoc, Nat.xor_self, Nat.zero_xor, Nat.zero_xor] at h4
  have h5 := tk_inj _ _ l3 h3
  exact hne (by rw [e q, e q', ht, hd, h5])
/-- What is closed comes to one register alone. -/
theorem run_closed (l : List UInt8) : run 4294967295 (closed l) = stN 32 4294967295 := by
  unfold closed
  have hr := run_lt l (r := 4294967295) (by decide)
  have hs := sum_lt l
  rw [run_append, run_tk, tk_lay4 hs]
  have e : (lay4 (sum l)).length = 4 := rfl
  rw [e]
  congr 1
  unfold sum
  rw [← all_xor hr, Nat.xor_comm 4294967295, ← Nat.xor_assoc, Nat.xor_self, Nat.zero_xor]
/-- SO A CLOSED ROW THAT IS TURNED WITHIN FOUR BYTES ISN'T OPENED. -/
theorem opn_turned {p q' : List UInt8} (k : Nat) (hl : (closed p).length = q'.length) (ht : (closed p).take k = q'.take k) (hd : (closed p).drop (k + 4) = q'.drop (k + 4)) (hne : closed p ≠ q') : opn q' = ([], 3) := by
  have hc := closed_len p
  unfold opn
  rw [if_neg (by omega)]
  by_cases h : closed (q'.take (q'.length - 4)) = q'
  · have h1 := run_closed (q'.take (q'.length - 4))
    rw [h] at h1
    exact absurd ((run_closed p).trans h1.symm) (run_differ k 4 (by omega) hl ht hd hne (by decide))
  · rw [if_neg h]
/-- And one byte that is turned changes the sum. -/
theorem sum_turned (l : List UInt8) (j : Nat) (x t : UInt8) (hx : l[j]? = some x) (ht : t ≠ 0) : sum (l.set j (x ^^^ t)) ≠ sum l := by
  intro h
  obtain ⟨hj, hxj⟩ := List.getElem?_eq_some_iff.1 hx
  have h1 := run_lt l (r := 4294967295) (by decide)
  have h2 := run_lt (l.set j (x ^^^ t)) (r := 4294967295) (by decide)
  unfold two32 at h1 h2
  unfold sum at h
  have h3 : run 4294967295 (l.set j (x ^^^ t)) = run 4294967295 l := by omega
  refine run_differ (q := l.set j (x ^^^ t)) (q' := l) j 1 (by omega) (by simp) ?_ ?_ ?_ (by decide) h3
  · rw [List.take_set_of_le (Nat.le_refl _)]
  · rw [List.drop_set_of_lt (by omega)]
  · intro e
    have h4 := congrArg (fun l : List UInt8 => l[j]?) e
    simp only [List.getElem?_set_self hj, hx, Option.some.injEq] at h4
    apply ht
    have h5 : x ^^^ (x ^^^ t) = x ^^^ x := by rw [h4]
    rwa [← UInt8.xor_assoc, UInt8.xor_self, UInt8.zero_xor] at h5
end Go.Proofs.YtlkcnpmgafckoaaDoor
