/-
  TEXTS OF EARLIER ROUNDS, laid together: part 7.
  No statement is proved here.
-/
import Derived.Test.YtbnhemmklbbnmaaBdLot5
import Derived.Test.YtbnhemmklbbnmaaBdLot6
import Derived.Test.YtbnhemmklbbnmaaBdLot4
import Derived.Deep.RegionHeld3
import Derived.WalkSmall
import Derived.Maps.OwnSet

/-! ## OnlyW -/
namespace Go.Proofs.Ytbnhemmklbbnmaa
open Go.RowKit

/-- The world put aside: what is left of it is Q. -/
theorem absW {K : Act → World → Prop} {t : Act} {W : World} {Q : World → Prop} (hq : Q W) (k : ∀ wa, Q wa → K t wa) : K t W := k W hq

theorem grown_trans {a b c : World} {r : Option Nat} (h : a.grownBy b r) (k : b.grownBy c r) : a.grownBy c r :=
  ⟨k.os.trans h.os, k.tape.trans h.tape, k.output.trans h.output, Nat.le_trans h.size k.size, fun i hi hr => (k.block i (Nat.lt_of_lt_of_le hi h.size) hr).trans (h.block i hi hr)⟩
theorem grown_drew {a b : World} {r : Option Nat} (h : a.grownBy b r) : a.grownBy b.drew r := ⟨h.os, h.tape, h.output, h.size, h.block⟩
theorem run_wrapchk {P : Program} {t : TypeId} {a : Addr} {w : World} (x y : String) : (Builtin.ssaWrapNilChk_ #[t] t #[.pointer (some a), strVal x, strVal y]).run P w = .ok (.pointer (some a)) w := rfl
/-- A method of a value, called through an interface that holds a pointer to it. -/
theorem method_ptr {P : Program} {t et : TypeId} {f : FuncId} {name : String} {fuel : Nat} {a : Addr} {w : World} {v : Value}
    (hM : (P.info? t).bind (fun I => (I.methods.find? (·.name == name)).map (fun m => (m.path, m.func))) = some (#[], some (f, false)))
    (hu : P.underlying t = some (.pointer et)) (hl : (loadVar et a).run P w = .ok v w) :
    (method (fuel + 1) t (.pointer (some a)) name).run P w = .ok (f, v) w := by
  cases hI : P.info? t with
  | none => rw [hI] at hM; cases hM
  | some I =>
    rw [hI] at hM
    cases hm : I.methods.find? (·.name == name) with
    | none => simp [hm] at hM
    | some m =>
      simp [hm] at hM
      obtain ⟨h1, h2⟩ := hM
      simp [method, typeInfo, hI, hm, h1, h2, follow, receiverAt, run_underlying hu, Place.get, run_wrapchk, hl, asAddr]
theorem below_grown {w w' : World} (hb : RowKit.Below w.heap.size w w') (r : Option Nat) : w.grownBy w' r := ⟨hb.os, hb.tape, hb.output, hb.size, fun k hk _ => hb.block k hk⟩
theorem oper_append_dstN {P : Program} {w : World} {o : Oper} {a : Act} {K : Act → World → Prop} {Q : Exit → Act → World → Prop} (s x : Operand) (t tx : TypeId)
    (ho : o.op = .call { callee := .builtin .append, args := #[s, x], argTypes := #[t, tx] })
    (base : Nat) (e : TypeId) (i : TypeInfo) (z : Value) (k bytes : Nat) (ht : P.underlying t = some (.slice e)) (hi : P.info? e = some i) (hz : i.zero = some z) (hsize : i.size = k) (hby : i.bytes = bytes) (hzc : z.cells.size = k)
    (A : Option Addr) (n c : Nat) (l : List Value) (hs : a.eval s = .slice A n c) (hd : DstN w base e A n c k l) (v : Value) (m : Nat) (news : List Value) (hx : a.eval x = v) (hsrc : Src P k tx v m news w)
    (hbytes : (n + m) * bytes ≤ 140737488355328) (h63 : n + m ≤ 140737488355328) (hbase : base ≤ w.heap.size)
    (h : ∀ A' c' w', DstN w' base e A' (n + m) c' k (l ++ news) → (0 < m → w'.ownsRow base e k (.slice A' (n + m) c') (n + m) (l ++ news)) →
      (w.ownsRow base e k (.slice A n c) n l → w'.ownsRow base e k (.slice A' (n + m) c') (n + m) (l ++ news)) → Below base w w' → w.grownBy w' (if n = c then none else (Value.slice A n c).ownBlock) → (A' = A ∨ ∃ b, A' = some ⟨b, 0, none⟩ ∧ w.heap.size ≤ b) →
      K (a.put o.dst (.slice A' (n + m) c')) w') : Oper.wp P o a w K Q := by
  obtain ⟨A', c', w', hr, h2, h3, h4, h5, h6, h7⟩ := run_append_dstN (P := P) w base t tx o.type e i z k bytes ht hi hz hsize hby hzc A n c l hd v m news hsrc hbytes h63 hbase
  unfold Oper.wp execOp
  simp only [ho, resolve, invoke, builtin, Sem.run_bind, Sem.run_pure, Result.andThen_ok, List.map_toArray, List.map_cons, List.map_nil, hs, hx, hr]
  exact h A' c' w' h2 h3 h4 h5 h6 h7

/-- Only blocks of S have turned, of those that were there. -/
structure Only (S : Nat → Prop) (w w' : World) : Prop where
  os : w'.os = w.os
  tape : w'.tape = w.tape
  output : w'.output = w.output
  size : w.heap.size ≤ w'.heap.size
  block : ∀ k, k < w.heap.size → ¬ S k → w'.heap[k]? = w.heap[k]?
theorem Only.refl (S : Nat → Prop) (w : World) : Only S w w := ⟨rfl, rfl, rfl, Nat.le_refl _, fun _ _ _ => rfl⟩
theorem Only.trans {S S2 : Nat → Prop} {a b c : World} (h : Only S a b) (k : Only S2 b c) (hs : ∀ i, i < a.heap.size → S2 i → S i) : Only S a c :=
  ⟨k.os.trans h.os, k.tape.trans h.tape, k.output.trans h.output, Nat.le_trans h.size k.size, fun i hi hn => (k.block i (Nat.lt_of_lt_of_le hi h.size) (fun e => hn (hs i hi e))).trans (h.block i hi hn)⟩
theorem Only.of_below {S : Nat → Prop} {w w' : World} (h : RowKit.Below w.heap.size w w') : Only S w w' := ⟨h.os, h.tape, h.output, h.size, fun k hk _ => h.block k hk⟩
theorem Only.of_grown {S : Nat → Prop} {w w' : World} {r : Option Nat} (h : w.grownBy w' r) (hr : ∀ k, some k = r → S k) : Only S w w' := ⟨h.os, h.tape, h.output, h.size, fun k hk hn => h.block k hk (fun e => hn (hr k e))⟩
theorem Only.mono {S S2 : Nat → Prop} {w w' : World} (h : Only S w w') (hs : ∀ i, i < w.heap.size → S i → S2 i) : Only S2 w w' := ⟨h.os, h.tape, h.output, h.size, fun k hk hn => h.block k hk (fun e => hn (hs k hk e))⟩
theorem Only.setCell (w : World) (g o : Nat) (v : Value) : Only (fun k => k = g) w (w.setCell ⟨g, o, none⟩ v) := ⟨rfl, rfl, rfl, by simp, fun k _ hn => RowKit.Below.heap_setCell w ⟨g, o, none⟩ v k hn⟩
/-- The row where it was, or in a new block. -/
def Near (w : World) (A A' : Option Addr) : Prop := A' = A ∨ ∃ b, A' = some ⟨b, 0, none⟩ ∧ w.heap.size ≤ b
theorem own_block (A : Option Addr) (n c n' c' : Nat) : (Value.slice A n c).ownBlock = (Value.slice A n' c').ownBlock := by cases A <;> rfl
theorem Near.of {w w2 : World} {A A' : Option Addr} (h : Near w2 A A') (hs : w.heap.size ≤ w2.heap.size) : Near w A A' := by
  rcases h with h | ⟨b, h1, h2⟩
  · exact .inl h
  · exact .inr ⟨b, h1, Nat.le_trans hs h2⟩
theorem own_same {w w' : World} {base k n : Nat} {e : TypeId} {v : Value} {xs : List Value} (h : w.ownsRow base e k v n xs) (hb : ∀ b, v.ownBlock = some b → w'.heap[b]? = w.heap[b]?) : w'.ownsRow base e k v n xs := by
  refine ⟨h.1, ?_⟩
  rcases h.2 with h2 | ⟨g, cap, cur, hv, h3, hg, h4⟩
  · exact .inl h2
  · exact .inr ⟨g, cap, cur, hv, h3, (hb g (by rw [hv]; rfl)).trans hg, h4⟩
end Go.Proofs.Ytbnhemmklbbnmaa

/-! ## MapView -/
namespace Go.Proofs.Ytbnhemmklbbnmaa
open Go Go.Maps Go.RowKit Go.ChangeMaps

/-- An element reads as itself. -/
def asIs (v : Value) : Option (DataW Value × List MemPlace) := some (.held v, [])
def kl (q : Nat) : Lit := .int .u64 (q : Int)
theorem kl_ne {a b : Nat} (h : a ≠ b) : kl a ≠ kl b := by
  unfold kl
  intro e
  injection e with _ e
  exact h (by omega)
/-- Block b is a map of n entries; f says what it holds at each number. -/
structure Mv (P : Program) (t : TypeId) (w : World) (b n : Nat) (f : Nat → Option Value) : Prop where
  ex : ∃ D : DataW Value, w.ownsMap P t asIs b n D ∧ Tidy D ∧ Maps.size D = n ∧ ∀ k : Nat, Maps.has D (kl k) = (f k).isSome ∧ ∀ v, f k = some v → ∀ z, D.atKey (kl k) z = .held v
section
variable {P : Program} {t e : TypeId} {w w' : World} {b n : Nat} {f : Nat → Option Value}
theorem owns_exact {D : DataW Value} (h : w.ownsMap P t asIs b n D) : w.ownsMap P t asIs b (Maps.size D) D := by
  obtain ⟨es, clock, hb, F, hs, rfl⟩ := h
  exact ⟨es, clock, hb, F, by simp [Maps.size, length_sorted], rfl⟩
theorem Mv.kept (h : Mv P t w b n f) (hb : w'.heap[b]? = w.heap[b]?) : Mv P t w' b n f := by
  obtain ⟨D, ⟨es, clock, h1, h2⟩, h3⟩ := h.ex
  exact ⟨D, ⟨es, clock, hb.trans h1, h2⟩, h3⟩
theorem Mv.lt (h : Mv P t w b n f) : b < w.heap.size := by
  obtain ⟨D, h1, _⟩ := h.ex
  exact h1.lt
theorem Mv.made (P : Program) (t : TypeId) (w : World) : Mv P t (w.alloc (.map #[] 0)) w.heap.size 0 (fun _ => none) :=
  ⟨.map [], World.ownsMap_made w P t asIs, tidy_empty, rfl, fun k => ⟨rfl, fun v hv => by cases hv⟩⟩
theorem turned_only (h : w.mapTurned w' b) : Only (fun k => k = b) w w' := Only.of_grown h.grown (fun k e => by injection e)
theorem Mv.look2 {mt : TypeId} (h : Mv P t w b n f) (K : Keyed P t) (ht : P.underlying mt = some (.map t e)) {z : Value} (hz : (zeroValue e).run P w = .ok z w) {q : Nat} (hq : keyOf P t (.int .u64 (q : Int)) = some (kl q)) :
    (Instr.lookup mt (.map (some b)) (.int .u64 (q : Int)) true).run P w = .ok (.tuple #[(f q).getD z, .bool (f q).isSome]) w := by
  obtain ⟨D, h1, h2, h3, h4⟩ := h.ex
  obtain ⟨v, ps, hr, hv⟩ := h1.look_ok (R := asIs) K ht hz (zd := .held z) (zp := []) rfl hq
  rw [(h4 q).1] at hr
  rw [hr]
  have e1 : DataW.held v = D.atKey (kl q) (.held z) := by
    unfold asIs at hv
    injection hv with hv
    injection hv
  cases hf : f q with
  | none =>
    have h5 : Maps.has D (kl q) = false := by rw [(h4 q).1, hf]; rfl
    rw [atKey_of_not_has h5] at e1
    injection e1 with e1
    rw [e1]
    rfl
  | some u =>
    rw [(h4 q).2 u hf] at e1
    injection e1 with e1
    rw [e1]
    rfl
theorem Mv.look1 {mt : TypeId} (h : Mv P t w b n f) (K : Keyed P t) (ht : P.underlying mt = some (.map t e)) {z : Value} (hz : (zeroValue e).run P w = .ok z w) {q : Nat} (hq : keyOf P t (.int .u64 (q : Int)) = some (kl q)) :
    (Instr.lookup mt (.map (some b)) (.int .u64 (q : Int)) false).run P w = .ok ((f q).getD z) w := by
  obtain ⟨D, h1, h2, h3, h4⟩ := h.ex
  obtain ⟨v, ps, hr, hv⟩ := h1.lookup (R := asIs) K ht hz (zd := .held z) (zp := []) rfl hq
  rw [hr]
  have e1 : DataW.held v = D.atKey (kl q) (.held z) := by
    unfold asIs at hv
    injection hv with hv
    injection hv
  cases hf : f q with
  | none =>
    have h5 : Maps.has D (kl q) = false := by rw [(h4 q).1, hf]; rfl
    rw [atKey_of_not_has h5] at e1
    injection e1 with e1
    rw [e1]
    rfl
  | some u =>
    rw [(h4 q).2 u hf] at e1
    injection e1 with e1
    rw [e1]
    rfl
theorem key_lit (q : Nat) : WideAt.IsKeyLit (kl q) := trivial
def putF (f : Nat → Option Value) (q : Nat) (v : Value) : Nat → Option Value := fun k => if k = q then some v else f k
def delF (f : Nat → Option Value) (q : Nat) : Nat → Option Value := fun k => if k = q then none else f k
theorem Mv.store {mt : TypeId} (h : Mv P t w b n f) (K : Keyed P t) (ht : P.underlying mt = some (.map t e)) (hn : n < maxLen) {q : Nat} {v : Value} (hq : keyOf P t (.int .u64 (q : Int)) = some (kl q)) :
    ∃ w', (Instr.mapUpdate mt (.map (some b)) (.int .u64 (q : Int)) v).run P w = .ok () w' ∧ Mv P t w' b (if (f q).isSome then n else n + 1) (putF f q v) ∧ Only (fun k => k = b) w w' := by
  obtain ⟨D, h1, h2, h3, h4⟩ := h.ex
  obtain ⟨w', hr, ho, ht⟩ := h1.store (R := asIs) K ht hn (d := .held v) (ps := []) hq rfl
  have hs : Maps.size (D.put (kl q) (.held v)) = if (f q).isSome then n else n + 1 := by rw [size_put h2, h3, (h4 q).1]
  refine ⟨w', hr, ⟨D.put (kl q) (.held v), hs ▸ owns_exact ho, h2.put (key_lit q) _, hs, fun k => ?_⟩, turned_only ht⟩
  unfold putF
  by_cases e : k = q
  · subst e
    rw [if_pos rfl, has_put_same h2.isMap (key_lit k)]
    exact ⟨rfl, fun u hu z => by injection hu with hu; subst hu; exact atKey_put_same h2.isMap (key_lit k) _ _⟩
  · rw [if_neg e, has_put_other (kl_ne e)]
    exact ⟨(h4 k).1, fun u hu z => by rw [atKey_put_other (kl_ne e)]; exact (h4 k).2 u hu z⟩
theorem Mv.drop {mt : TypeId} (h : Mv P t w b n f) (K : Keyed P t) (ht : P.underlying mt = some (.map t e)) {q : Nat} (hq : keyOf P t (.int .u64 (q : Int)) = some (kl q)) (ty : TypeId) :
    ∃ w', (Builtin.delete_ #[mt, t] ty #[.map (some b), .int .u64 (q : Int)]).run P w = .ok (.tuple #[]) w' ∧ Mv P t w' b (if (f q).isSome then n - 1 else n) (delF f q) ∧ Only (fun k => k = b) w w' := by
  obtain ⟨D, h1, h2, h3, h4⟩ := h.ex
  obtain ⟨w', hr, ho, ht⟩ := h1.drop (R := asIs) K ht hq ty
  have hs : Maps.size (D.del (kl q)) = if (f q).isSome then n - 1 else n := by
    have h5 := size_del (k := kl q) h2
    rw [(h4 q).1, h3] at h5
    split at h5
    · rename_i h6; rw [if_pos h6]; omega
    · rename_i h6; rw [if_neg h6]; omega
  refine ⟨w', hr, ⟨D.del (kl q), hs ▸ owns_exact ho, h2.del _, hs, fun k => ?_⟩, turned_only ht⟩
  unfold delF
  by_cases e : k = q
  · subst e
    rw [if_pos rfl, has_del_same]
    exact ⟨rfl, fun u hu => by cases hu⟩
  · rw [if_neg e, has_del_other (kl_ne e)]
    exact ⟨(h4 k).1, fun u hu z => by rw [atKey_del_other (kl_ne e)]; exact (h4 k).2 u hu z⟩
theorem Mv.len {mt : TypeId} (h : Mv P t w b n f) (ht : P.underlying mt = some (.map t e)) (ty : TypeId) : (Builtin.len_ #[mt] ty #[.map (some b)]).run P w = .ok (.int .i64 (n : Int)) w := by
  obtain ⟨D, h1, h2, h3, h4⟩ := h.ex
  rw [h1.len ht ty, h3]
end
theorem key64 {P : Program} {t : TypeId} (ht : P.underlying t = some (.int .u64)) {q : Nat} (hq : q < 18446744073709551616) : keyOf P t (.int .u64 (q : Int)) = some (kl q) :=
  keyOf_int_mk ht (by unfold Lit.wf IntKind.min IntKind.max; simp [IntKind.signed, IntKind.bits]; omega)

/-! ### at the operation -/
section
variable {P : Program} (w : World) {ops : Array Oper} {rest : List Oper} {o : Oper} {a : Act} {Q : Exit → Act → World → Prop}
theorem wpList_mv2 (hg : o.guard = none) (m x : Operand) (mt : TypeId) (hop : o.op = Op.lookup mt m x true) (t e : TypeId) (K : Keyed P t) (ht : P.underlying mt = some (.map t e)) (z : Value) (hz : (zeroValue e).run P w = .ok z w) (b n : Nat) (f : Nat → Option Value)
    (hm : a.eval m = .map (some b)) (h : Mv P t w b n f) (q : Nat) (hx : a.eval x = .int .u64 (q : Int)) (hq : keyOf P t (.int .u64 (q : Int)) = some (kl q)) (v : Value) (ok : Bool) (hv : (f q).getD z = v) (hok : (f q).isSome = ok)
    (hK : wpList P ops Q rest (a.put o.dst (.tuple #[v, .bool ok])) w) : wpList P ops Q (o :: rest) a w := by
  refine wpList_plain hg fun K' hK' => ?_
  have hrun := h.look2 K ht hz hq
  rw [hv, hok] at hrun
  unfold Oper.wp
  simp [execOp, hop, hm, hx, hrun, Result.andThen]
  exact hK' _ _ hK
theorem wpList_mv1 (hg : o.guard = none) (m x : Operand) (mt : TypeId) (hop : o.op = Op.lookup mt m x false) (t e : TypeId) (K : Keyed P t) (ht : P.underlying mt = some (.map t e)) (z : Value) (hz : (zeroValue e).run P w = .ok z w) (b n : Nat) (f : Nat → Option Value)
    (hm : a.eval m = .map (some b)) (h : Mv P t w b n f) (q : Nat) (hx : a.eval x = .int .u64 (q : Int)) (hq : keyOf P t (.int .u64 (q : Int)) = some (kl q)) (v : Value) (hv : (f q).getD z = v)
    (hK : wpList P ops Q rest (a.put o.dst v) w) : wpList P ops Q (o :: rest) a w := by
  refine wpList_plain hg fun K' hK' => ?_
  have hrun := h.look1 K ht hz hq
  rw [hv] at hrun
  unfold Oper.wp
  simp [execOp, hop, hm, hx, hrun, Result.andThen]
  exact hK' _ _ hK
theorem wpList_mvPut (hg : o.guard = none) (m x v : Operand) (mt : TypeId) (hop : o.op = Op.mapUpdate mt m x v) (t e : TypeId) (K : Keyed P t) (ht : P.underlying mt = some (.map t e)) (b n : Nat) (f : Nat → Option Value)
    (hm : a.eval m = .map (some b)) (h : Mv P t w b n f) (hn : n < maxLen) (q : Nat) (val : Value) (hx : a.eval x = .int .u64 (q : Int)) (hv : a.eval v = val) (hq : keyOf P t (.int .u64 (q : Int)) = some (kl q))
    (hK : ∀ w', Mv P t w' b (if (f q).isSome then n else n + 1) (putF f q val) → Only (fun k => k = b) w w' → wpList P ops Q rest (a.put o.dst undef) w') : wpList P ops Q (o :: rest) a w := by
  refine wpList_plain hg fun K' hK' => ?_
  obtain ⟨w', hrun, r1, r2⟩ := h.store K ht hn (v := val) hq
  unfold Oper.wp
  simp [execOp, hop, hm, hx, hv, hrun, Result.andThen]
  exact hK' _ _ (hK w' r1 r2)
theorem wpList_mvDel (hg : o.guard = none) (m x : Operand) (mt t : TypeId) (hop : o.op = Op.call { callee := Callee.builtin Builtin.delete, args := #[m, x], argTypes := #[mt, t] }) (e : TypeId) (K : Keyed P t) (ht : P.underlying mt = some (.map t e)) (b n : Nat) (f : Nat → Option Value)
    (hm : a.eval m = .map (some b)) (h : Mv P t w b n f) (q : Nat) (hx : a.eval x = .int .u64 (q : Int)) (hq : keyOf P t (.int .u64 (q : Int)) = some (kl q))
    (hK : ∀ w', Mv P t w' b (if (f q).isSome then n - 1 else n) (delF f q) → Only (fun k => k = b) w w' → wpList P ops Q rest (a.put o.dst (.tuple #[])) w') : wpList P ops Q (o :: rest) a w := by
  refine wpList_plain hg fun K' hK' => ?_
  obtain ⟨w', hrun, r1, r2⟩ := h.drop K ht hq o.type
  unfold Oper.wp
  simp [execOp, hop, resolve, invoke, builtin, hm, hx, hrun, Result.andThen]
  exact hK' _ _ (hK w' r1 r2)
theorem wpList_mvLen (hg : o.guard = none) (m : Operand) (mt : TypeId) (hop : o.op = Op.call { callee := Callee.builtin Builtin.len, args := #[m], argTypes := #[mt] }) (t e : TypeId) (ht : P.underlying mt = some (.map t e)) (b n : Nat) (f : Nat → Option Value)
    (hm : a.eval m = .map (some b)) (h : Mv P t w b n f) (hK : wpList P ops Q rest (a.put o.dst (.int .i64 (n : Int))) w) : wpList P ops Q (o :: rest) a w := by
  refine wpList_plain hg fun K' hK' => ?_
  unfold Oper.wp
  simp [execOp, hop, resolve, invoke, builtin, hm, h.len ht o.type, Result.andThen]
  exact hK' _ _ hK
end
/-- .. in a region. -/
theorem oper_mvDel {P : Program} {w : World} {o : Oper} {a : Act} {K : Act → World → Prop} {Q : Exit → Act → World → Prop} (m x : Operand) (mt t : TypeId) (hop : o.op = Op.call { callee := Callee.builtin Builtin.delete, args := #[m, x], argTypes := #[mt, t] }) (e : TypeId) (Kd : Keyed P t) (ht : P.underlying mt = some (.map t e)) (b n : Nat) (f : Nat → Option Value)
    (hm : a.eval m = .map (some b)) (h : Mv P t w b n f) (q : Nat) (hx : a.eval x = .int .u64 (q : Int)) (hq : keyOf P t (.int .u64 (q : Int)) = some (kl q))
    (hK : ∀ w', Mv P t w' b (if (f q).isSome then n - 1 else n) (delF f q) → Only (fun k => k = b) w w' → K (a.put o.dst (.tuple #[])) w') : Oper.wp P o a w K Q := by
  obtain ⟨w', hrun, r1, r2⟩ := h.drop Kd ht hq o.type
  unfold Oper.wp
  simp [execOp, hop, resolve, invoke, builtin, hm, hx, hrun, Result.andThen]
  exact hK w' r1 r2
end Go.Proofs.Ytbnhemmklbbnmaa
