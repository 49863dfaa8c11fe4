/-
  WORDS for memory of which only named blocks have turned; a method of a value called through a pointer; an append in a region.
  No statement is proved here; it holds for every program.
-/
import Derived.Test.YthhmgbeigeagdaaCells
import Derived.Test.YthhmgbeigeagdaaEver
import Derived.Test.YthhmgbeigeagdaaRegions
import Derived.Deep.RegionHeld3
import Derived.WalkSmall
namespace Go.Proofs.Ythhmgbeigeagdaa
open Go.RowKit

/-- The world put aside: what is left of it is Q. -/
theorem absW {K : Act → World → Prop} {t : Act} {W : World} {Q : World → Prop} (hq : Q W) (k : ∀ wa, Q wa → K t wa) : K t W := k W hq

theorem grown_trans {a b c : World} {r : Option Nat} (h : a.grownBy b r) (k : b.grownBy c r) : a.grownBy c r :=
  ⟨k.os.trans h.os, k.tape.trans h.tape, k.output.trans h.output, Nat.le_trans h.size k.size, fun i hi hr => (k.block i (Nat.lt_of_lt_of_le hi h.size) hr).trans (h.block i hi hr)⟩
theorem grown_drew {a b : World} {r : Option Nat} (h : a.grownBy b r) : a.grownBy b.drew r := ⟨h.os, h.tape, h.output, h.size, h.block⟩
theorem run_wrapchk {P : Program} {t : TypeId} {a : Addr} {w : World} (x y : String) : (Builtin.ssaWrapNilChk_ #[t] t #[.pointer (some a), strVal x, strVal y]).run P w = .ok (.pointer (some a)) w := rfl
/-- A method of a value, called through an interface that holds a pointer to it. -/
theorem method_ptr {P : Program} {t et : TypeId} {f : FuncId} {name : String} {fuel : Nat} {a : Addr} {w : World} {v : Value}
    (hM : (P.info? t).bind (fun I => (I.methods.find? (·.name == name)).map (fun m => (m.path, m.func))) = some (#[], some (f, false)))
    (hu : P.underlying t = some (.pointer et)) (hl : (loadVar et a).run P w = .ok v w) :
    (method (fuel + 1) t (.pointer (some a)) name).run P w = .ok (f, v) w := by
  cases hI : P.info? t with
  | none => rw [hI] at hM; cases hM
  | some I =>
    rw [hI] at hM
    cases hm : I.methods.find? (·.name == name) with
    | none => simp [hm] at hM
    | some m =>
      simp [hm] at hM
      obtain ⟨h1, h2⟩ := hM
      simp [method, typeInfo, hI, hm, h1, h2, follow, receiverAt, run_underlying hu, Place.get, run_wrapchk, hl, asAddr]
theorem below_grown {w w' : World} (hb : RowKit.Below w.heap.size w w') (r : Option Nat) : w.grownBy w' r := ⟨hb.os, hb.tape, hb.output, hb.size, fun k hk _ => hb.block k hk⟩
theorem oper_append_dstN {P : Program} {w : World} {o : Oper} {a : Act} {K : Act → World → Prop} {Q : Exit → Act → World → Prop} (s x : Operand) (t tx : TypeId)
    (ho : o.op = .call { callee := .builtin .append, args := #[s, x], argTypes := #[t, tx] })
    (base : Nat) (e : TypeId) (i : TypeInfo) (z : Value) (k bytes : Nat) (ht : P.underlying t = some (.slice e)) (hi : P.info? e = some i) (hz : i.zero = some z) (hsize : i.size = k) (hby : i.bytes = bytes) (hzc : z.cells.size = k)
    (A : Option Addr) (n c : Nat) (l : List Value) (hs : a.eval s = .slice A n c) (hd : DstN w base e A n c k l) (v : Value) (m : Nat) (news : List Value) (hx : a.eval x = v) (hsrc : Src P k tx v m news w)
    (hbytes : (n + m) * bytes ≤ 140737488355328) (h63 : n + m ≤ 140737488355328) (hbase : base ≤ w.heap.size)
    (h : ∀ A' c' w', DstN w' base e A' (n + m) c' k (l ++ news) → (0 < m → w'.ownsRow base e k (.slice A' (n + m) c') (n + m) (l ++ news)) →
      (w.ownsRow base e k (.slice A n c) n l → w'.ownsRow base e k (.slice A' (n + m) c') (n + m) (l ++ news)) → Below base w w' → w.grownBy w' (if n = c then none else (Value.slice A n c).ownBlock) → (A' = A ∨ ∃ b, A' = some ⟨b, 0, none⟩ ∧ w.heap.size ≤ b) →
      K (a.put o.dst (.slice A' (n + m) c')) w') : Oper.wp P o a w K Q := by
  obtain ⟨A', c', w', hr, h2, h3, h4, h5, h6, h7⟩ := run_append_dstN (P := P) w base t tx o.type e i z k bytes ht hi hz hsize hby hzc A n c l hd v m news hsrc hbytes h63 hbase
  unfold Oper.wp execOp
  simp only [ho, resolve, invoke, builtin, Sem.run_bind, Sem.run_pure, Result.andThen_ok, List.map_toArray, List.map_cons, List.map_nil, hs, hx, hr]
  exact h A' c' w' h2 h3 h4 h5 h6 h7

/-- Only blocks of S have turned, of those that were there. -/
structure Only (S : Nat → Prop) (w w' : World) : Prop where
  os : w'.os = w.os
  tape : w'.tape = w.tape
  output : w'.output = w.output
  size : w.heap.size ≤ w'.heap.size
  block : ∀ k, k < w.heap.size → ¬ S k → w'.heap[k]? = w.heap[k]?
theorem Only.refl (S : Nat → Prop) (w : World) : Only S w w := ⟨rfl, rfl, rfl, Nat.le_refl _, fun _ _ _ => rfl⟩
theorem Only.trans {S S2 : Nat → Prop} {a b c : World} (h : Only S a b) (k : Only S2 b c) (hs : ∀ i, i < a.heap.size → S2 i → S i) : Only S a c :=
  ⟨k.os.trans h.os, k.tape.trans h.tape, k.output.trans h.output, Nat.le_trans h.size k.size, fun i hi hn => (k.block i (Nat.lt_of_lt_of_le hi h.size) (fun e => hn (hs i hi e))).trans (h.block i hi hn)⟩
theorem Only.of_below {S : Nat → Prop} {w w' : World} (h : RowKit.Below w.heap.size w w') : Only S w w' := ⟨h.os, h.tape, h.output, h.size, fun k hk _ => h.block k hk⟩
theorem Only.of_grown {S : Nat → Prop} {w w' : World} {r : Option Nat} (h : w.grownBy w' r) (hr : ∀ k, some k = r → S k) : Only S w w' := ⟨h.os, h.tape, h.output, h.size, fun k hk hn => h.block k hk (fun e => hn (hr k e))⟩
theorem Only.mono {S S2 : Nat → Prop} {w w' : World} (h : Only S w w') (hs : ∀ i, i < w.heap.size → S i → S2 i) : Only S2 w w' := ⟨h.os, h.tape, h.output, h.size, fun k hk hn => h.block k hk (fun e => hn (hs k hk e))⟩
theorem Only.setCell (w : World) (g o : Nat) (v : Value) : Only (fun k => k = g) w (w.setCell ⟨g, o, none⟩ v) := ⟨rfl, rfl, rfl, by simp, fun k _ hn => RowKit.Below.heap_setCell w ⟨g, o, none⟩ v k hn⟩
/-- The row where it was, or in a new block. -/
def Near (w : World) (A A' : Option Addr) : Prop := A' = A ∨ ∃ b, A' = some ⟨b, 0, none⟩ ∧ w.heap.size ≤ b
theorem own_block (A : Option Addr) (n c n' c' : Nat) : (Value.slice A n c).ownBlock = (Value.slice A n' c').ownBlock := by cases A <;> rfl
theorem Near.of {w w2 : World} {A A' : Option Addr} (h : Near w2 A A') (hs : w.heap.size ≤ w2.heap.size) : Near w A A' := by
  rcases h with h | ⟨b, h1, h2⟩
  · exact .inl h
  · exact .inr ⟨b, h1, Nat.le_trans hs h2⟩
theorem own_same {w w' : World} {base k n : Nat} {e : TypeId} {v : Value} {xs : List Value} (h : w.ownsRow base e k v n xs) (hb : ∀ b, v.ownBlock = some b → w'.heap[b]? = w.heap[b]?) : w'.ownsRow base e k v n xs := by
  refine ⟨h.1, ?_⟩
  rcases h.2 with h2 | ⟨g, cap, cur, hv, h3, hg, h4⟩
  · exact .inl h2
  · exact .inr ⟨g, cap, cur, hv, h3, (hb g (by rw [hv]; rfl)).trans hg, h4⟩
end Go.Proofs.Ythhmgbeigeagdaa
