/-
  CONTRACTS of layer 5: a frame is read: atMost, getHello.
  No statement is proved here.
-/
import Derived.Test.YtlkcnpmgafckoaaDoorDecMath
import Derived.Test.YtlkcnpmgafckoaaDoorFrameOwn
import Derived.Test.YtlkcnpmgafckoaaDoorRegions
namespace Go.Proofs.YtlkcnpmgafckoaaDoor
open Go.RowKit

theorem oper_append_dstN {P : Program} {w : World} {o : Oper} {a : Act} {K : Act → World → Prop} {Q : Exit → Act → World → Prop} (s x : Operand) (t tx : TypeId)
    (ho : o.op = .call { callee := .builtin .append, args := #[s, x], argTypes := #[t, tx] })
    (base : Nat) (e : TypeId) (i : TypeInfo) (z : Value) (k bytes : Nat) (ht : P.underlying t = some (.slice e)) (hi : P.info? e = some i) (hz : i.zero = some z) (hsize : i.size = k) (hby : i.bytes = bytes) (hzc : z.cells.size = k)
    (A : Option Addr) (n c : Nat) (l : List Value) (hs : a.eval s = .slice A n c) (hd : DstN w base e A n c k l) (v : Value) (m : Nat) (news : List Value) (hx : a.eval x = v) (hsrc : Src P k tx v m news w)
    (hbytes : (n + m) * bytes ≤ 140737488355328) (h63 : n + m ≤ 140737488355328) (hbase : base ≤ w.heap.size)
    (h : ∀ A' c' w', DstN w' base e A' (n + m) c' k (l ++ news) → (0 < m → w'.ownsRow base e k (.slice A' (n + m) c') (n + m) (l ++ news)) →
      (w.ownsRow base e k (.slice A n c) n l → w'.ownsRow base e k (.slice A' (n + m) c') (n + m) (l ++ news)) → Below base w w' → w.grownBy w' (if n = c then none else (Value.slice A n c).ownBlock) → (A' = A ∨ ∃ b, A' = some ⟨b, 0, none⟩ ∧ w.heap.size ≤ b) →
      K (a.put o.dst (.slice A' (n + m) c')) w') : Oper.wp P o a w K Q := by
  obtain ⟨A', c', w', hr, h2, h3, h4, h5, h6, h7⟩ := run_append_dstN (P := P) w base t tx o.type e i z k bytes ht hi hz hsize hby hzc A n c l hd v m news hsrc hbytes h63 hbase
  unfold Oper.wp execOp
  simp only [ho, resolve, invoke, builtin, Sem.run_bind, Sem.run_pure, Result.andThen_ok, List.map_toArray, List.map_cons, List.map_nil, hs, hx, hr]
  exact h A' c' w' h2 h3 h4 h5 h6 h7

set_option maxHeartbeats 400000 in
theorem atMost_any {w : World} {g : Nat} {A : Option Addr} {n c er : Nat} {l : List UInt8} (h : InAt w g A n c er l) (most : Nat) (hm : most ≤ 64) :
    Calls Tryd.prog 69 #[.pointer (some ⟨g, 0, none⟩), .int .u64 (most : Int)] w (Told w g (.int .i64 ((stMost l er most).1 : Nat)) (stMost l er most).2.1 (stMost l er most).2.2) := by
  obtain ⟨⟨v, l1, e1⟩, hst⟩ : ∃ x, stNum l er = x := ⟨_, rfl⟩
  have c1 := inNum_any h
  rw [hst] at c1
  have C1 := Lib.hid c1
  by_cases hgt : most < v
  · have hs2 : stMost l er most = (0, l1, failN e1 2) := by unfold stMost; rw [hst, if_pos hgt]
    rw [hs2]
    have hI : (most : Int) < (v : Int) := by omega
    clear hst c1 hs2 hgt h
    go_enter Tryd.func69, Tryd.ntmps69
    go_wp2_with fail
    refine C1.out.mono ?_
    rintro e w2 ⟨A2, n2, c2, rfl, hin2, hgr2⟩
    have HI2 := Lib.hid hin2
    have HG2 := Lib.hid hgr2
    clear hin2 hgr2 C1
    go_wp2_with fail
    refine (fail_any HI2.out 2).mono ?_
    rintro e w3 ⟨A3, n3, c3, rfl, hin3, hgr3⟩
    have HI3 := Lib.hid hin3
    have HG3 := Lib.hid (only_trans HG2.out hgr3)
    clear hin3 hgr3
    go_wp2
    go_ret
    exact ⟨_, _, _, rfl, HI3.out, HG3.out⟩
  · have hs2 : stMost l er most = (v, l1, e1) := by unfold stMost; rw [hst, if_neg hgt]
    rw [hs2]
    have hI : ¬ (most : Int) < (v : Int) := by omega
    have hwk : IntKind.i64.wrap (v : Int) = (v : Int) := by rw [IntKind.wrap_i64]; omega
    clear hst c1 hs2 hgt h
    go_enter Tryd.func69, Tryd.ntmps69
    go_wp2_with fail
    refine C1.out.mono ?_
    rintro e w2 ⟨A2, n2, c2, rfl, hin2, hgr2⟩
    have HI2 := Lib.hid hin2
    have HG2 := Lib.hid hgr2
    clear hin2 hgr2 C1
    go_wp2
    go_ret
    exact ⟨_, _, _, rfl, HI2.out, HG2.out⟩

/-- A frame that is being read into block F, from the reader in block g; both stand in w0's successor: of w0 only g has turned. -/
structure Gt (w0 w : World) (g F : Nat) (k : Fv) (l : List UInt8) (er : Nat) : Prop where
  inn : ∃ A n c, InAt w g A n c er l
  blk : w.heap[F]? = some k.box
  lt : g < w0.heap.size
  le : w0.heap.size ≤ F
  gr : w0.grownBy w (some g)
  rs : w.ownsRow (F + 1) 77 2 (.slice k.Ar k.nr k.cr) k.nr (rvs k.L)
  its : w.ownsRow (F + 1) 58 3 (.slice k.Ai k.ni k.ci) k.ni (itvs k.ks)
  sl : ∀ x ∈ k.ks, w.ownsRow (F + 1) 5 1 (.slice x.q.A x.q.n x.q.c) x.q.n (cbs x.q.l) ∧ x.N < two64
  L : ∀ q ∈ k.L, q.1 < two64 ∧ q.2 < two64
  kd : k.kd < 256
  ag : -9223372036854775808 ≤ k.ag ∧ k.ag ≤ 9223372036854775807
  ep : k.ep < two64
  ic : k.ic < two64
  ba : k.ba < two64
  cu : k.cu < two64
  li : k.li < two64
theorem Gt.fl {w0 w : World} {g F : Nat} {k : Fv} {l : List UInt8} {er : Nat} (h : Gt w0 w g F k l er) : F < w.heap.size := (Array.getElem?_eq_some_iff.1 h.blk).1
theorem own_g {w w' : World} {base g : Nat} {e : TypeId} {s : Nat} {v : Value} {n : Nat} {xs : List Value} (h : w.ownsRow base e s v n xs) (hg : w.grownBy w' (some g)) (hlt : g < base) : w'.ownsRow base e s v n xs :=
  h.kept hg (by
    cases hv : v.ownBlock with
    | none => exact .inl rfl
    | some b => exact .inr (fun e => by have := (h.lt b hv).1; injection e with e; omega))
/-- The reader goes on. -/
theorem Gt.next {w0 w w' : World} {g F : Nat} {k : Fv} {l l' : List UInt8} {er er' : Nat} {A : Option Addr} {n c : Nat} (h : Gt w0 w g F k l er) (hin : InAt w' g A n c er' l') (hg : w.grownBy w' (some g)) : Gt w0 w' g F k l' er' :=
  have hgF : g < F + 1 := by have := h.lt; have := h.le; omega
  ⟨⟨A, n, c, hin⟩, only_block hg h.blk (fun e => by injection e with e; have := h.lt; have := h.le; omega), h.lt, h.le, only_trans h.gr hg, own_g h.rs hg hgF, own_g h.its hg hgF, fun x hx => ⟨own_g (h.sl x hx).1 hg hgF, (h.sl x hx).2⟩, h.L, h.kd, h.ag, h.ep, h.ic, h.ba, h.cu, h.li⟩
/-- A cell of the frame is written anew, one that holds no list. -/
theorem Gt.set {w0 w : World} {g F : Nat} {k : Fv} {l : List UInt8} {er : Nat} (h : Gt w0 w g F k l er) (i : Nat) (v : Value) (k' : Fv) (hb : (w.setCell ⟨F, i, none⟩ v).heap[F]? = some k'.box)
    (e1 : k'.Ar = k.Ar ∧ k'.nr = k.nr ∧ k'.cr = k.cr ∧ k'.L = k.L) (e2 : k'.Ai = k.Ai ∧ k'.ni = k.ni ∧ k'.ci = k.ci ∧ k'.ks = k.ks) (hkd : k'.kd < 256) (hag : -9223372036854775808 ≤ k'.ag ∧ k'.ag ≤ 9223372036854775807)
    (hep : k'.ep < two64) (hic : k'.ic < two64) (hba : k'.ba < two64) (hcu : k'.cu < two64) (hli : k'.li < two64) : Gt w0 (w.setCell ⟨F, i, none⟩ v) g F k' l er := by
  obtain ⟨A, n, c, hin⟩ := h.inn
  have hgF : g < F := by have := h.lt; have := h.le; omega
  refine ⟨⟨A, n, c, hin.kept (only_set w F i v) (fun k hk => by injection hk; omega)⟩, hb, h.lt, h.le, only_new h.gr h.le rfl, ?_, ?_, ?_, ?_, hkd, hag, hep, hic, hba, hcu, hli⟩
  · rw [e1.1, e1.2.1, e1.2.2.1, e1.2.2.2]; exact own_otherN v h.rs (show F < F + 1 by omega)
  · rw [e2.1, e2.2.1, e2.2.2.1, e2.2.2.2]; exact own_otherN v h.its (show F < F + 1 by omega)
  · rw [e2.2.2.2]; exact fun x hx => ⟨own_otherN v (h.sl x hx).1 (show F < F + 1 by omega), (h.sl x hx).2⟩
  · rw [e1.2.2.2]; exact h.L
end Go.Proofs.YtlkcnpmgafckoaaDoor
