/-
  CONTRACTS of the reference of layer 5: Bytes, Encode.
  No statement is proved here.
-/
import Derived.Test.YtlkcnpmgafckoaaDoorRefRight
import Derived.Test.YtlkcnpmgafckoaaDoorFrameOwn
import Derived.Test.YtlkcnpmgafckoaaDoorFrameInj
import Derived.Deep.DeepCutAuto
namespace Go.Proofs.YtlkcnpmgafckoaaDoor
open Go.RowKit

theorem absA {K : Act → World → Prop} {t : Act} {W : World} {o : Obj} (k : ∀ wa, wa = W.alloc o → K t wa) : K t (W.alloc o) := k _ rfl
theorem below_of {W wa : World} {o : Obj} (h : wa = W.alloc o) : Below W.heap.size W wa := by subst h; exact below_box W o
theorem ever_lit {W wa : World} {k : UInt8} {v : Value} {t : TypeId} (h : wa = W.alloc (.cells #[v] t)) (hv : v = cb k) : Ever (fun w' => Sl w' w'.heap.size (some ⟨W.heap.size, 0, none⟩) 1 1 [k]) wa := by subst h; exact ever_sl (kind_lit W t hv)

theorem joinL2 {W wa : World} {t : TypeId} {A1 A2 : Option Addr} {n1 c1 n2 c2 : Nat} {l1 l2 : List UInt8} (h : wa = W.alloc (.cells #[.slice A1 n1 c1, .slice A2 n2 c2] t)) (h1 : Sl wa wa.heap.size A1 n1 c1 l1) (h2 : Sl wa wa.heap.size A2 n2 c2 l2) (hb : (l1 ++ (l2)).length ≤ 1000000) :
    Calls Tryd.prog 21 #[.slice (some ⟨W.heap.size, 0, none⟩) 2 2] wa (Fresh wa (l1 ++ (l2))) := by
  have e : cat [⟨A1, n1, c1, l1⟩, ⟨A2, n2, c2, l2⟩] = l1 ++ (l2) := by simp [cat]
  have hblk : wa.heap[W.heap.size]? = some (.cells #[.slice A1 n1 c1, .slice A2 n2 c2] t (0, 0)) := by rw [h]; exact heap_alloc_new W _
  have h9 := join_any wa W.heap.size [⟨A1, n1, c1, l1⟩, ⟨A2, n2, c2, l2⟩] (fun j p hp => by
    rw [cell_of_row wa _ j _ _ _ hblk]
    rcases j with _ | _ | j
    · simp at hp; subst hp; rfl
    · simp at hp; subst hp; rfl
    · simp at hp) (by rw [h]; simp) (fun p hp => by simp at hp; rcases hp with rfl | rfl <;> first | exact h1 | exact h2) (by simp) (by rw [e]; exact hb)
  rw [e] at h9
  exact h9

theorem joinL3 {W wa : World} {t : TypeId} {A1 A2 A3 : Option Addr} {n1 c1 n2 c2 n3 c3 : Nat} {l1 l2 l3 : List UInt8} (h : wa = W.alloc (.cells #[.slice A1 n1 c1, .slice A2 n2 c2, .slice A3 n3 c3] t)) (h1 : Sl wa wa.heap.size A1 n1 c1 l1) (h2 : Sl wa wa.heap.size A2 n2 c2 l2) (h3 : Sl wa wa.heap.size A3 n3 c3 l3) (hb : (l1 ++ (l2 ++ (l3))).length ≤ 1000000) :
    Calls Tryd.prog 21 #[.slice (some ⟨W.heap.size, 0, none⟩) 3 3] wa (Fresh wa (l1 ++ (l2 ++ (l3)))) := by
  have e : cat [⟨A1, n1, c1, l1⟩, ⟨A2, n2, c2, l2⟩, ⟨A3, n3, c3, l3⟩] = l1 ++ (l2 ++ (l3)) := by simp [cat]
  have hblk : wa.heap[W.heap.size]? = some (.cells #[.slice A1 n1 c1, .slice A2 n2 c2, .slice A3 n3 c3] t (0, 0)) := by rw [h]; exact heap_alloc_new W _
  have h9 := join_any wa W.heap.size [⟨A1, n1, c1, l1⟩, ⟨A2, n2, c2, l2⟩, ⟨A3, n3, c3, l3⟩] (fun j p hp => by
    rw [cell_of_row wa _ j _ _ _ hblk]
    rcases j with _ | _ | _ | j
    · simp at hp; subst hp; rfl
    · simp at hp; subst hp; rfl
    · simp at hp; subst hp; rfl
    · simp at hp) (by rw [h]; simp) (fun p hp => by simp at hp; rcases hp with rfl | rfl | rfl <;> first | exact h1 | exact h2 | exact h3) (by simp) (by rw [e]; exact hb)
  rw [e] at h9
  exact h9

theorem joinL4 {W wa : World} {t : TypeId} {A1 A2 A3 A4 : Option Addr} {n1 c1 n2 c2 n3 c3 n4 c4 : Nat} {l1 l2 l3 l4 : List UInt8} (h : wa = W.alloc (.cells #[.slice A1 n1 c1, .slice A2 n2 c2, .slice A3 n3 c3, .slice A4 n4 c4] t)) (h1 : Sl wa wa.heap.size A1 n1 c1 l1) (h2 : Sl wa wa.heap.size A2 n2 c2 l2) (h3 : Sl wa wa.heap.size A3 n3 c3 l3) (h4 : Sl wa wa.heap.size A4 n4 c4 l4) (hb : (l1 ++ (l2 ++ (l3 ++ (l4)))).length ≤ 1000000) :
    Calls Tryd.prog 21 #[.slice (some ⟨W.heap.size, 0, none⟩) 4 4] wa (Fresh wa (l1 ++ (l2 ++ (l3 ++ (l4))))) := by
  have e : cat [⟨A1, n1, c1, l1⟩, ⟨A2, n2, c2, l2⟩, ⟨A3, n3, c3, l3⟩, ⟨A4, n4, c4, l4⟩] = l1 ++ (l2 ++ (l3 ++ (l4))) := by simp [cat]
  have hblk : wa.heap[W.heap.size]? = some (.cells #[.slice A1 n1 c1, .slice A2 n2 c2, .slice A3 n3 c3, .slice A4 n4 c4] t (0, 0)) := by rw [h]; exact heap_alloc_new W _
  have h9 := join_any wa W.heap.size [⟨A1, n1, c1, l1⟩, ⟨A2, n2, c2, l2⟩, ⟨A3, n3, c3, l3⟩, ⟨A4, n4, c4, l4⟩] (fun j p hp => by
    rw [cell_of_row wa _ j _ _ _ hblk]
    rcases j with _ | _ | _ | _ | j
    · simp at hp; subst hp; rfl
    · simp at hp; subst hp; rfl
    · simp at hp; subst hp; rfl
    · simp at hp; subst hp; rfl
    · simp at hp) (by rw [h]; simp) (fun p hp => by simp at hp; rcases hp with rfl | rfl | rfl | rfl <;> first | exact h1 | exact h2 | exact h3 | exact h4) (by simp) (by rw [e]; exact hb)
  rw [e] at h9
  exact h9

theorem joinL5 {W wa : World} {t : TypeId} {A1 A2 A3 A4 A5 : Option Addr} {n1 c1 n2 c2 n3 c3 n4 c4 n5 c5 : Nat} {l1 l2 l3 l4 l5 : List UInt8} (h : wa = W.alloc (.cells #[.slice A1 n1 c1, .slice A2 n2 c2, .slice A3 n3 c3, .slice A4 n4 c4, .slice A5 n5 c5] t)) (h1 : Sl wa wa.heap.size A1 n1 c1 l1) (h2 : Sl wa wa.heap.size A2 n2 c2 l2) (h3 : Sl wa wa.heap.size A3 n3 c3 l3) (h4 : Sl wa wa.heap.size A4 n4 c4 l4) (h5 : Sl wa wa.heap.size A5 n5 c5 l5) (hb : (l1 ++ (l2 ++ (l3 ++ (l4 ++ (l5))))).length ≤ 1000000) :
    Calls Tryd.prog 21 #[.slice (some ⟨W.heap.size, 0, none⟩) 5 5] wa (Fresh wa (l1 ++ (l2 ++ (l3 ++ (l4 ++ (l5)))))) := by
  have e : cat [⟨A1, n1, c1, l1⟩, ⟨A2, n2, c2, l2⟩, ⟨A3, n3, c3, l3⟩, ⟨A4, n4, c4, l4⟩, ⟨A5, n5, c5, l5⟩] = l1 ++ (l2 ++ (l3 ++ (l4 ++ (l5)))) := by simp [cat]
  have hblk : wa.heap[W.heap.size]? = some (.cells #[.slice A1 n1 c1, .slice A2 n2 c2, .slice A3 n3 c3, .slice A4 n4 c4, .slice A5 n5 c5] t (0, 0)) := by rw [h]; exact heap_alloc_new W _
  have h9 := join_any wa W.heap.size [⟨A1, n1, c1, l1⟩, ⟨A2, n2, c2, l2⟩, ⟨A3, n3, c3, l3⟩, ⟨A4, n4, c4, l4⟩, ⟨A5, n5, c5, l5⟩] (fun j p hp => by
    rw [cell_of_row wa _ j _ _ _ hblk]
    rcases j with _ | _ | _ | _ | _ | j
    · simp at hp; subst hp; rfl
    · simp at hp; subst hp; rfl
    · simp at hp; subst hp; rfl
    · simp at hp; subst hp; rfl
    · simp at hp; subst hp; rfl
    · simp at hp) (by rw [h]; simp) (fun p hp => by simp at hp; rcases hp with rfl | rfl | rfl | rfl | rfl <;> first | exact h1 | exact h2 | exact h3 | exact h4 | exact h5) (by simp) (by rw [e]; exact hb)
  rw [e] at h9
  exact h9

theorem itsB_long : ∀ xs : List It, (∀ x ∈ xs, x.N < two64 ∧ x.b.length ≤ 4096) → (itsB xs).length ≤ xs.length * 4200
  | [], _ => Nat.le_refl _
  | x :: xs, h => by
    have ih := itsB_long xs (fun y hy => h y (List.mem_cons_of_mem _ hy))
    obtain ⟨h1, h2⟩ := h x List.mem_cons_self
    have e := congrArg List.length (itsB_cons x xs [])
    simp only [List.append_nil, List.length_append] at e
    have h3 := num_len10 x.N h1
    have h4 := num_len10 x.b.length (by unfold two64; omega)
    have h5 : (itemB x.N x.C x.b).length ≤ 4200 := by unfold itemB spanB byts; simp only [List.length_append, List.length_cons]; omega
    rw [e, List.length_cons]
    omega
theorem runsB_long : ∀ xs : List Rn, (∀ x ∈ xs, x.1 < two64 ∧ x.2 < two64) → (runsB xs).length ≤ xs.length * 20
  | [], _ => Nat.le_refl _
  | x :: xs, h => by
    have ih := runsB_long xs (fun y hy => h y (List.mem_cons_of_mem _ hy))
    obtain ⟨h1, h2⟩ := h x List.mem_cons_self
    have e := congrArg List.length (runsB_cons x xs [])
    simp only [List.append_nil, List.length_append] at e
    have h3 := num_len10 x.1 h1
    have h4 := num_len10 x.2 h2
    rw [e, List.length_cons]
    omega
theorem its_cut (H : List UInt8) (xs : List It) (j : Nat) : (H ++ itsB (xs.take j)).length ≤ (H ++ itsB xs).length := by
  have := congrArg List.length (itsB_split xs j)
  simp only [List.length_append] at this ⊢
  omega
theorem runsB_split (xs : List Rn) (j : Nat) : runsB xs = runsB (xs.take j) ++ runsB (xs.drop j) := by
  unfold runsB
  rw [← List.flatMap_append, List.take_append_drop]
theorem runs_cut (H : List UInt8) (xs : List Rn) (j : Nat) : (H ++ runsB (xs.take j)).length ≤ (H ++ runsB xs).length := by
  have := congrArg List.length (runsB_split xs j)
  simp only [List.length_append] at this ⊢
  omega
/-- What stays while bytes are made of a frame: its variable, its lists. -/
def BPs (w : World) (g : Nat) (f : Fv) (w' : World) : Prop := (w'.cell? ⟨g, 0, none⟩ = some (.int .i64 (f.kd : Int)) ∧ w'.cell? ⟨g, 1, none⟩ = some (.int .i64 f.ag) ∧ w'.cell? ⟨g, 2, none⟩ = some (.int .u64 (f.ep : Int)) ∧ w'.cell? ⟨g, 3, none⟩ = some (.int .u64 (f.ic : Int)) ∧ w'.cell? ⟨g, 4, none⟩ = some (.int .u64 (f.ba : Int)) ∧ w'.cell? ⟨g, 5, none⟩ = some (.int .u64 (f.cu : Int)) ∧ w'.cell? ⟨g, 6, none⟩ = some (.int .u64 (f.li : Int)) ∧ w'.cell? ⟨g, 7, none⟩ = some (.slice f.Ar f.nr f.cr) ∧ w'.cell? ⟨g, 8, none⟩ = some (.slice f.Ai f.ni f.ci)) ∧ FrAt w' f ∧ Below w.heap.size w w'
/-- The bytes so far. -/
def BCut (w : World) (g : Nat) (f : Fv) (H : List UInt8) (v : Value) (wx : World) : Prop := ∃ A n c, v = .slice A n c ∧ Ever (fun w' => Sl w' w'.heap.size A n c H) wx ∧ Ever (BPs w g f) wx
def BLoop (w : World) (g : Nat) (f : Fv) (B : Nat → List UInt8) (N gk : Nat) (i v : Value) (wx : World) : Prop := ∃ j, gk + j = N ∧ i = .int .i64 (j : Int) ∧ BCut w g f (B j) v wx
theorem bps_start (w : World) (f : Fv) (h : FrAt w f) : Ever (BPs w w.heap.size f) (w.alloc (.cells #[.int .i64 (f.kd : Int), .int .i64 f.ag, .int .u64 (f.ep : Int), .int .u64 (f.ic : Int), .int .u64 (f.ba : Int), .int .u64 (f.cu : Int), .int .u64 (f.li : Int), .slice f.Ar f.nr f.cr, .slice f.Ai f.ni f.ci] 33)) := fun w' hb => by
  have hbx := below_box w (.cells #[.int .i64 (f.kd : Int), .int .i64 f.ag, .int .u64 (f.ep : Int), .int .u64 (f.ic : Int), .int .u64 (f.ba : Int), .int .u64 (f.cu : Int), .int .u64 (f.li : Int), .slice f.Ar f.nr f.cr, .slice f.Ai f.ni f.ci] 33)
  have hb2 : Below w.heap.size w w' := hbx.trans (hb.mono hbx.size)
  have hblk : w'.heap[w.heap.size]? = some (.cells #[.int .i64 (f.kd : Int), .int .i64 f.ag, .int .u64 (f.ep : Int), .int .u64 (f.ic : Int), .int .u64 (f.ba : Int), .int .u64 (f.cu : Int), .int .u64 (f.li : Int), .slice f.Ar f.nr f.cr, .slice f.Ai f.ni f.ci] 33 (0, 0)) := (hb.block w.heap.size (by simp)).trans (heap_alloc_new w _)
  have q : ∀ i, w'.cell? ⟨w.heap.size, i, none⟩ = (#[Value.int .i64 (f.kd : Int), .int .i64 f.ag, .int .u64 (f.ep : Int), .int .u64 (f.ic : Int), .int .u64 (f.ba : Int), .int .u64 (f.cu : Int), .int .u64 (f.li : Int), .slice f.Ar f.nr f.cr, .slice f.Ai f.ni f.ci] : Array Value)[i]? := fun i => cell_of_row w' _ i _ _ _ hblk
  exact ⟨⟨q 0, q 1, q 2, q 3, q 4, q 5, q 6, q 7, q 8⟩, h.on hb2, hb2⟩
theorem bytes_done {w wx wz : World} {g : Nat} {f : Fv} {A : Option Addr} {n c : Nat} {B : List UInt8} (hE : Ever (BPs w g f) wx) (ho : wz.ownsRow wx.heap.size 5 1 (.slice A n c) n (cbs B)) (hb : Below wx.heap.size wx wz) (hB : B = encB f.m) : Fresh w (encB f.m) (.returned (.slice A n c)) wz := by
  subst hB
  exact ⟨A, n, c, rfl, own_lower ho hE.now.2.2.size, hE.now.2.2.trans (hb.mono hE.now.2.2.size)⟩


set_option maxRecDepth 100000 in
set_option maxHeartbeats 4000000 in
theorem refBytes5_any (w : World) (f : Fv) (h : FrAt w f) (hr : RightP f.m) :
    Calls Tryd.prog 36 #[f.r] w (Fresh w (encB f.m)) := by
  obtain ⟨hnr, hni, hbo⟩ := right_bounds h hr
  have hkd := h.kd
  obtain ⟨a, ha⟩ : ∃ a : Nat, f.ag = (a : Int) := ⟨f.ag.toNat, by have : 0 ≤ f.ag := hr.1; omega⟩
  have ha16 : a < 16 := by have : f.ag < 16 := hr.2.1; omega
  have HKV : Hid (Value.int .u8 (f.kd : Int) = cb (UInt8.ofNat f.kd)) := by
    show _ = Value.int .u8 _
    rw [UInt8.toNat_ofNat', Nat.mod_eq_of_lt hkd]
  have hwk : IntKind.u8.wrap (f.kd : Int) = (f.kd : Int) := by rw [IntKind.wrap_u8]; omega
  have hwa : IntKind.u64.wrap f.ag = (a : Int) := by rw [IntKind.wrap_u64, ha]; omega
  have hwr : IntKind.u64.wrap (f.nr : Int) = (f.nr : Int) := by rw [IntKind.wrap_u64]; omega
  have hwi : IntKind.u64.wrap (f.ni : Int) = (f.ni : Int) := by rw [IntKind.wrap_u64]; omega
  have HA64 : Hid (a < two64) := by show _ < _; unfold two64; omega
  have HR64 : Hid (f.nr < two64) := by show _ < _; unfold two64; omega
  have HI64 : Hid (f.ni < two64) := by show _ < _; unfold two64; omega
  have HOK := Lib.hid h.ok
  have HLR := Lib.hid h.rs.len
  have HLI := Lib.hid h.it.len
  obtain ⟨H, HH⟩ : ∃ H, Hid (H = [UInt8.ofNat f.kd] ++ (num a ++ num f.ep)) := ⟨_, rfl⟩
  have HINN : Hid (innerB f.m = H ++ tailB f.m) := by
    rw [HH.out]
    show [UInt8.ofNat f.kd] ++ numsB [f.ag.toNat, f.ep] ++ tailB f.m = _
    rw [ha, List.append_assoc, numsB_cons, numsB_cons, numsB_nil, List.append_assoc, List.append_assoc]
    rfl
  have hHl : H.length ≤ 21 := by
    have h1 := num_len10 a HA64.out
    have h2 := num_len10 f.ep HOK.out.ep
    rw [HH.out]
    simp only [List.length_append, List.length_cons, List.length_nil]
    omega
  have HITS : Hid ((itsB (f.ks.map Ik.it)).length ≤ 64 * 4200) := by
    have h1 := itsB_long (f.ks.map Ik.it) (fun x hx => ⟨HOK.out.its x hx, by obtain ⟨k, hk, rfl⟩ := List.mem_map.1 hx; exact hbo k hk⟩)
    rw [List.length_map] at h1
    have := HLI.out
    show _ ≤ _
    omega
  have HRNS : Hid ((runsB f.L).length ≤ 32 * 20) := by
    have h1 := runsB_long f.L HOK.out.L
    have := HLR.out
    show _ ≤ _
    omega
  have HKS : Hid (f.kd = 1 ∨ f.kd = 2 ∨ f.kd = 3 ∨ f.kd = 4) := by
    show _ ∨ _
    rcases hr.2.2.2 with h | h | h
    · have : f.kd = 1 := h.1; omega
    · have : f.kd = 2 ∨ f.kd = 4 := h.1; omega
    · have : f.kd = 3 := h.1; omega
  have HF := Lib.hid h
  have HBO := Lib.hid hbo
  clear h hr hbo hkd ha
  unfold Fv.r
  go_enter Tryd.func36, Tryd.ntmps36
  go_upto_region 1 with fail
  have hE := bps_start w f HF.out
  obtain ⟨g, hg⟩ : ∃ g, g = w.heap.size := ⟨_, rfl⟩
  rw [← hg] at hE ⊢
  clear hg
  generalize (w.alloc (.cells #[.int .i64 (f.kd : Int), .int .i64 f.ag, .int .u64 (f.ep : Int), .int .u64 (f.ic : Int), .int .u64 (f.ba : Int), .int .u64 (f.cu : Int), .int .u64 (f.li : Int), .slice f.Ar f.nr f.cr, .slice f.Ai f.ni f.ci] 33)) = w1 at *
  go_cut [3] (fun v wx => BCut w g f H v wx)
  case first =>
    have hE2 := hE.drewN 1
    refine wp_region_noPanic ?_
    refine wp_region_held_drew (S := (fun w' => (w'.cell? ⟨g, 0, none⟩ = some (.int .i64 (f.kd : Int)) ∧ w'.cell? ⟨g, 1, none⟩ = some (.int .i64 f.ag) ∧ w'.cell? ⟨g, 2, none⟩ = some (.int .u64 (f.ep : Int)) ∧ w'.cell? ⟨g, 3, none⟩ = some (.int .u64 (f.ic : Int)) ∧ w'.cell? ⟨g, 4, none⟩ = some (.int .u64 (f.ba : Int)) ∧ w'.cell? ⟨g, 5, none⟩ = some (.int .u64 (f.cu : Int)) ∧ w'.cell? ⟨g, 6, none⟩ = some (.int .u64 (f.li : Int)) ∧ w'.cell? ⟨g, 7, none⟩ = some (.slice f.Ar f.nr f.cr) ∧ w'.cell? ⟨g, 8, none⟩ = some (.slice f.Ai f.ni f.ci)) ∧ Ever (BPs w g f) w')) (by kernel_rfl) ⟨hE2.now.1, hE2⟩ (fun hHeld => ?_)
    refine wpAnyH_take (i := 0) (oi := { dst := some 8, op := Op.fieldAddr 33 (Operand.tmp 1) 0, type := 0, pos := "ref.go:49", after := #[], guard := none }) (v := ?_) rfl (by kernel_rfl) (by kernel_rfl) (by kernel_rfl) (fun _ _ _ h => h) (Or.inl ⟨by rfl, ?_⟩) (by assumption) ?_
    rotate_left
    · intro w hSw; (try dsimp only at hSw); first | (go_simp; done) | (go_simp; with_reducible rfl)
    try simp only [Act.put, List.setIfInBounds_toArray, List.set_cons_zero, List.set_cons_succ]
    refine wpAnyH_take (i := 1) (oi := { dst := some 9, op := Op.load 3 (Operand.tmp 8), type := 3, pos := "ref.go:49", after := #[{ on := 0, ground := Ground.data }], guard := none }) (v := ?_) rfl (by kernel_rfl) (by kernel_rfl) (by kernel_rfl) (fun _ _ _ h => h) (Or.inl ⟨by rfl, ?_⟩) (by assumption) ?_
    rotate_left
    · intro w hSw; (try dsimp only at hSw); first | (go_simp; done) | (go_simp; with_reducible rfl)
    try simp only [Act.put, List.setIfInBounds_toArray, List.set_cons_zero, List.set_cons_succ]
    refine wpAnyH_take (i := 2) (oi := { dst := some 10, op := Op.convert 3 5 (Operand.tmp 9), type := 5, pos := "ref.go:49", after := #[{ on := 1, ground := Ground.data }], guard := none }) (v := ?_) rfl (by kernel_rfl) (by kernel_rfl) (by kernel_rfl) (fun _ _ _ h => h) (Or.inl ⟨by rfl, ?_⟩) (by assumption) ?_
    rotate_left
    · intro w hSw; (try dsimp only at hSw); first | (go_simp; done) | (go_simp; with_reducible rfl)
    try simp only [Act.put, List.setIfInBounds_toArray, List.set_cons_zero, List.set_cons_succ]
    refine wpAnyH_take (i := 4) (oi := { dst := some 12, op := Op.fieldAddr 33 (Operand.tmp 1) 1, type := 0, pos := "ref.go:49", after := #[], guard := none }) (v := ?_) rfl (by kernel_rfl) (by kernel_rfl) (by kernel_rfl) (fun _ _ _ h => h) (Or.inl ⟨by rfl, ?_⟩) (by assumption) ?_
    rotate_left
    · intro w hSw; (try dsimp only at hSw); first | (go_simp; done) | (go_simp; with_reducible rfl)
    try simp only [Act.put, List.setIfInBounds_toArray, List.set_cons_zero, List.set_cons_succ]
    refine wpAnyH_take (i := 5) (oi := { dst := some 13, op := Op.load 3 (Operand.tmp 12), type := 3, pos := "ref.go:49", after := #[{ on := 4, ground := Ground.data }], guard := none }) (v := ?_) rfl (by kernel_rfl) (by kernel_rfl) (by kernel_rfl) (fun _ _ _ h => h) (Or.inl ⟨by rfl, ?_⟩) (by assumption) ?_
    rotate_left
    · intro w hSw; (try dsimp only at hSw); first | (go_simp; done) | (go_simp; with_reducible rfl)
    try simp only [Act.put, List.setIfInBounds_toArray, List.set_cons_zero, List.set_cons_succ]
    refine wpAnyH_take (i := 6) (oi := { dst := some 14, op := Op.convert 3 22 (Operand.tmp 13), type := 22, pos := "ref.go:49", after := #[{ on := 5, ground := Ground.data }], guard := none }) (v := ?_) rfl (by kernel_rfl) (by kernel_rfl) (by kernel_rfl) (fun _ _ _ h => h) (Or.inl ⟨by rfl, ?_⟩) (by assumption) ?_
    rotate_left
    · intro w hSw; (try dsimp only at hSw); first | (go_simp; done) | (go_simp; with_reducible rfl)
    try simp only [Act.put, List.setIfInBounds_toArray, List.set_cons_zero, List.set_cons_succ]
    refine wpAnyH_take (i := 8) (oi := { dst := some 16, op := Op.fieldAddr 33 (Operand.tmp 1) 2, type := 0, pos := "ref.go:49", after := #[], guard := none }) (v := ?_) rfl (by kernel_rfl) (by kernel_rfl) (by kernel_rfl) (fun _ _ _ h => h) (Or.inl ⟨by rfl, ?_⟩) (by assumption) ?_
    rotate_left
    · intro w hSw; (try dsimp only at hSw); first | (go_simp; done) | (go_simp; with_reducible rfl)
    try simp only [Act.put, List.setIfInBounds_toArray, List.set_cons_zero, List.set_cons_succ]
    refine wpAnyH_take (i := 9) (oi := { dst := some 17, op := Op.load 22 (Operand.tmp 16), type := 22, pos := "ref.go:49", after := #[{ on := 8, ground := Ground.data }], guard := none }) (v := ?_) rfl (by kernel_rfl) (by kernel_rfl) (by kernel_rfl) (fun _ _ _ h => h) (Or.inl ⟨by rfl, ?_⟩) (by assumption) ?_
    rotate_left
    · intro w hSw; (try dsimp only at hSw); first | (go_simp; done) | (go_simp; with_reducible rfl)
    try simp only [Act.put, List.setIfInBounds_toArray, List.set_cons_zero, List.set_cons_succ]
    refine wpAnyH_ready (rs := [3, 7]) (by kernel_rfl) (by simp) ?_
    refine (AllReadyH.cons (o := { dst := some 11, op := Op.buildSlice 37 1 #[(0, Operand.tmp 10)], type := 37, pos := "ref.go:49", after := #[{ on := 2, ground := Ground.data }], guard := none }) rfl (fun K hK => ?_) (AllReadyH.cons (o := { dst := some 15, op := Op.call { callee := Callee.value (Operand.func 63), args := #[Operand.tmp 14], argTypes := #[22] }, type := 37, pos := "ref.go:49", after := #[{ on := 6, ground := Ground.data }], guard := none }) rfl (fun K hK => ?_) AllReadyH.nil))
    · go_simp
      refine absA (W := w1.drew) ?_
      intro wk hwk
      have hbk := below_of hwk
      replace hE2 := hE2.next hbk
      try replace hN1 := hN1.next hbk
      try replace hN2 := hN2.next hbk
      have hKd := ever_lit hwk HKV.out
      clear hbk hwk
      go_wp2_with fail
      clear hHeld
      refine hK.out _ _ ⟨hE2.now.1, hE2⟩ (fun hHeld => ?_)
      clear hK K
      try simp only [Act.put, List.setIfInBounds_toArray, List.set_cons_zero, List.set_cons_succ]
      refine wpAnyH_ready (rs := [7]) (by kernel_rfl) (by simp) ?_
      refine (AllReadyH.cons (o := { dst := some 15, op := Op.call { callee := Callee.value (Operand.func 63), args := #[Operand.tmp 14], argTypes := #[22] }, type := 37, pos := "ref.go:49", after := #[{ on := 6, ground := Ground.data }], guard := none }) rfl (fun K hK => ?_) AllReadyH.nil)
      go_simp
      go_at_call 63
      refine (refNum_any a _ HA64.out).mono ?_
      rintro e w1 ⟨A1, n1, c1, rfl, ho, hb⟩
      replace hE2 := hE2.next hb
      try replace hKd := hKd.next hb
      have hN1 := ever_sl (Sl.of_own ho)
      clear hb ho
      go_wp2_with fail
      clear hHeld
      refine hK.out _ _ ⟨hE2.now.1, hE2⟩ (fun hHeld => ?_)
      clear hK K
      try simp only [Act.put, List.setIfInBounds_toArray, List.set_cons_zero, List.set_cons_succ]
      refine wpAnyH_ready (rs := [10]) (by kernel_rfl) (by simp) ?_
      refine (AllReadyH.cons (o := { dst := some 18, op := Op.call { callee := Callee.value (Operand.func 63), args := #[Operand.tmp 17], argTypes := #[22] }, type := 37, pos := "ref.go:49", after := #[{ on := 9, ground := Ground.data }, { on := 7, ground := Ground.chain }], guard := none }) rfl (fun K hK => ?_) AllReadyH.nil)
      go_simp
      go_at_call 63
      refine (refNum_any f.ep _ HOK.out.ep).mono ?_
      rintro e w2 ⟨A2, n2, c2, rfl, ho, hb⟩
      replace hE2 := hE2.next hb
      try replace hKd := hKd.next hb
      try replace hN1 := hN1.next hb
      have hN2 := ever_sl (Sl.of_own ho)
      clear hb ho
      go_wp2_with fail
      clear hHeld
      refine hK.out _ _ ⟨hE2.now.1, hE2⟩ (fun hHeld => ?_)
      clear hK K
      try simp only [Act.put, List.setIfInBounds_toArray, List.set_cons_zero, List.set_cons_succ]
      refine wpAnyH_ready (rs := [11]) (by kernel_rfl) (by simp) ?_
      refine (AllReadyH.cons (o := { dst := some 19, op := Op.buildSlice 88 3 #[(0, Operand.tmp 11), (1, Operand.tmp 15), (2, Operand.tmp 18)], type := 88, pos := "ref.go:49", after := #[{ on := 3, ground := Ground.data }, { on := 7, ground := Ground.data }, { on := 10, ground := Ground.data }], guard := none }) rfl (fun K hK => ?_) AllReadyH.nil)
      go_simp
      refine absA ?_
      intro wj hwj
      have hbj := below_of hwj
      replace hE2 := hE2.next hbj
      replace hN1 := hN1.next hbj
      replace hN2 := hN2.next hbj
      replace hKd := hKd.next hbj
      have HWJ := Lib.hid hwj
      clear hbj hwj
      go_wp2_with fail
      clear hHeld
      refine hK.out _ _ ⟨hE2.now.1, hE2⟩ (fun hHeld => ?_)
      clear hK K
      try simp only [Act.put, List.setIfInBounds_toArray, List.set_cons_zero, List.set_cons_succ]
      refine wpAnyH_ready (rs := [12]) (by kernel_rfl) (by simp) ?_
      refine (AllReadyH.cons (o := { dst := some 20, op := Op.call { callee := Callee.value (Operand.func 21), args := #[Operand.tmp 19], argTypes := #[88] }, type := 37, pos := "ref.go:49", after := #[{ on := 11, ground := Ground.data }, { on := 10, ground := Ground.chain }], guard := none }) rfl (fun K hK => ?_) AllReadyH.nil)
      go_simp
      go_at_call 21
      have hcj := joinL3 HWJ.out hKd.now hN1.now hN2.now (by rw [← HH.out]; omega)
      rw [← HH.out] at hcj
      refine hcj.mono ?_
      rintro e wq ⟨A9, n9, c9, rfl, ho9, hb9⟩
      replace hE2 := hE2.next hb9
      have hP9 := ever_sl (Sl.of_own ho9)
      clear hcj hb9 ho9 HWJ hN1 hN2 hKd
      go_wp2_with fail
      clear hHeld
      refine hK.out _ _ ⟨hE2.now.1, hE2⟩ (fun hHeld => ?_)
      clear hK K
      try simp only [Act.put, List.setIfInBounds_toArray, List.set_cons_zero, List.set_cons_succ]
      refine wpAnyH_take (i := 13) (oi := { dst := some 3, op := Op.assign (Operand.tmp 20), type := 37, pos := "ref.go:49", after := #[{ on := 12, ground := Ground.data }, { on := 12, ground := Ground.chain }, { on := 0, ground := Ground.phase }, { on := 1, ground := Ground.phase }, { on := 2, ground := Ground.phase }, { on := 3, ground := Ground.phase }, { on := 4, ground := Ground.phase }, { on := 5, ground := Ground.phase }, { on := 6, ground := Ground.phase }, { on := 7, ground := Ground.phase }, { on := 8, ground := Ground.phase }, { on := 9, ground := Ground.phase }, { on := 10, ground := Ground.phase }, { on := 11, ground := Ground.phase }, { on := 12, ground := Ground.phase }], guard := none }) (v := ?_) rfl (by kernel_rfl) (by kernel_rfl) (by kernel_rfl) (fun _ _ _ h => h) (Or.inl ⟨by rfl, ?_⟩) (by assumption) ?_
      rotate_left
      · intro w hSw; (try dsimp only at hSw); first | (go_simp; done) | (go_simp; with_reducible rfl)
      try simp only [Act.put, List.setIfInBounds_toArray, List.set_cons_zero, List.set_cons_succ]
      refine wpAnyH_done (by kernel_rfl) ?_ _
      refine NoPanic.normal ?_
      clear hHeld
      go_wp2_with fail
      go_meet
      exact ⟨A9, n9, c9, rfl, hP9, hE2⟩
    · go_simp
      go_at_call 63
      refine (refNum_any a _ HA64.out).mono ?_
      rintro e w1 ⟨A1, n1, c1, rfl, ho, hb⟩
      replace hE2 := hE2.next hb
      try replace hKd := hKd.next hb
      have hN1 := ever_sl (Sl.of_own ho)
      clear hb ho
      go_wp2_with fail
      clear hHeld
      refine hK.out _ _ ⟨hE2.now.1, hE2⟩ (fun hHeld => ?_)
      clear hK K
      try simp only [Act.put, List.setIfInBounds_toArray, List.set_cons_zero, List.set_cons_succ]
      refine wpAnyH_ready (rs := [3, 10]) (by kernel_rfl) (by simp) ?_
      refine (AllReadyH.cons (o := { dst := some 11, op := Op.buildSlice 37 1 #[(0, Operand.tmp 10)], type := 37, pos := "ref.go:49", after := #[{ on := 2, ground := Ground.data }], guard := none }) rfl (fun K hK => ?_) (AllReadyH.cons (o := { dst := some 18, op := Op.call { callee := Callee.value (Operand.func 63), args := #[Operand.tmp 17], argTypes := #[22] }, type := 37, pos := "ref.go:49", after := #[{ on := 9, ground := Ground.data }, { on := 7, ground := Ground.chain }], guard := none }) rfl (fun K hK => ?_) AllReadyH.nil))
      · go_simp
        refine absA ?_
        intro wk hwk
        have hbk := below_of hwk
        replace hE2 := hE2.next hbk
        try replace hN1 := hN1.next hbk
        try replace hN2 := hN2.next hbk
        have hKd := ever_lit hwk HKV.out
        clear hbk hwk
        go_wp2_with fail
        clear hHeld
        refine hK.out _ _ ⟨hE2.now.1, hE2⟩ (fun hHeld => ?_)
        clear hK K
        try simp only [Act.put, List.setIfInBounds_toArray, List.set_cons_zero, List.set_cons_succ]
        refine wpAnyH_ready (rs := [10]) (by kernel_rfl) (by simp) ?_
        refine (AllReadyH.cons (o := { dst := some 18, op := Op.call { callee := Callee.value (Operand.func 63), args := #[Operand.tmp 17], argTypes := #[22] }, type := 37, pos := "ref.go:49", after := #[{ on := 9, ground := Ground.data }, { on := 7, ground := Ground.chain }], guard := none }) rfl (fun K hK => ?_) AllReadyH.nil)
        go_simp
        go_at_call 63
        refine (refNum_any f.ep _ HOK.out.ep).mono ?_
        rintro e w2 ⟨A2, n2, c2, rfl, ho, hb⟩
        replace hE2 := hE2.next hb
        try replace hKd := hKd.next hb
        try replace hN1 := hN1.next hb
        have hN2 := ever_sl (Sl.of_own ho)
        clear hb ho
        go_wp2_with fail
        clear hHeld
        refine hK.out _ _ ⟨hE2.now.1, hE2⟩ (fun hHeld => ?_)
        clear hK K
        try simp only [Act.put, List.setIfInBounds_toArray, List.set_cons_zero, List.set_cons_succ]
        refine wpAnyH_ready (rs := [11]) (by kernel_rfl) (by simp) ?_
        refine (AllReadyH.cons (o := { dst := some 19, op := Op.buildSlice 88 3 #[(0, Operand.tmp 11), (1, Operand.tmp 15), (2, Operand.tmp 18)], type := 88, pos := "ref.go:49", after := #[{ on := 3, ground := Ground.data }, { on := 7, ground := Ground.data }, { on := 10, ground := Ground.data }], guard := none }) rfl (fun K hK => ?_) AllReadyH.nil)
        go_simp
        refine absA ?_
        intro wj hwj
        have hbj := below_of hwj
        replace hE2 := hE2.next hbj
        replace hN1 := hN1.next hbj
        replace hN2 := hN2.next hbj
        replace hKd := hKd.next hbj
        have HWJ := Lib.hid hwj
        clear hbj hwj
        go_wp2_with fail
        clear hHeld
        refine hK.out _ _ ⟨hE2.now.1, hE2⟩ (fun hHeld => ?_)
        clear hK K
        try simp only [Act.put, List.setIfInBounds_toArray, List.set_cons_zero, List.set_cons_succ]
        refine wpAnyH_ready (rs := [12]) (by kernel_rfl) (by simp) ?_
        refine (AllReadyH.cons (o := { dst := some 20, op := Op.call { callee := Callee.value (Operand.func 21), args := #[Operand.tmp 19], argTypes := #[88] }, type := 37, pos := "ref.go:49", after := #[{ on := 11, ground := Ground.data }, { on := 10, ground := Ground.chain }], guard := none }) rfl (fun K hK => ?_) AllReadyH.nil)
        go_simp
        go_at_call 21
        have hcj := joinL3 HWJ.out hKd.now hN1.now hN2.now (by rw [← HH.out]; omega)
        rw [← HH.out] at hcj
        refine hcj.mono ?_
        rintro e wq ⟨A9, n9, c9, rfl, ho9, hb9⟩
        replace hE2 := hE2.next hb9
        have hP9 := ever_sl (Sl.of_own ho9)
        clear hcj hb9 ho9 HWJ hN1 hN2 hKd
        go_wp2_with fail
        clear hHeld
        refine hK.out _ _ ⟨hE2.now.1, hE2⟩ (fun hHeld => ?_)
        clear hK K
        try simp only [Act.put, List.setIfInBounds_toArray, List.set_cons_zero, List.set_cons_succ]
        refine wpAnyH_take (i := 13) (oi := { dst := some 3, op := Op.assign (Operand.tmp 20), type := 37, pos := "ref.go:49", after := #[{ on := 12, ground := Ground.data }, { on := 12, ground := Ground.chain }, { on := 0, ground := Ground.phase }, { on := 1, ground := Ground.phase }, { on := 2, ground := Ground.phase }, { on := 3, ground := Ground.phase }, { on := 4, ground := Ground.phase }, { on := 5, ground := Ground.phase }, { on := 6, ground := Ground.phase }, { on := 7, ground := Ground.phase }, { on := 8, ground := Ground.phase }, { on := 9, ground := Ground.phase }, { on := 10, ground := Ground.phase }, { on := 11, ground := Ground.phase }, { on := 12, ground := Ground.phase }], guard := none }) (v := ?_) rfl (by kernel_rfl) (by kernel_rfl) (by kernel_rfl) (fun _ _ _ h => h) (Or.inl ⟨by rfl, ?_⟩) (by assumption) ?_
        rotate_left
        · intro w hSw; (try dsimp only at hSw); first | (go_simp; done) | (go_simp; with_reducible rfl)
        try simp only [Act.put, List.setIfInBounds_toArray, List.set_cons_zero, List.set_cons_succ]
        refine wpAnyH_done (by kernel_rfl) ?_ _
        refine NoPanic.normal ?_
        clear hHeld
        go_wp2_with fail
        go_meet
        exact ⟨A9, n9, c9, rfl, hP9, hE2⟩
      · go_simp
        go_at_call 63
        refine (refNum_any f.ep _ HOK.out.ep).mono ?_
        rintro e w2 ⟨A2, n2, c2, rfl, ho, hb⟩
        replace hE2 := hE2.next hb
        try replace hKd := hKd.next hb
        try replace hN1 := hN1.next hb
        have hN2 := ever_sl (Sl.of_own ho)
        clear hb ho
        go_wp2_with fail
        clear hHeld
        refine hK.out _ _ ⟨hE2.now.1, hE2⟩ (fun hHeld => ?_)
        clear hK K
        try simp only [Act.put, List.setIfInBounds_toArray, List.set_cons_zero, List.set_cons_succ]
        refine wpAnyH_ready (rs := [3]) (by kernel_rfl) (by simp) ?_
        refine (AllReadyH.cons (o := { dst := some 11, op := Op.buildSlice 37 1 #[(0, Operand.tmp 10)], type := 37, pos := "ref.go:49", after := #[{ on := 2, ground := Ground.data }], guard := none }) rfl (fun K hK => ?_) AllReadyH.nil)
        go_simp
        refine absA ?_
        intro wk hwk
        have hbk := below_of hwk
        replace hE2 := hE2.next hbk
        try replace hN1 := hN1.next hbk
        try replace hN2 := hN2.next hbk
        have hKd := ever_lit hwk HKV.out
        clear hbk hwk
        go_wp2_with fail
        clear hHeld
        refine hK.out _ _ ⟨hE2.now.1, hE2⟩ (fun hHeld => ?_)
        clear hK K
        try simp only [Act.put, List.setIfInBounds_toArray, List.set_cons_zero, List.set_cons_succ]
        refine wpAnyH_ready (rs := [11]) (by kernel_rfl) (by simp) ?_
        refine (AllReadyH.cons (o := { dst := some 19, op := Op.buildSlice 88 3 #[(0, Operand.tmp 11), (1, Operand.tmp 15), (2, Operand.tmp 18)], type := 88, pos := "ref.go:49", after := #[{ on := 3, ground := Ground.data }, { on := 7, ground := Ground.data }, { on := 10, ground := Ground.data }], guard := none }) rfl (fun K hK => ?_) AllReadyH.nil)
        go_simp
        refine absA ?_
        intro wj hwj
        have hbj := below_of hwj
        replace hE2 := hE2.next hbj
        replace hN1 := hN1.next hbj
        replace hN2 := hN2.next hbj
        replace hKd := hKd.next hbj
        have HWJ := Lib.hid hwj
        clear hbj hwj
        go_wp2_with fail
        clear hHeld
        refine hK.out _ _ ⟨hE2.now.1, hE2⟩ (fun hHeld => ?_)
        clear hK K
        try simp only [Act.put, List.setIfInBounds_toArray, List.set_cons_zero, List.set_cons_succ]
        refine wpAnyH_ready (rs := [12]) (by kernel_rfl) (by simp) ?_
        refine (AllReadyH.cons (o := { dst := some 20, op := Op.call { callee := Callee.value (Operand.func 21), args := #[Operand.tmp 19], argTypes := #[88] }, type := 37, pos := "ref.go:49", after := #[{ on := 11, ground := Ground.data }, { on := 10, ground := Ground.chain }], guard := none }) rfl (fun K hK => ?_) AllReadyH.nil)
        go_simp
        go_at_call 21
        have hcj := joinL3 HWJ.out hKd.now hN1.now hN2.now (by rw [← HH.out]; omega)
        rw [← HH.out] at hcj
        refine hcj.mono ?_
        rintro e wq ⟨A9, n9, c9, rfl, ho9, hb9⟩
        replace hE2 := hE2.next hb9
        have hP9 := ever_sl (Sl.of_own ho9)
        clear hcj hb9 ho9 HWJ hN1 hN2 hKd
        go_wp2_with fail
        clear hHeld
        refine hK.out _ _ ⟨hE2.now.1, hE2⟩ (fun hHeld => ?_)
        clear hK K
        try simp only [Act.put, List.setIfInBounds_toArray, List.set_cons_zero, List.set_cons_succ]
        refine wpAnyH_take (i := 13) (oi := { dst := some 3, op := Op.assign (Operand.tmp 20), type := 37, pos := "ref.go:49", after := #[{ on := 12, ground := Ground.data }, { on := 12, ground := Ground.chain }, { on := 0, ground := Ground.phase }, { on := 1, ground := Ground.phase }, { on := 2, ground := Ground.phase }, { on := 3, ground := Ground.phase }, { on := 4, ground := Ground.phase }, { on := 5, ground := Ground.phase }, { on := 6, ground := Ground.phase }, { on := 7, ground := Ground.phase }, { on := 8, ground := Ground.phase }, { on := 9, ground := Ground.phase }, { on := 10, ground := Ground.phase }, { on := 11, ground := Ground.phase }, { on := 12, ground := Ground.phase }], guard := none }) (v := ?_) rfl (by kernel_rfl) (by kernel_rfl) (by kernel_rfl) (fun _ _ _ h => h) (Or.inl ⟨by rfl, ?_⟩) (by assumption) ?_
        rotate_left
        · intro w hSw; (try dsimp only at hSw); first | (go_simp; done) | (go_simp; with_reducible rfl)
        try simp only [Act.put, List.setIfInBounds_toArray, List.set_cons_zero, List.set_cons_succ]
        refine wpAnyH_done (by kernel_rfl) ?_ _
        refine NoPanic.normal ?_
        clear hHeld
        go_wp2_with fail
        go_meet
        exact ⟨A9, n9, c9, rfl, hP9, hE2⟩
  case rest =>
    obtain ⟨A0, n0, c0, rfl, hP, hE0⟩ := hcut
    clear hE
    have hE := hE0
    clear hE0
    rcases Nat.lt_or_ge f.kd 2 with hk | hk
    · have hk1 : f.kd = 1 := by have := HKS.out; omega
      have hkI : ((f.kd : Int) == 1) = true := by simp; omega
      have HT : Hid (encB f.m = closed (H ++ num f.ba)) := by
        show closed (innerB f.m) = _
        rw [HINN.out]
        unfold tailB helloB
        rw [if_pos (show f.m.kd = 1 from hk1), ← List.append_nil (numsB _), numsB_cons, numsB_nil, List.append_nil]
        rfl
      have hl4 := num_len10 f.ba HOK.out.ba
      have HLEN : Hid ((H ++ num f.ba).length ≤ 900000) := by show _ ≤ _; rw [List.length_append]; omega
      clear hk hk1
      obtain ⟨q0, q1, q2, q3, q4, q5, q6, q7, q8⟩ := hE.now.1
      go_wp2_with fail
      refine (refNum_any f.ba _ HOK.out.ba).mono ?_
      rintro e w2 ⟨A2, n2, c2, rfl, ho, hb⟩
      replace hE := hE.next hb
      replace hP := hP.next hb
      have hN := ever_sl (Sl.of_own ho)
      clear hb ho q0 q1 q2 q3 q4 q5 q6 q7 q8
      go_wp2_with fail
      refine (joinL2 (W := w2) (t := 37) rfl (hP.alloc _).now (hN.alloc _).now (by have := HLEN.out; omega)).mono ?_
      rintro e w3 ⟨A3, n3, c3, rfl, ho, hb⟩
      replace hE := (hE.alloc _).next hb
      clear hP
      have hP := ever_sl (Sl.of_own ho)
      clear hb ho hN
      go_wp2_with fail
      refine (refClose_any _ _ _ _ _ hP.now (by have := HLEN.out; omega)).mono ?_
      rintro e wz ⟨Az, nz, cz, rfl, hoz, hbz⟩
      have hfin := bytes_done hE hoz hbz (by rw [HT.out])
      clear hoz hbz hE hP
      go_wp2
      go_ret
      exact hfin
    have hk1I : ((f.kd : Int) == 1) = false := by simp; omega
    have HN : Hid (∀ w', BPs w g f w' → (w'.cell? ⟨g, 0, none⟩ = some (.int .i64 (f.kd : Int)) ∧ w'.cell? ⟨g, 1, none⟩ = some (.int .i64 f.ag) ∧ w'.cell? ⟨g, 2, none⟩ = some (.int .u64 (f.ep : Int)) ∧ w'.cell? ⟨g, 3, none⟩ = some (.int .u64 (f.ic : Int)) ∧ w'.cell? ⟨g, 4, none⟩ = some (.int .u64 (f.ba : Int)) ∧ w'.cell? ⟨g, 5, none⟩ = some (.int .u64 (f.cu : Int)) ∧ w'.cell? ⟨g, 6, none⟩ = some (.int .u64 (f.li : Int)) ∧ w'.cell? ⟨g, 7, none⟩ = some (.slice f.Ar f.nr f.cr) ∧ w'.cell? ⟨g, 8, none⟩ = some (.slice f.Ai f.ni f.ci)) ∧ FrAt w' f ∧ Below w.heap.size w w') := fun _ h => h
    by_cases hk3 : f.kd = 3
    · have hk3I : ((f.kd : Int) == 3) = true := by simp; omega
      obtain ⟨H3, HH3⟩ : ∃ H3, Hid (H3 = H ++ (num f.ic ++ (num f.ba ++ num f.ni))) := ⟨_, rfl⟩
      have HT : Hid (encB f.m = closed (H3 ++ itsB (f.ks.map Ik.it))) := by
        show closed (innerB f.m) = _
        rw [HINN.out, HH3.out]
        unfold tailB batchB
        rw [if_neg (show ¬ f.m.kd = 1 from by show ¬ f.kd = 1; omega), if_pos (show f.m.kd = 3 from hk3), numsB_cons, numsB_cons, numsB_cons, numsB_nil]
        have e : f.m.its.length = f.ni := by show (f.ks.map Ik.it).length = _; rw [List.length_map]; exact HLI.out
        rw [e, List.append_assoc, List.append_assoc, List.append_assoc]
        rfl
      have hl4 := num_len10 f.ic HOK.out.ic
      have hl5 := num_len10 f.ba HOK.out.ba
      have hl6 := num_len10 f.ni HI64.out
      have hH3 : H3.length ≤ 100 := by rw [HH3.out]; simp only [List.length_append]; omega
      have HLEN : Hid ((H3 ++ itsB (f.ks.map Ik.it)).length ≤ 900000) := by show _ ≤ _; rw [List.length_append]; have := HITS.out; omega
      have HIT : Hid (∀ j, j < f.ni → ∃ k, f.ks[j]? = some k ∧ (f.ks.map Ik.it)[j]? = some k.it) := fun j hj => by
        have hl : j < f.ks.length := by have := HLI.out; omega
        exact ⟨f.ks[j], List.getElem?_eq_getElem hl, by rw [List.getElem?_map, List.getElem?_eq_getElem hl]; rfl⟩
      clear hk hk3 HINN
      obtain ⟨q0, q1, q2, q3, q4, q5, q6, q7, q8⟩ := hE.now.1
      go_upto_region 12 with fail
      clear q0 q1 q2 q3 q4 q5 q6 q7 q8
      have hE2 := hE.drewN 1
      replace hP := hP.drewN 1
      clear hE
      refine wp_region_noPanic ?_
      refine wp_region_held_drew (S := (fun w' => (w'.cell? ⟨g, 0, none⟩ = some (.int .i64 (f.kd : Int)) ∧ w'.cell? ⟨g, 1, none⟩ = some (.int .i64 f.ag) ∧ w'.cell? ⟨g, 2, none⟩ = some (.int .u64 (f.ep : Int)) ∧ w'.cell? ⟨g, 3, none⟩ = some (.int .u64 (f.ic : Int)) ∧ w'.cell? ⟨g, 4, none⟩ = some (.int .u64 (f.ba : Int)) ∧ w'.cell? ⟨g, 5, none⟩ = some (.int .u64 (f.cu : Int)) ∧ w'.cell? ⟨g, 6, none⟩ = some (.int .u64 (f.li : Int)) ∧ w'.cell? ⟨g, 7, none⟩ = some (.slice f.Ar f.nr f.cr) ∧ w'.cell? ⟨g, 8, none⟩ = some (.slice f.Ai f.ni f.ci)) ∧ Ever (BPs w g f) w')) (by kernel_rfl) ⟨(HN.out _ hE2.now).1, hE2⟩ (fun hHeld => ?_)
      refine wpAnyH_take (i := 0) (oi := { dst := some 67, op := Op.move (Operand.tmp 3), type := 37, pos := "ref.go:54", after := #[], guard := none }) (v := ?_) rfl (by kernel_rfl) (by kernel_rfl) (by kernel_rfl) (fun _ _ _ h => h) (Or.inl ⟨by rfl, ?_⟩) (by assumption) ?_
      rotate_left
      · intro w hSw; (try dsimp only at hSw); first | (go_simp; done) | (go_simp; with_reducible rfl)
      try simp only [Act.put, List.setIfInBounds_toArray, List.set_cons_zero, List.set_cons_succ]
      refine wpAnyH_take (i := 1) (oi := { dst := some 68, op := Op.fieldAddr 33 (Operand.tmp 1) 3, type := 0, pos := "ref.go:54", after := #[], guard := none }) (v := ?_) rfl (by kernel_rfl) (by kernel_rfl) (by kernel_rfl) (fun _ _ _ h => h) (Or.inl ⟨by rfl, ?_⟩) (by assumption) ?_
      rotate_left
      · intro w hSw; (try dsimp only at hSw); first | (go_simp; done) | (go_simp; with_reducible rfl)
      try simp only [Act.put, List.setIfInBounds_toArray, List.set_cons_zero, List.set_cons_succ]
      refine wpAnyH_take (i := 2) (oi := { dst := some 69, op := Op.load 22 (Operand.tmp 68), type := 22, pos := "ref.go:54", after := #[{ on := 1, ground := Ground.data }], guard := none }) (v := ?_) rfl (by kernel_rfl) (by kernel_rfl) (by kernel_rfl) (fun _ _ _ h => h) (Or.inl ⟨by rfl, ?_⟩) (by assumption) ?_
      rotate_left
      · intro w hSw; (try dsimp only at hSw); first | (go_simp; done) | (go_simp; with_reducible rfl)
      try simp only [Act.put, List.setIfInBounds_toArray, List.set_cons_zero, List.set_cons_succ]
      refine wpAnyH_take (i := 4) (oi := { dst := some 71, op := Op.fieldAddr 33 (Operand.tmp 1) 4, type := 0, pos := "ref.go:54", after := #[], guard := none }) (v := ?_) rfl (by kernel_rfl) (by kernel_rfl) (by kernel_rfl) (fun _ _ _ h => h) (Or.inl ⟨by rfl, ?_⟩) (by assumption) ?_
      rotate_left
      · intro w hSw; (try dsimp only at hSw); first | (go_simp; done) | (go_simp; with_reducible rfl)
      try simp only [Act.put, List.setIfInBounds_toArray, List.set_cons_zero, List.set_cons_succ]
      refine wpAnyH_take (i := 5) (oi := { dst := some 72, op := Op.load 22 (Operand.tmp 71), type := 22, pos := "ref.go:54", after := #[{ on := 4, ground := Ground.data }], guard := none }) (v := ?_) rfl (by kernel_rfl) (by kernel_rfl) (by kernel_rfl) (fun _ _ _ h => h) (Or.inl ⟨by rfl, ?_⟩) (by assumption) ?_
      rotate_left
      · intro w hSw; (try dsimp only at hSw); first | (go_simp; done) | (go_simp; with_reducible rfl)
      try simp only [Act.put, List.setIfInBounds_toArray, List.set_cons_zero, List.set_cons_succ]
      refine wpAnyH_take (i := 7) (oi := { dst := some 74, op := Op.fieldAddr 33 (Operand.tmp 1) 8, type := 0, pos := "ref.go:54", after := #[], guard := none }) (v := ?_) rfl (by kernel_rfl) (by kernel_rfl) (by kernel_rfl) (fun _ _ _ h => h) (Or.inl ⟨by rfl, ?_⟩) (by assumption) ?_
      rotate_left
      · intro w hSw; (try dsimp only at hSw); first | (go_simp; done) | (go_simp; with_reducible rfl)
      try simp only [Act.put, List.setIfInBounds_toArray, List.set_cons_zero, List.set_cons_succ]
      refine wpAnyH_take (i := 8) (oi := { dst := some 75, op := Op.load 31 (Operand.tmp 74), type := 31, pos := "ref.go:54", after := #[{ on := 7, ground := Ground.data }], guard := none }) (v := ?_) rfl (by kernel_rfl) (by kernel_rfl) (by kernel_rfl) (fun _ _ _ h => h) (Or.inl ⟨by rfl, ?_⟩) (by assumption) ?_
      rotate_left
      · intro w hSw; (try dsimp only at hSw); first | (go_simp; done) | (go_simp; with_reducible rfl)
      try simp only [Act.put, List.setIfInBounds_toArray, List.set_cons_zero, List.set_cons_succ]
      refine wpAnyH_take (i := 9) (oi := { dst := some 76, op := Op.call { callee := Callee.builtin Builtin.len, args := #[Operand.tmp 75], argTypes := #[31] }, type := 3, pos := "ref.go:54", after := #[{ on := 8, ground := Ground.data }], guard := none }) (v := ?_) rfl (by kernel_rfl) (by kernel_rfl) (by kernel_rfl) (fun _ _ _ h => h) (Or.inl ⟨by rfl, ?_⟩) (by assumption) ?_
      rotate_left
      · intro w hSw; (try dsimp only at hSw); first | (go_simp; done) | (go_simp; with_reducible rfl)
      try simp only [Act.put, List.setIfInBounds_toArray, List.set_cons_zero, List.set_cons_succ]
      refine wpAnyH_take (i := 10) (oi := { dst := some 77, op := Op.convert 3 22 (Operand.tmp 76), type := 22, pos := "ref.go:54", after := #[{ on := 9, ground := Ground.data }], guard := none }) (v := ?_) rfl (by kernel_rfl) (by kernel_rfl) (by kernel_rfl) (fun _ _ _ h => h) (Or.inl ⟨by rfl, ?_⟩) (by assumption) ?_
      rotate_left
      · intro w hSw; (try dsimp only at hSw); first | (go_simp; done) | (go_simp; with_reducible rfl)
      try simp only [Act.put, List.setIfInBounds_toArray, List.set_cons_zero, List.set_cons_succ]
      refine wpAnyH_ready (rs := [3]) (by kernel_rfl) (by simp) ?_
      refine AllReadyH.cons (o := { dst := some 70, op := Op.call { callee := Callee.value (Operand.func 63), args := #[Operand.tmp 69], argTypes := #[22] }, type := 37, pos := "ref.go:54", after := #[{ on := 2, ground := Ground.data }], guard := none }) rfl (fun K hK => ?_) AllReadyH.nil
      go_simp
      go_at_call 63
      refine (refNum_any f.ic _ HOK.out.ic).mono ?_
      rintro e w3 ⟨A3, n3, c3, rfl, ho, hb⟩
      replace hE2 := hE2.next hb
      try replace hP := hP.next hb
      have hN3 := ever_sl (Sl.of_own ho)
      clear hb ho
      go_wp2_with fail
      clear hHeld
      refine hK.out _ _ ⟨(HN.out _ hE2.now).1, hE2⟩ (fun hHeld => ?_)
      clear hK K
      try simp only [Act.put, List.setIfInBounds_toArray, List.set_cons_zero, List.set_cons_succ]
      refine wpAnyH_ready (rs := [6]) (by kernel_rfl) (by simp) ?_
      refine AllReadyH.cons (o := { dst := some 73, op := Op.call { callee := Callee.value (Operand.func 63), args := #[Operand.tmp 72], argTypes := #[22] }, type := 37, pos := "ref.go:54", after := #[{ on := 5, ground := Ground.data }, { on := 3, ground := Ground.chain }], guard := none }) rfl (fun K hK => ?_) AllReadyH.nil
      go_simp
      go_at_call 63
      refine (refNum_any f.ba _ HOK.out.ba).mono ?_
      rintro e w4 ⟨A4, n4, c4, rfl, ho, hb⟩
      replace hE2 := hE2.next hb
      try replace hP := hP.next hb
      try replace hN3 := hN3.next hb
      have hN4 := ever_sl (Sl.of_own ho)
      clear hb ho
      go_wp2_with fail
      clear hHeld
      refine hK.out _ _ ⟨(HN.out _ hE2.now).1, hE2⟩ (fun hHeld => ?_)
      clear hK K
      try simp only [Act.put, List.setIfInBounds_toArray, List.set_cons_zero, List.set_cons_succ]
      refine wpAnyH_ready (rs := [11]) (by kernel_rfl) (by simp) ?_
      refine AllReadyH.cons (o := { dst := some 78, op := Op.call { callee := Callee.value (Operand.func 63), args := #[Operand.tmp 77], argTypes := #[22] }, type := 37, pos := "ref.go:54", after := #[{ on := 10, ground := Ground.data }, { on := 6, ground := Ground.chain }], guard := none }) rfl (fun K hK => ?_) AllReadyH.nil
      go_simp
      go_at_call 63
      refine (refNum_any f.ni _ HI64.out).mono ?_
      rintro e w5 ⟨A5, n5, c5, rfl, ho, hb⟩
      replace hE2 := hE2.next hb
      try replace hP := hP.next hb
      try replace hN3 := hN3.next hb
      try replace hN4 := hN4.next hb
      have hN5 := ever_sl (Sl.of_own ho)
      clear hb ho
      go_wp2_with fail
      clear hHeld
      refine hK.out _ _ ⟨(HN.out _ hE2.now).1, hE2⟩ (fun hHeld => ?_)
      clear hK K
      try simp only [Act.put, List.setIfInBounds_toArray, List.set_cons_zero, List.set_cons_succ]
      refine wpAnyH_ready (rs := [12]) (by kernel_rfl) (by simp) ?_
      refine AllReadyH.cons (o := { dst := some 79, op := Op.buildSlice 88 4 #[(0, Operand.tmp 67), (1, Operand.tmp 70), (2, Operand.tmp 73), (3, Operand.tmp 78)], type := 88, pos := "ref.go:54", after := #[{ on := 0, ground := Ground.data }, { on := 3, ground := Ground.data }, { on := 6, ground := Ground.data }, { on := 11, ground := Ground.data }], guard := none }) rfl (fun K hK => ?_) AllReadyH.nil
      go_simp
      refine absA ?_
      intro wj hwj
      have hbj := below_of hwj
      replace hE2 := hE2.next hbj
      replace hP := hP.next hbj
      replace hN3 := hN3.next hbj
      replace hN4 := hN4.next hbj
      replace hN5 := hN5.next hbj
      have HWJ := Lib.hid hwj
      clear hbj hwj
      go_wp2_with fail
      clear hHeld
      refine hK.out _ _ ⟨(HN.out _ hE2.now).1, hE2⟩ (fun hHeld => ?_)
      clear hK K
      try simp only [Act.put, List.setIfInBounds_toArray, List.set_cons_zero, List.set_cons_succ]
      refine wpAnyH_ready (rs := [13]) (by kernel_rfl) (by simp) ?_
      refine AllReadyH.cons (o := { dst := some 80, op := Op.call { callee := Callee.value (Operand.func 21), args := #[Operand.tmp 79], argTypes := #[88] }, type := 37, pos := "ref.go:54", after := #[{ on := 12, ground := Ground.data }, { on := 11, ground := Ground.chain }], guard := none }) rfl (fun K hK => ?_) AllReadyH.nil
      go_simp
      go_at_call 21
      have hcj := joinL4 HWJ.out hP.now hN3.now hN4.now hN5.now (by rw [← HH3.out]; omega)
      rw [← HH3.out] at hcj
      refine hcj.mono ?_
      rintro e wq ⟨A9, n9, c9, rfl, ho9, hb9⟩
      replace hE2 := hE2.next hb9
      have hP9 := ever_sl (Sl.of_own ho9)
      clear hcj hb9 ho9 HWJ hP hN3 hN4 hN5
      go_wp2_with fail
      clear hHeld
      refine hK.out _ _ ⟨(HN.out _ hE2.now).1, hE2⟩ (fun hHeld => ?_)
      clear hK K
      try simp only [Act.put, List.setIfInBounds_toArray, List.set_cons_zero, List.set_cons_succ]
      refine wpAnyH_take (i := 14) (oi := { dst := some 3, op := Op.assign (Operand.tmp 80), type := 37, pos := "ref.go:54", after := #[{ on := 13, ground := Ground.data }, { on := 13, ground := Ground.chain }, { on := 0, ground := Ground.phase }, { on := 1, ground := Ground.phase }, { on := 2, ground := Ground.phase }, { on := 3, ground := Ground.phase }, { on := 4, ground := Ground.phase }, { on := 5, ground := Ground.phase }, { on := 6, ground := Ground.phase }, { on := 7, ground := Ground.phase }, { on := 8, ground := Ground.phase }, { on := 9, ground := Ground.phase }, { on := 10, ground := Ground.phase }, { on := 11, ground := Ground.phase }, { on := 12, ground := Ground.phase }, { on := 13, ground := Ground.phase }], guard := none }) (v := ?_) rfl (by kernel_rfl) (by kernel_rfl) (by kernel_rfl) (fun _ _ _ h => h) (Or.inl ⟨by rfl, ?_⟩) (by assumption) ?_
      rotate_left
      · intro w hSw; (try dsimp only at hSw); first | (go_simp; done) | (go_simp; with_reducible rfl)
      try simp only [Act.put, List.setIfInBounds_toArray, List.set_cons_zero, List.set_cons_succ]
      refine wpAnyH_done (by kernel_rfl) ?_ _
      refine NoPanic.normal ?_
      obtain ⟨q0, q1, q2, q3, q4, q5, q6, q7, q8⟩ := hE2.now.1
      have HS : Hid (BLoop w g f (fun j => H3 ++ itsB ((f.ks.map Ik.it).take j)) f.ni f.ni (.int .i64 0) (.slice A9 n9 c9) wq) := ⟨0, rfl, rfl, A9, n9, c9, rfl, by show Ever (fun w' => Sl w' w'.heap.size A9 n9 c9 (H3 ++ [])) _; rw [List.append_nil]; exact hP9, hE2⟩
      clear hE2 hP9
      go_wp2_with fail
      clear q0 q1 q2 q3 q4 q5 q6 q7 q8
      go_loopg [84, 3] f.ni (fun gk i v wr => BLoop w g f (fun j => H3 ++ itsB ((f.ks.map Ik.it).take j)) f.ni gk i v wr)
      case atStart => exact HS.out
      case round =>
        obtain ⟨j, hj, rfl, A8, n8, c8, rfl, hP, hE⟩ := hrel
        have HJ := Lib.hid hj
        clear hj HS
        by_cases hlt : j < f.ni
        · have hltI : (j : Int) < (f.ni : Int) := by omega
          obtain ⟨bb, o, k, ea, hbb, hk, d0, d1, d2, hsl, hkN⟩ := hE.now.2.1.it.at_ hlt
          have hmx := hE.now.2.1.it.max
          have hcx := hE.now.2.1.it.le
          unfold maxLen at hmx
          have HKB := Lib.hid (HBO.out k (List.mem_of_getElem? hk))
          have hkm : (f.ks.map Ik.it)[j]? = some k.it := by rw [List.getElem?_map, hk]; rfl
          have HSN := Lib.hid (itsB_snoc hkm)
          have HSL := Lib.hid (ever_sl hsl)
          have HKN := Lib.hid hkN
          have HCT := Lib.hid (its_cut H3 (f.ks.map Ik.it) (j + 1))
          clear hsl hkN hkm hk
          rw [ea]
          go_wp2_with fail
          have hsq : Ever (fun w' => Sl w' w'.heap.size k.q.A k.q.n k.q.c k.q.l) (wr.alloc (.cells #[.int .u64 (k.N : Int), .int .i64 k.C, .slice k.q.A k.q.n k.q.c] 73)) := HSL.out.alloc _
          replace hE := hE.alloc (.cells #[.int .u64 (k.N : Int), .int .i64 k.C, .slice k.q.A k.q.n k.q.c] 73)
          replace hP := hP.alloc (.cells #[.int .u64 (k.N : Int), .int .i64 k.C, .slice k.q.A k.q.n k.q.c] 73)
          generalize (wr.alloc (.cells #[.int .u64 (k.N : Int), .int .i64 k.C, .slice k.q.A k.q.n k.q.c] 73)) = wi at *
          refine (refPutItem_any wi k.N k.C k.q.A k.q.n k.q.c k.q.l HKN.out hsq.now (by have := HKB.out; omega)).mono ?_
          rintro e w4 ⟨A4, n4, c4, rfl, ho, hb⟩
          replace hE := hE.next hb
          replace hP := hP.next hb
          have hN := ever_sl (Sl.of_own ho)
          clear hb ho hsq d0 d1 d2 hbb
          go_wp2_with fail
          have hcj := joinL2 (W := w4) (t := 37) rfl (hP.alloc _).now (hN.alloc _).now (by have h1 := HCT.out; have h2 := HLEN.out; rw [HSN.out] at h1; simp only [List.length_append] at h1 h2 ⊢; unfold itB at h1; simp only [Ik.it] at h1; omega)
          refine hcj.mono ?_
          rintro e w5 ⟨A5, n5, c5, rfl, ho, hb⟩
          replace hE := (hE.alloc _).next hb
          clear hP
          have hP := ever_sl (Sl.of_own ho)
          clear hcj hb ho hN
          go_wp2
          rw [← ea]
          go_roundg (gk - 1)
          case measure => have := HJ.out; omega
          case rel =>
            refine ⟨j + 1, by have := HJ.out; omega, by go_num, A5, n5, c5, rfl, ?_, hE⟩
            dsimp only
            rw [HSN.out, ← List.append_assoc]
            exact hP
        · have hltI : ¬ (j : Int) < (f.ni : Int) := by omega
          have hE' : (f.ks.map Ik.it).take j = f.ks.map Ik.it := List.take_of_length_le (by rw [List.length_map]; have := HLI.out; omega)
          dsimp only at hP
          rw [hE'] at hP
          clear hE'
          go_wp2_with fail
          refine (refClose_any _ _ _ _ _ hP.now (by have := HLEN.out; omega)).mono ?_
          rintro e wz ⟨Az, nz, cz, rfl, hoz, hbz⟩
          have hfin := bytes_done hE hoz hbz (by rw [HT.out])
          clear hoz hbz hE hP
          go_wp2
          go_ret
          exact hfin
    · have hk3I : ((f.kd : Int) == 3) = false := by simp; omega
      obtain ⟨H3, HH3⟩ : ∃ H3, Hid (H3 = H ++ (num f.ic ++ (num f.cu ++ (num f.li ++ num f.nr)))) := ⟨_, rfl⟩
      have HT : Hid (encB f.m = closed (H3 ++ runsB f.L)) := by
        show closed (innerB f.m) = _
        rw [HINN.out, HH3.out]
        unfold tailB answerB
        rw [if_neg (show ¬ f.m.kd = 1 from by show ¬ f.kd = 1; omega), if_neg (show ¬ f.m.kd = 3 from hk3), numsB_cons, numsB_cons, numsB_cons, numsB_cons, numsB_nil]
        have e : f.m.L.length = f.nr := HLR.out
        rw [e, List.append_assoc, List.append_assoc, List.append_assoc, List.append_assoc]
        rfl
      have hl4 := num_len10 f.ic HOK.out.ic
      have hl5 := num_len10 f.cu HOK.out.cu
      have hl7 := num_len10 f.li HOK.out.li
      have hl6 := num_len10 f.nr HR64.out
      have hH3 : H3.length ≤ 100 := by rw [HH3.out]; simp only [List.length_append]; omega
      have HLEN : Hid ((H3 ++ runsB f.L).length ≤ 900000) := by show _ ≤ _; rw [List.length_append]; have := HRNS.out; omega
      clear hk hk3 HINN
      obtain ⟨q0, q1, q2, q3, q4, q5, q6, q7, q8⟩ := hE.now.1
      go_upto_region 3 with fail
      clear q0 q1 q2 q3 q4 q5 q6 q7 q8
      have hE2 := hE.drewN 1
      replace hP := hP.drewN 1
      clear hE
      refine wp_region_noPanic ?_
      refine wp_region_held_drew (S := (fun w' => (w'.cell? ⟨g, 0, none⟩ = some (.int .i64 (f.kd : Int)) ∧ w'.cell? ⟨g, 1, none⟩ = some (.int .i64 f.ag) ∧ w'.cell? ⟨g, 2, none⟩ = some (.int .u64 (f.ep : Int)) ∧ w'.cell? ⟨g, 3, none⟩ = some (.int .u64 (f.ic : Int)) ∧ w'.cell? ⟨g, 4, none⟩ = some (.int .u64 (f.ba : Int)) ∧ w'.cell? ⟨g, 5, none⟩ = some (.int .u64 (f.cu : Int)) ∧ w'.cell? ⟨g, 6, none⟩ = some (.int .u64 (f.li : Int)) ∧ w'.cell? ⟨g, 7, none⟩ = some (.slice f.Ar f.nr f.cr) ∧ w'.cell? ⟨g, 8, none⟩ = some (.slice f.Ai f.ni f.ci)) ∧ Ever (BPs w g f) w')) (by kernel_rfl) ⟨(HN.out _ hE2.now).1, hE2⟩ (fun hHeld => ?_)
      refine wpAnyH_take (i := 0) (oi := { dst := some 23, op := Op.move (Operand.tmp 3), type := 37, pos := "ref.go:59", after := #[], guard := none }) (v := ?_) rfl (by kernel_rfl) (by kernel_rfl) (by kernel_rfl) (fun _ _ _ h => h) (Or.inl ⟨by rfl, ?_⟩) (by assumption) ?_
      rotate_left
      · intro w hSw; (try dsimp only at hSw); first | (go_simp; done) | (go_simp; with_reducible rfl)
      try simp only [Act.put, List.setIfInBounds_toArray, List.set_cons_zero, List.set_cons_succ]
      refine wpAnyH_take (i := 1) (oi := { dst := some 24, op := Op.fieldAddr 33 (Operand.tmp 1) 3, type := 0, pos := "ref.go:59", after := #[], guard := none }) (v := ?_) rfl (by kernel_rfl) (by kernel_rfl) (by kernel_rfl) (fun _ _ _ h => h) (Or.inl ⟨by rfl, ?_⟩) (by assumption) ?_
      rotate_left
      · intro w hSw; (try dsimp only at hSw); first | (go_simp; done) | (go_simp; with_reducible rfl)
      try simp only [Act.put, List.setIfInBounds_toArray, List.set_cons_zero, List.set_cons_succ]
      refine wpAnyH_take (i := 2) (oi := { dst := some 25, op := Op.load 22 (Operand.tmp 24), type := 22, pos := "ref.go:59", after := #[{ on := 1, ground := Ground.data }], guard := none }) (v := ?_) rfl (by kernel_rfl) (by kernel_rfl) (by kernel_rfl) (fun _ _ _ h => h) (Or.inl ⟨by rfl, ?_⟩) (by assumption) ?_
      rotate_left
      · intro w hSw; (try dsimp only at hSw); first | (go_simp; done) | (go_simp; with_reducible rfl)
      try simp only [Act.put, List.setIfInBounds_toArray, List.set_cons_zero, List.set_cons_succ]
      refine wpAnyH_take (i := 4) (oi := { dst := some 27, op := Op.fieldAddr 33 (Operand.tmp 1) 5, type := 0, pos := "ref.go:59", after := #[], guard := none }) (v := ?_) rfl (by kernel_rfl) (by kernel_rfl) (by kernel_rfl) (fun _ _ _ h => h) (Or.inl ⟨by rfl, ?_⟩) (by assumption) ?_
      rotate_left
      · intro w hSw; (try dsimp only at hSw); first | (go_simp; done) | (go_simp; with_reducible rfl)
      try simp only [Act.put, List.setIfInBounds_toArray, List.set_cons_zero, List.set_cons_succ]
      refine wpAnyH_take (i := 5) (oi := { dst := some 28, op := Op.load 22 (Operand.tmp 27), type := 22, pos := "ref.go:59", after := #[{ on := 4, ground := Ground.data }], guard := none }) (v := ?_) rfl (by kernel_rfl) (by kernel_rfl) (by kernel_rfl) (fun _ _ _ h => h) (Or.inl ⟨by rfl, ?_⟩) (by assumption) ?_
      rotate_left
      · intro w hSw; (try dsimp only at hSw); first | (go_simp; done) | (go_simp; with_reducible rfl)
      try simp only [Act.put, List.setIfInBounds_toArray, List.set_cons_zero, List.set_cons_succ]
      refine wpAnyH_take (i := 7) (oi := { dst := some 30, op := Op.fieldAddr 33 (Operand.tmp 1) 6, type := 0, pos := "ref.go:59", after := #[], guard := none }) (v := ?_) rfl (by kernel_rfl) (by kernel_rfl) (by kernel_rfl) (fun _ _ _ h => h) (Or.inl ⟨by rfl, ?_⟩) (by assumption) ?_
      rotate_left
      · intro w hSw; (try dsimp only at hSw); first | (go_simp; done) | (go_simp; with_reducible rfl)
      try simp only [Act.put, List.setIfInBounds_toArray, List.set_cons_zero, List.set_cons_succ]
      refine wpAnyH_take (i := 8) (oi := { dst := some 31, op := Op.load 22 (Operand.tmp 30), type := 22, pos := "ref.go:59", after := #[{ on := 7, ground := Ground.data }], guard := none }) (v := ?_) rfl (by kernel_rfl) (by kernel_rfl) (by kernel_rfl) (fun _ _ _ h => h) (Or.inl ⟨by rfl, ?_⟩) (by assumption) ?_
      rotate_left
      · intro w hSw; (try dsimp only at hSw); first | (go_simp; done) | (go_simp; with_reducible rfl)
      try simp only [Act.put, List.setIfInBounds_toArray, List.set_cons_zero, List.set_cons_succ]
      refine wpAnyH_take (i := 10) (oi := { dst := some 33, op := Op.fieldAddr 33 (Operand.tmp 1) 7, type := 0, pos := "ref.go:59", after := #[], guard := none }) (v := ?_) rfl (by kernel_rfl) (by kernel_rfl) (by kernel_rfl) (fun _ _ _ h => h) (Or.inl ⟨by rfl, ?_⟩) (by assumption) ?_
      rotate_left
      · intro w hSw; (try dsimp only at hSw); first | (go_simp; done) | (go_simp; with_reducible rfl)
      try simp only [Act.put, List.setIfInBounds_toArray, List.set_cons_zero, List.set_cons_succ]
      refine wpAnyH_take (i := 11) (oi := { dst := some 34, op := Op.load 30 (Operand.tmp 33), type := 30, pos := "ref.go:59", after := #[{ on := 10, ground := Ground.data }], guard := none }) (v := ?_) rfl (by kernel_rfl) (by kernel_rfl) (by kernel_rfl) (fun _ _ _ h => h) (Or.inl ⟨by rfl, ?_⟩) (by assumption) ?_
      rotate_left
      · intro w hSw; (try dsimp only at hSw); first | (go_simp; done) | (go_simp; with_reducible rfl)
      try simp only [Act.put, List.setIfInBounds_toArray, List.set_cons_zero, List.set_cons_succ]
      refine wpAnyH_take (i := 12) (oi := { dst := some 35, op := Op.call { callee := Callee.builtin Builtin.len, args := #[Operand.tmp 34], argTypes := #[30] }, type := 3, pos := "ref.go:59", after := #[{ on := 11, ground := Ground.data }], guard := none }) (v := ?_) rfl (by kernel_rfl) (by kernel_rfl) (by kernel_rfl) (fun _ _ _ h => h) (Or.inl ⟨by rfl, ?_⟩) (by assumption) ?_
      rotate_left
      · intro w hSw; (try dsimp only at hSw); first | (go_simp; done) | (go_simp; with_reducible rfl)
      try simp only [Act.put, List.setIfInBounds_toArray, List.set_cons_zero, List.set_cons_succ]
      refine wpAnyH_take (i := 13) (oi := { dst := some 36, op := Op.convert 3 22 (Operand.tmp 35), type := 22, pos := "ref.go:59", after := #[{ on := 12, ground := Ground.data }], guard := none }) (v := ?_) rfl (by kernel_rfl) (by kernel_rfl) (by kernel_rfl) (fun _ _ _ h => h) (Or.inl ⟨by rfl, ?_⟩) (by assumption) ?_
      rotate_left
      · intro w hSw; (try dsimp only at hSw); first | (go_simp; done) | (go_simp; with_reducible rfl)
      try simp only [Act.put, List.setIfInBounds_toArray, List.set_cons_zero, List.set_cons_succ]
      refine wpAnyH_ready (rs := [3]) (by kernel_rfl) (by simp) ?_
      refine AllReadyH.cons (o := { dst := some 26, op := Op.call { callee := Callee.value (Operand.func 63), args := #[Operand.tmp 25], argTypes := #[22] }, type := 37, pos := "ref.go:59", after := #[{ on := 2, ground := Ground.data }], guard := none }) rfl (fun K hK => ?_) AllReadyH.nil
      go_simp
      go_at_call 63
      refine (refNum_any f.ic _ HOK.out.ic).mono ?_
      rintro e w3 ⟨A3, n3, c3, rfl, ho, hb⟩
      replace hE2 := hE2.next hb
      try replace hP := hP.next hb
      have hN3 := ever_sl (Sl.of_own ho)
      clear hb ho
      go_wp2_with fail
      clear hHeld
      refine hK.out _ _ ⟨(HN.out _ hE2.now).1, hE2⟩ (fun hHeld => ?_)
      clear hK K
      try simp only [Act.put, List.setIfInBounds_toArray, List.set_cons_zero, List.set_cons_succ]
      refine wpAnyH_ready (rs := [6]) (by kernel_rfl) (by simp) ?_
      refine AllReadyH.cons (o := { dst := some 29, op := Op.call { callee := Callee.value (Operand.func 63), args := #[Operand.tmp 28], argTypes := #[22] }, type := 37, pos := "ref.go:59", after := #[{ on := 5, ground := Ground.data }, { on := 3, ground := Ground.chain }], guard := none }) rfl (fun K hK => ?_) AllReadyH.nil
      go_simp
      go_at_call 63
      refine (refNum_any f.cu _ HOK.out.cu).mono ?_
      rintro e w4 ⟨A4, n4, c4, rfl, ho, hb⟩
      replace hE2 := hE2.next hb
      try replace hP := hP.next hb
      try replace hN3 := hN3.next hb
      have hN4 := ever_sl (Sl.of_own ho)
      clear hb ho
      go_wp2_with fail
      clear hHeld
      refine hK.out _ _ ⟨(HN.out _ hE2.now).1, hE2⟩ (fun hHeld => ?_)
      clear hK K
      try simp only [Act.put, List.setIfInBounds_toArray, List.set_cons_zero, List.set_cons_succ]
      refine wpAnyH_ready (rs := [9]) (by kernel_rfl) (by simp) ?_
      refine AllReadyH.cons (o := { dst := some 32, op := Op.call { callee := Callee.value (Operand.func 63), args := #[Operand.tmp 31], argTypes := #[22] }, type := 37, pos := "ref.go:59", after := #[{ on := 8, ground := Ground.data }, { on := 6, ground := Ground.chain }], guard := none }) rfl (fun K hK => ?_) AllReadyH.nil
      go_simp
      go_at_call 63
      refine (refNum_any f.li _ HOK.out.li).mono ?_
      rintro e w5 ⟨A5, n5, c5, rfl, ho, hb⟩
      replace hE2 := hE2.next hb
      try replace hP := hP.next hb
      try replace hN3 := hN3.next hb
      try replace hN4 := hN4.next hb
      have hN5 := ever_sl (Sl.of_own ho)
      clear hb ho
      go_wp2_with fail
      clear hHeld
      refine hK.out _ _ ⟨(HN.out _ hE2.now).1, hE2⟩ (fun hHeld => ?_)
      clear hK K
      try simp only [Act.put, List.setIfInBounds_toArray, List.set_cons_zero, List.set_cons_succ]
      refine wpAnyH_ready (rs := [14]) (by kernel_rfl) (by simp) ?_
      refine AllReadyH.cons (o := { dst := some 37, op := Op.call { callee := Callee.value (Operand.func 63), args := #[Operand.tmp 36], argTypes := #[22] }, type := 37, pos := "ref.go:59", after := #[{ on := 13, ground := Ground.data }, { on := 9, ground := Ground.chain }], guard := none }) rfl (fun K hK => ?_) AllReadyH.nil
      go_simp
      go_at_call 63
      refine (refNum_any f.nr _ HR64.out).mono ?_
      rintro e w6 ⟨A6, n6, c6, rfl, ho, hb⟩
      replace hE2 := hE2.next hb
      try replace hP := hP.next hb
      try replace hN3 := hN3.next hb
      try replace hN4 := hN4.next hb
      try replace hN5 := hN5.next hb
      have hN6 := ever_sl (Sl.of_own ho)
      clear hb ho
      go_wp2_with fail
      clear hHeld
      refine hK.out _ _ ⟨(HN.out _ hE2.now).1, hE2⟩ (fun hHeld => ?_)
      clear hK K
      try simp only [Act.put, List.setIfInBounds_toArray, List.set_cons_zero, List.set_cons_succ]
      refine wpAnyH_ready (rs := [15]) (by kernel_rfl) (by simp) ?_
      refine AllReadyH.cons (o := { dst := some 38, op := Op.buildSlice 88 5 #[(0, Operand.tmp 23), (1, Operand.tmp 26), (2, Operand.tmp 29), (3, Operand.tmp 32), (4, Operand.tmp 37)], type := 88, pos := "ref.go:59", after := #[{ on := 0, ground := Ground.data }, { on := 3, ground := Ground.data }, { on := 6, ground := Ground.data }, { on := 9, ground := Ground.data }, { on := 14, ground := Ground.data }], guard := none }) rfl (fun K hK => ?_) AllReadyH.nil
      go_simp
      refine absA ?_
      intro wj hwj
      have hbj := below_of hwj
      replace hE2 := hE2.next hbj
      replace hP := hP.next hbj
      replace hN3 := hN3.next hbj
      replace hN4 := hN4.next hbj
      replace hN5 := hN5.next hbj
      replace hN6 := hN6.next hbj
      have HWJ := Lib.hid hwj
      clear hbj hwj
      go_wp2_with fail
      clear hHeld
      refine hK.out _ _ ⟨(HN.out _ hE2.now).1, hE2⟩ (fun hHeld => ?_)
      clear hK K
      try simp only [Act.put, List.setIfInBounds_toArray, List.set_cons_zero, List.set_cons_succ]
      refine wpAnyH_ready (rs := [16]) (by kernel_rfl) (by simp) ?_
      refine AllReadyH.cons (o := { dst := some 39, op := Op.call { callee := Callee.value (Operand.func 21), args := #[Operand.tmp 38], argTypes := #[88] }, type := 37, pos := "ref.go:59", after := #[{ on := 15, ground := Ground.data }, { on := 14, ground := Ground.chain }], guard := none }) rfl (fun K hK => ?_) AllReadyH.nil
      go_simp
      go_at_call 21
      have hcj := joinL5 HWJ.out hP.now hN3.now hN4.now hN5.now hN6.now (by rw [← HH3.out]; omega)
      rw [← HH3.out] at hcj
      refine hcj.mono ?_
      rintro e wq ⟨A9, n9, c9, rfl, ho9, hb9⟩
      replace hE2 := hE2.next hb9
      have hP9 := ever_sl (Sl.of_own ho9)
      clear hcj hb9 ho9 HWJ hP hN3 hN4 hN5 hN6
      go_wp2_with fail
      clear hHeld
      refine hK.out _ _ ⟨(HN.out _ hE2.now).1, hE2⟩ (fun hHeld => ?_)
      clear hK K
      try simp only [Act.put, List.setIfInBounds_toArray, List.set_cons_zero, List.set_cons_succ]
      refine wpAnyH_take (i := 17) (oi := { dst := some 3, op := Op.assign (Operand.tmp 39), type := 37, pos := "ref.go:59", after := #[{ on := 16, ground := Ground.data }, { on := 16, ground := Ground.chain }, { on := 0, ground := Ground.phase }, { on := 1, ground := Ground.phase }, { on := 2, ground := Ground.phase }, { on := 3, ground := Ground.phase }, { on := 4, ground := Ground.phase }, { on := 5, ground := Ground.phase }, { on := 6, ground := Ground.phase }, { on := 7, ground := Ground.phase }, { on := 8, ground := Ground.phase }, { on := 9, ground := Ground.phase }, { on := 10, ground := Ground.phase }, { on := 11, ground := Ground.phase }, { on := 12, ground := Ground.phase }, { on := 13, ground := Ground.phase }, { on := 14, ground := Ground.phase }, { on := 15, ground := Ground.phase }, { on := 16, ground := Ground.phase }], guard := none }) (v := ?_) rfl (by kernel_rfl) (by kernel_rfl) (by kernel_rfl) (fun _ _ _ h => h) (Or.inl ⟨by rfl, ?_⟩) (by assumption) ?_
      rotate_left
      · intro w hSw; (try dsimp only at hSw); first | (go_simp; done) | (go_simp; with_reducible rfl)
      try simp only [Act.put, List.setIfInBounds_toArray, List.set_cons_zero, List.set_cons_succ]
      refine wpAnyH_done (by kernel_rfl) ?_ _
      refine NoPanic.normal ?_
      obtain ⟨q0, q1, q2, q3, q4, q5, q6, q7, q8⟩ := hE2.now.1
      have HS : Hid (BLoop w g f (fun j => H3 ++ runsB (f.L.take j)) f.nr f.nr (.int .i64 0) (.slice A9 n9 c9) wq) := ⟨0, rfl, rfl, A9, n9, c9, rfl, by show Ever (fun w' => Sl w' w'.heap.size A9 n9 c9 (H3 ++ [])) _; rw [List.append_nil]; exact hP9, hE2⟩
      clear hE2 hP9 HN
      go_wp2_with fail
      clear q0 q1 q2 q3 q4 q5 q6 q7 q8
      go_loopg [43, 3] f.nr (fun gk i v wr => BLoop w g f (fun j => H3 ++ runsB (f.L.take j)) f.nr gk i v wr)
      case atStart => exact HS.out
      case round =>
        obtain ⟨j, hj, rfl, A8, n8, c8, rfl, hP, hE⟩ := hrel
        have HJ := Lib.hid hj
        clear hj HS
        by_cases hlt : j < f.nr
        · have hltI : (j : Int) < (f.nr : Int) := by omega
          obtain ⟨bb, o, r, ea, hbb, hr, d0, d1, l0, l1⟩ := hE.now.2.1.rs.at_ hlt
          have hmx := hE.now.2.1.rs.sn.max
          have hcx := hE.now.2.1.rs.sn.le
          unfold maxLen at hmx
          have HSN := Lib.hid (runsB_snoc hr)
          have HL0 := Lib.hid l0
          have HL1 := Lib.hid l1
          have HCT := Lib.hid (runs_cut H3 f.L (j + 1))
          have hX : Ever (fun w' => (w'.cell? ⟨wr.heap.size, 0, none⟩ = some (.int .u64 (r.1 : Int)) ∧ w'.cell? ⟨wr.heap.size, 1, none⟩ = some (.int .u64 (r.2 : Int))) ∧ BPs w g f w') (wr.alloc (.cells #[.int .u64 (r.1 : Int), .int .u64 (r.2 : Int)] 76)) := ((ever_cell (by simp)).and (ever_cell (by simp))).and (hE.alloc _)
          clear l0 l1 hr
          rw [ea]
          go_upto_region 7 with fail
          replace hP := (hP.alloc (.cells #[.int .u64 (r.1 : Int), .int .u64 (r.2 : Int)] 76)).drewN 1
          have hE2 := hX.drewN 1
          obtain ⟨X, hXX⟩ : ∃ X, X = wr.heap.size := ⟨_, rfl⟩
          rw [← hXX] at hE2 ⊢
          clear hXX hX hE d0 d1 hbb
          have HN : Hid (∀ w', ((w'.cell? ⟨X, 0, none⟩ = some (.int .u64 (r.1 : Int)) ∧ w'.cell? ⟨X, 1, none⟩ = some (.int .u64 (r.2 : Int))) ∧ BPs w g f w') → ((w'.cell? ⟨X, 0, none⟩ = some (.int .u64 (r.1 : Int)) ∧ w'.cell? ⟨X, 1, none⟩ = some (.int .u64 (r.2 : Int))) ∧ BPs w g f w')) := fun _ h => h
          generalize (wr.alloc (.cells #[.int .u64 (r.1 : Int), .int .u64 (r.2 : Int)] 76)) = wi at *
          refine wp_region_noPanic ?_
          refine wp_region_held_drew (S := (fun w' => (w'.cell? ⟨X, 0, none⟩ = some (.int .u64 (r.1 : Int)) ∧ w'.cell? ⟨X, 1, none⟩ = some (.int .u64 (r.2 : Int))) ∧ Ever (fun w' => (w'.cell? ⟨X, 0, none⟩ = some (.int .u64 (r.1 : Int)) ∧ w'.cell? ⟨X, 1, none⟩ = some (.int .u64 (r.2 : Int))) ∧ BPs w g f w') w')) (by kernel_rfl) ⟨(HN.out _ hE2.now).1, hE2⟩ (fun hHeld => ?_)
          refine wpAnyH_take (i := 0) (oi := { dst := some 47, op := Op.move (Operand.tmp 3), type := 37, pos := "ref.go:61", after := #[], guard := none }) (v := ?_) rfl (by kernel_rfl) (by kernel_rfl) (by kernel_rfl) (fun _ _ _ h => h) (Or.inl ⟨by rfl, ?_⟩) (by assumption) ?_
          rotate_left
          · intro w hSw; (try dsimp only at hSw); first | (go_simp; done) | (go_simp; with_reducible rfl)
          try simp only [Act.put, List.setIfInBounds_toArray, List.set_cons_zero, List.set_cons_succ]
          refine wpAnyH_take (i := 1) (oi := { dst := some 48, op := Op.fieldAddr 76 (Operand.tmp 7) 0, type := 0, pos := "ref.go:61", after := #[], guard := none }) (v := ?_) rfl (by kernel_rfl) (by kernel_rfl) (by kernel_rfl) (fun _ _ _ h => h) (Or.inl ⟨by rfl, ?_⟩) (by assumption) ?_
          rotate_left
          · intro w hSw; (try dsimp only at hSw); first | (go_simp; done) | (go_simp; with_reducible rfl)
          try simp only [Act.put, List.setIfInBounds_toArray, List.set_cons_zero, List.set_cons_succ]
          refine wpAnyH_take (i := 2) (oi := { dst := some 49, op := Op.load 22 (Operand.tmp 48), type := 22, pos := "ref.go:61", after := #[{ on := 1, ground := Ground.data }], guard := none }) (v := ?_) rfl (by kernel_rfl) (by kernel_rfl) (by kernel_rfl) (fun _ _ _ h => h) (Or.inl ⟨by rfl, ?_⟩) (by assumption) ?_
          rotate_left
          · intro w hSw; (try dsimp only at hSw); first | (go_simp; done) | (go_simp; with_reducible rfl)
          try simp only [Act.put, List.setIfInBounds_toArray, List.set_cons_zero, List.set_cons_succ]
          refine wpAnyH_take (i := 4) (oi := { dst := some 51, op := Op.fieldAddr 76 (Operand.tmp 7) 1, type := 0, pos := "ref.go:61", after := #[], guard := none }) (v := ?_) rfl (by kernel_rfl) (by kernel_rfl) (by kernel_rfl) (fun _ _ _ h => h) (Or.inl ⟨by rfl, ?_⟩) (by assumption) ?_
          rotate_left
          · intro w hSw; (try dsimp only at hSw); first | (go_simp; done) | (go_simp; with_reducible rfl)
          try simp only [Act.put, List.setIfInBounds_toArray, List.set_cons_zero, List.set_cons_succ]
          refine wpAnyH_take (i := 5) (oi := { dst := some 52, op := Op.load 22 (Operand.tmp 51), type := 22, pos := "ref.go:61", after := #[{ on := 4, ground := Ground.data }], guard := none }) (v := ?_) rfl (by kernel_rfl) (by kernel_rfl) (by kernel_rfl) (fun _ _ _ h => h) (Or.inl ⟨by rfl, ?_⟩) (by assumption) ?_
          rotate_left
          · intro w hSw; (try dsimp only at hSw); first | (go_simp; done) | (go_simp; with_reducible rfl)
          try simp only [Act.put, List.setIfInBounds_toArray, List.set_cons_zero, List.set_cons_succ]
          refine wpAnyH_ready (rs := [3]) (by kernel_rfl) (by simp) ?_
          refine AllReadyH.cons (o := { dst := some 50, op := Op.call { callee := Callee.value (Operand.func 63), args := #[Operand.tmp 49], argTypes := #[22] }, type := 37, pos := "ref.go:61", after := #[{ on := 2, ground := Ground.data }], guard := none }) rfl (fun K hK => ?_) AllReadyH.nil
          go_simp
          go_at_call 63
          refine (refNum_any r.1 _ HL0.out).mono ?_
          rintro e w3 ⟨A3, n3, c3, rfl, ho, hb⟩
          replace hE2 := hE2.next hb
          try replace hP := hP.next hb
          have hN3 := ever_sl (Sl.of_own ho)
          clear hb ho
          go_wp2_with fail
          clear hHeld
          refine hK.out _ _ ⟨(HN.out _ hE2.now).1, hE2⟩ (fun hHeld => ?_)
          clear hK K
          try simp only [Act.put, List.setIfInBounds_toArray, List.set_cons_zero, List.set_cons_succ]
          refine wpAnyH_ready (rs := [6]) (by kernel_rfl) (by simp) ?_
          refine AllReadyH.cons (o := { dst := some 53, op := Op.call { callee := Callee.value (Operand.func 63), args := #[Operand.tmp 52], argTypes := #[22] }, type := 37, pos := "ref.go:61", after := #[{ on := 5, ground := Ground.data }, { on := 3, ground := Ground.chain }], guard := none }) rfl (fun K hK => ?_) AllReadyH.nil
          go_simp
          go_at_call 63
          refine (refNum_any r.2 _ HL1.out).mono ?_
          rintro e w4 ⟨A4, n4, c4, rfl, ho, hb⟩
          replace hE2 := hE2.next hb
          try replace hP := hP.next hb
          try replace hN3 := hN3.next hb
          have hN4 := ever_sl (Sl.of_own ho)
          clear hb ho
          go_wp2_with fail
          clear hHeld
          refine hK.out _ _ ⟨(HN.out _ hE2.now).1, hE2⟩ (fun hHeld => ?_)
          clear hK K
          try simp only [Act.put, List.setIfInBounds_toArray, List.set_cons_zero, List.set_cons_succ]
          refine wpAnyH_ready (rs := [7]) (by kernel_rfl) (by simp) ?_
          refine AllReadyH.cons (o := { dst := some 54, op := Op.buildSlice 88 3 #[(0, Operand.tmp 47), (1, Operand.tmp 50), (2, Operand.tmp 53)], type := 88, pos := "ref.go:61", after := #[{ on := 0, ground := Ground.data }, { on := 3, ground := Ground.data }, { on := 6, ground := Ground.data }], guard := none }) rfl (fun K hK => ?_) AllReadyH.nil
          go_simp
          refine absA ?_
          intro wj hwj
          have hbj := below_of hwj
          replace hE2 := hE2.next hbj
          replace hP := hP.next hbj
          replace hN3 := hN3.next hbj
          replace hN4 := hN4.next hbj
          have HWJ := Lib.hid hwj
          clear hbj hwj
          go_wp2_with fail
          clear hHeld
          refine hK.out _ _ ⟨(HN.out _ hE2.now).1, hE2⟩ (fun hHeld => ?_)
          clear hK K
          try simp only [Act.put, List.setIfInBounds_toArray, List.set_cons_zero, List.set_cons_succ]
          refine wpAnyH_ready (rs := [8]) (by kernel_rfl) (by simp) ?_
          refine AllReadyH.cons (o := { dst := some 55, op := Op.call { callee := Callee.value (Operand.func 21), args := #[Operand.tmp 54], argTypes := #[88] }, type := 37, pos := "ref.go:61", after := #[{ on := 7, ground := Ground.data }, { on := 6, ground := Ground.chain }], guard := none }) rfl (fun K hK => ?_) AllReadyH.nil
          go_simp
          go_at_call 21
          have hcj := joinL3 HWJ.out hP.now hN3.now hN4.now (by have h1 := HCT.out; have h2 := HLEN.out; rw [HSN.out] at h1; unfold numsB at h1; simp only [List.length_append, List.flatMap_cons, List.flatMap_nil, List.append_nil] at h1 h2 ⊢; omega)
          refine hcj.mono ?_
          rintro e w5 ⟨A5, n5, c5, rfl, ho9, hb9⟩
          replace hE2 := hE2.next hb9
          clear hP
          have hP := ever_sl (Sl.of_own ho9)
          clear hcj hb9 ho9 HWJ hN3 hN4
          go_wp2_with fail
          clear hHeld
          refine hK.out _ _ ⟨(HN.out _ hE2.now).1, hE2⟩ (fun hHeld => ?_)
          clear hK K
          try simp only [Act.put, List.setIfInBounds_toArray, List.set_cons_zero, List.set_cons_succ]
          refine wpAnyH_take (i := 9) (oi := { dst := some 3, op := Op.assign (Operand.tmp 55), type := 37, pos := "ref.go:61", after := #[{ on := 8, ground := Ground.data }, { on := 8, ground := Ground.chain }, { on := 0, ground := Ground.phase }, { on := 1, ground := Ground.phase }, { on := 2, ground := Ground.phase }, { on := 3, ground := Ground.phase }, { on := 4, ground := Ground.phase }, { on := 5, ground := Ground.phase }, { on := 6, ground := Ground.phase }, { on := 7, ground := Ground.phase }, { on := 8, ground := Ground.phase }], guard := none }) (v := ?_) rfl (by kernel_rfl) (by kernel_rfl) (by kernel_rfl) (fun _ _ _ h => h) (Or.inl ⟨by rfl, ?_⟩) (by assumption) ?_
          rotate_left
          · intro w hSw; (try dsimp only at hSw); first | (go_simp; done) | (go_simp; with_reducible rfl)
          try simp only [Act.put, List.setIfInBounds_toArray, List.set_cons_zero, List.set_cons_succ]
          refine wpAnyH_done (by kernel_rfl) ?_ _
          refine NoPanic.normal ?_
          have hE : Ever (BPs w g f) w5 := hE2.mk2 (fun _ h => h.2)
          clear hE2 HN
          go_wp2
          rw [← ea]
          go_roundg (gk - 1)
          case measure => have := HJ.out; omega
          case rel =>
            refine ⟨j + 1, by have := HJ.out; omega, by go_num, A5, n5, c5, rfl, ?_, hE⟩
            dsimp only
            rw [HSN.out, ← List.append_assoc]
            unfold numsB
            simp only [List.flatMap_cons, List.flatMap_nil, List.append_nil]
            exact hP
        · have hltI : ¬ (j : Int) < (f.nr : Int) := by omega
          have hE' : f.L.take j = f.L := List.take_of_length_le (by have := HLR.out; omega)
          dsimp only at hP
          rw [hE'] at hP
          clear hE'
          go_wp2_with fail
          refine (refClose_any _ _ _ _ _ hP.now (by have := HLEN.out; omega)).mono ?_
          rintro e wz ⟨Az, nz, cz, rfl, hoz, hbz⟩
          have hfin := bytes_done hE hoz hbz (by rw [HT.out])
          clear hoz hbz hE hP
          go_wp2
          go_ret
          exact hfin


/-- What the reference's Encode answers. -/
def REncPost (w : World) (m : Fm) (e : Ending) (w' : World) : Prop :=
  (¬ RightP m ∧ e = .returned (.tuple #[.slice none 0 0, .int .i64 1]) ∧ Below w.heap.size w w') ∨
  (RightP m ∧ 65507 < (encB m).length ∧ e = .returned (.tuple #[.slice none 0 0, .int .i64 6]) ∧ Below w.heap.size w w') ∨
  (RightP m ∧ (encB m).length ≤ 65507 ∧ ∃ A n c, e = .returned (.tuple #[.slice A n c, .int .i64 0]) ∧ Sl w' w'.heap.size A n c (encB m) ∧ Below w.heap.size w w')
set_option maxRecDepth 100000 in
set_option maxHeartbeats 2000000 in
theorem refEncode_any (w : World) (f : Fv) (h : FrAt w f) (hsr : f.nr ≤ 40) (hsi : f.ni ≤ 70) :
    Calls Tryd.prog 17 #[f.r] w (REncPost w f.m) := by
  have HF := Lib.hid h
  have HVR : Hid (f.r = .agg #[.int .i64 (f.kd : Int), .int .i64 f.ag, .int .u64 (f.ep : Int), .int .u64 (f.ic : Int), .int .u64 (f.ba : Int), .int .u64 (f.cu : Int), .int .u64 (f.li : Int), .slice f.Ar f.nr f.cr, .slice f.Ai f.ni f.ci]) := rfl
  have HC1 : Hid (∀ W, Below w.heap.size w W → Calls Tryd.prog 13 #[f.r] W (Says W (.bool (decP (RightP f.m))))) := fun W hb => refRightF_any W f (h.on hb) hsr hsi
  have HC2 : Hid (∀ W, RightP f.m → Below w.heap.size w W → Calls Tryd.prog 36 #[f.r] W (Fresh W (encB f.m))) := fun W hr hb => refBytes5_any W f (h.on hb) hr
  rw [HVR.out] at HC1 HC2
  rw [HVR.out]
  clear h
  go_enter Tryd.func17, Tryd.ntmps17
  go_wp2_with fail
  have hE := bps_start w f HF.out
  obtain ⟨g, hg⟩ : ∃ g, g = w.heap.size := ⟨_, rfl⟩
  rw [← hg] at hE ⊢
  clear hg
  generalize (w.alloc (.cells #[.int .i64 (f.kd : Int), .int .i64 f.ag, .int .u64 (f.ep : Int), .int .u64 (f.ic : Int), .int .u64 (f.ba : Int), .int .u64 (f.cu : Int), .int .u64 (f.li : Int), .slice f.Ar f.nr f.cr, .slice f.Ai f.ni f.ci] 33)) = w1 at *
  refine (HC1.out w1 hE.now.2.2).mono ?_
  rintro e w2 ⟨rfl, hb2⟩
  replace hE := hE.next hb2
  clear hb2
  by_cases hr : RightP f.m
  · rw [decP_yes hr]
    have HR := Lib.hid hr
    clear hr
    obtain ⟨q0, q1, q2, q3, q4, q5, q6, q7, q8⟩ := hE.now.1
    go_wp2_with fail
    refine (HC2.out w2 HR.out hE.now.2.2).mono ?_
    rintro e w3 ⟨A3, n3, c3, rfl, ho3, hb3⟩
    have hs3 := Sl.of_own ho3
    have hln := hs3.len
    have HS3 := Lib.hid hs3
    have HB3 := Lib.hid (hE.next hb3).now.2.2
    clear hb3 ho3 hs3 hE q0 q1 q2 q3 q4 q5 q6 q7 q8
    by_cases hl : 65507 < (encB f.m).length
    · have HL := Lib.hid hl
      have hI : (65507 : Int) < (n3 : Int) := by omega
      clear hl hln
      go_wp2
      refine bodyPost_ret (v := .tuple #[.slice none 0 0, .int .i64 6]) (by simp [results, Tryd.results17, go_sem]) rfl ?_
      exact .inr (.inl ⟨HR.out, HL.out, rfl, HB3.out⟩)
    · have HL : Hid ((encB f.m).length ≤ 65507) := by show _ ≤ _; omega
      have hI : ¬ (65507 : Int) < (n3 : Int) := by omega
      clear hl hln
      go_wp2
      refine bodyPost_ret (v := .tuple #[.slice A3 n3 c3, .int .i64 0]) (by simp [results, Tryd.results17, go_sem]) rfl ?_
      exact .inr (.inr ⟨HR.out, HL.out, A3, n3, c3, rfl, HS3.out, HB3.out⟩)
  · rw [decP_no hr]
    have HR := Lib.hid hr
    have HB2 := Lib.hid hE.now.2.2
    clear hr hE
    go_wp2
    refine bodyPost_ret (v := .tuple #[.slice none 0 0, .int .i64 1]) (by simp [results, Tryd.results17, go_sem]) rfl ?_
    exact .inl ⟨HR.out, rfl, HB2.out⟩
end Go.Proofs.YtlkcnpmgafckoaaDoor
