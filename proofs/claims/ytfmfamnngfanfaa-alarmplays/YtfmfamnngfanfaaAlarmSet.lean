/-
  CONTRACTS of an alarm's forget, Clear, Set.
  No statement is proved here.
-/
import Derived.Test.YtfmfamnngfanfaaAlarmOps
namespace Go.Proofs.Ytfmfamnngfanfaa
open Go.RowKit Go.Sort Go.Maps

def AForgot (w : World) (S : Nat → Prop) (base a id : Nat) (l : List En) (e : Ending) (w' : World) : Prop := e = .returned (.tuple #[]) ∧ Al w' S base a (without id l) ∧ Only S w w'
set_option maxRecDepth 100000 in
set_option maxHeartbeats 4000000 in
theorem aforget_any (w : World) (S : Nat → Prop) (base a mb n c i : Nat) (A : Option Addr) (d : Array Slp) (f : Nat → Option Value) (l : List En) (h : AlP w S base a mb A n c d f) (hh : Heap lessA d n) (hp : (d.toList.map Slp.en).Perm l) (hi : i < n) (hn : n ≤ 100000) :
    Calls Try.prog 74 #[.pointer (some ⟨a, 0, none⟩), .pointer (some ⟨d[i]!.b, 0, none⟩)] w (AForgot w S base a d[i]!.id l) := by
  obtain ⟨m, rfl⟩ : ∃ m, n = m + 1 := ⟨n - 1, by omega⟩
  obtain ⟨rb, rfl⟩ := h.hq.row (by omega)
  have H := Lib.hid h
  have HH := Lib.hid hh
  have HP := Lib.hid hp
  have hsl := h.hq.sl i hi
  have hidl := h.idl _ (get_mem (by rw [h.hq.size]; exact hi))
  have hkey := key64 Try.underlying47 hidl
  have hfs := h.f1 _ (get_mem (by rw [h.hq.size]; exact hi))
  have hout := (h.hq.out i hi).1
  have hmbs : d[i]!.b ≠ mb := fun e => h.mf (by rw [← e]; exact h.hq.ft hi)
  have hmc := h.mc
  have hc0 := hsl.c0
  have hc2 := hsl.c2
  have HKEY := Lib.hid hkey
  have HFS : Hid ((f d[i]!.id).isSome = true) := by show _ = _; rw [hfs]; rfl
  have HIM : Hid (i ≤ m) := by show i ≤ m; omega
  have HX : Hid (d[i]! = d[i]!) := rfl
  obtain ⟨xid, HXI⟩ : ∃ x, Hid (x = d[i]!.id) := ⟨_, rfl⟩
  obtain ⟨xb, HXB⟩ : ∃ x, Hid (x = d[i]!.b) := ⟨_, rfl⟩
  rw [← HXI.out] at hkey hc0
  rw [← HXB.out] at hc0 hc2
  rw [← HXI.out, ← HXB.out]
  clear h hh hp hsl hidl hfs hout hmbs HKEY
  go_enter Try.func74, Try.ntmps74
  go_wp2_with fail
  have H0 : (w.cell? ⟨a, 0, none⟩ = some (.map (some mb)) ∧ w.cell? ⟨xb, 0, none⟩ = some (.int .u64 (xid : Int))) := ⟨hmc, hc0⟩
  refine wp_region_noPanic ?_
  refine wp_region_F (S := (fun w' => w'.cell? ⟨a, 0, none⟩ = some (.map (some mb)) ∧ w'.cell? ⟨xb, 0, none⟩ = some (.int .u64 (xid : Int)))) (F := (fun j => j == 8)) (by kernel_rfl) H0 (fun hHeld => ?_)
  refine wpAnyF_take0 (i := 0) (oi := { dst := some 4, op := Op.move (Operand.tmp 0), type := 81, pos := "alarm.go:101", after := #[], guard := none }) (v := ?_) rfl (by kernel_rfl) (by kernel_rfl) (by kernel_rfl) (fun _ _ _ h => h) (Or.inl ⟨by rfl, ?_⟩) ?_
  rotate_left
  · intro w hSw; (try dsimp only at hSw); first | (go_simp; done) | (go_simp; with_reducible rfl)
  try simp only [Act.put, List.setIfInBounds_toArray, List.set_cons_zero, List.set_cons_succ]
  refine wpAnyF_take0 (i := 1) (oi := { dst := some 5, op := Op.nilCheck (Operand.tmp 4), type := 0, pos := "alarm.go:101", after := #[{ on := 0, ground := Ground.data }], guard := none }) (v := ?_) rfl (by kernel_rfl) (by kernel_rfl) (by kernel_rfl) (fun _ _ _ h => h) (Or.inl ⟨by rfl, ?_⟩) ?_
  rotate_left
  · intro w hSw; (try dsimp only at hSw); first | (go_simp; done) | (go_simp; with_reducible rfl)
  try simp only [Act.put, List.setIfInBounds_toArray, List.set_cons_zero, List.set_cons_succ]
  refine wpAnyF_take0 (i := 2) (oi := { dst := some 6, op := Op.fieldAddr 140 (Operand.tmp 5) 0, type := 0, pos := "alarm.go:101", after := #[{ on := 1, ground := Ground.data }], guard := none }) (v := ?_) rfl (by kernel_rfl) (by kernel_rfl) (by kernel_rfl) (fun _ _ _ h => h) (Or.inl ⟨by rfl, ?_⟩) ?_
  rotate_left
  · intro w hSw; (try dsimp only at hSw); first | (go_simp; done) | (go_simp; with_reducible rfl)
  try simp only [Act.put, List.setIfInBounds_toArray, List.set_cons_zero, List.set_cons_succ]
  refine wpAnyF_take (i := 3) (oi := { dst := some 7, op := Op.load 136 (Operand.tmp 6), type := 136, pos := "alarm.go:101", after := #[{ on := 2, ground := Ground.data }], guard := none }) (v := ?_) (fun j hj => by simp only [beq_iff_eq] at hj; subst hj; exact of_decide_eq_true (by kernel_rfl)) rfl (by kernel_rfl) (by kernel_rfl) (by kernel_rfl) (by kernel_rfl) (by kernel_rfl) (fun _ _ _ h => h) (Or.inl ⟨by rfl, ?_⟩) (by assumption) ?_
  rotate_left
  · intro w hSw; (try dsimp only at hSw); first | (go_simp; done) | (go_simp; with_reducible rfl)
  try simp only [Act.put, List.setIfInBounds_toArray, List.set_cons_zero, List.set_cons_succ]
  refine wpAnyF_take0 (i := 4) (oi := { dst := some 8, op := Op.move (Operand.tmp 1), type := 141, pos := "alarm.go:101", after := #[], guard := none }) (v := ?_) rfl (by kernel_rfl) (by kernel_rfl) (by kernel_rfl) (fun _ _ _ h => h) (Or.inl ⟨by rfl, ?_⟩) ?_
  rotate_left
  · intro w hSw; (try dsimp only at hSw); first | (go_simp; done) | (go_simp; with_reducible rfl)
  try simp only [Act.put, List.setIfInBounds_toArray, List.set_cons_zero, List.set_cons_succ]
  refine wpAnyF_take0 (i := 5) (oi := { dst := some 9, op := Op.nilCheck (Operand.tmp 8), type := 0, pos := "alarm.go:101", after := #[{ on := 4, ground := Ground.data }], guard := none }) (v := ?_) rfl (by kernel_rfl) (by kernel_rfl) (by kernel_rfl) (fun _ _ _ h => h) (Or.inl ⟨by rfl, ?_⟩) ?_
  rotate_left
  · intro w hSw; (try dsimp only at hSw); first | (go_simp; done) | (go_simp; with_reducible rfl)
  try simp only [Act.put, List.setIfInBounds_toArray, List.set_cons_zero, List.set_cons_succ]
  refine wpAnyF_take0 (i := 6) (oi := { dst := some 10, op := Op.fieldAddr 145 (Operand.tmp 9) 0, type := 0, pos := "alarm.go:101", after := #[{ on := 5, ground := Ground.data }], guard := none }) (v := ?_) rfl (by kernel_rfl) (by kernel_rfl) (by kernel_rfl) (fun _ _ _ h => h) (Or.inl ⟨by rfl, ?_⟩) ?_
  rotate_left
  · intro w hSw; (try dsimp only at hSw); first | (go_simp; done) | (go_simp; with_reducible rfl)
  try simp only [Act.put, List.setIfInBounds_toArray, List.set_cons_zero, List.set_cons_succ]
  refine wpAnyF_take (i := 7) (oi := { dst := some 11, op := Op.load 47 (Operand.tmp 10), type := 47, pos := "alarm.go:101", after := #[{ on := 6, ground := Ground.data }], guard := none }) (v := ?_) (fun j hj => by simp only [beq_iff_eq] at hj; subst hj; exact of_decide_eq_true (by kernel_rfl)) rfl (by kernel_rfl) (by kernel_rfl) (by kernel_rfl) (by kernel_rfl) (by kernel_rfl) (fun _ _ _ h => h) (Or.inl ⟨by rfl, ?_⟩) (by assumption) ?_
  rotate_left
  · intro w hSw; (try dsimp only at hSw); first | (go_simp; done) | (go_simp; with_reducible rfl)
  try simp only [Act.put, List.setIfInBounds_toArray, List.set_cons_zero, List.set_cons_succ]
  refine wpAnyF_oneF (i := 8) (o := { dst := none, op := Op.call { callee := Callee.builtin Builtin.delete, args := #[Operand.tmp 7, Operand.tmp 11], argTypes := #[136, 47] }, type := 0, pos := "alarm.go:101", after := #[{ on := 3, ground := Ground.data }, { on := 7, ground := Ground.data }], guard := none }) (by kernel_rfl) (by kernel_rfl) rfl (fun K hK => ?_)
  rw [if_pos (by rfl)]
  refine oper_mvDel (.tmp 7) (.tmp 11) 136 47 rfl 141 u64_keyed Try.underlying136 mb (m + 1) f rfl (H.out.mv.kept rfl) xid rfl hkey ?_
  intro w2 hm2 ho2
  rw [HXI.out, HFS.out, if_pos rfl, Nat.add_sub_cancel] at hm2
  have HM2 := Lib.hid hm2
  have HO2 : Hid (Only (fun k => k = mb) w w2) := (show Only (fun k => k = mb) w w.drew from (Only.refl _ w).drew).trans ho2 (fun _ _ k => k)
  clear hm2 ho2
  refine hK.out _ _ ?_
  clear hK K
  try simp only [Act.put]
  refine wpAnyF_done (by kernel_rfl) ?_ _
  refine NoPanic.normal ?_
  have HQ2 : Hid (Hq w2 base a (some ⟨rb, 0, none⟩) (m + 1) c d) := H.out.hq.only HO2.out (fun k _ e => by subst e; exact ⟨H.out.ma, H.out.mf⟩)
  have hc22 : w2.cell? ⟨xb, 2, none⟩ = some (.int .i64 (i : Int)) := by rw [HXB.out]; exact (HQ2.out.sl i hi).c2
  clear hmc hc0 hc2 H0
  go_wp2_with fail
  refine wp_region_noPanic ?_
  refine wp_region_F (S := (fun w' => w'.cell? ⟨xb, 2, none⟩ = some (.int .i64 (i : Int)))) (F := (fun j => j == 8)) (by kernel_rfl) hc22 (fun hHeld => ?_)
  refine wpAnyF_take0 (i := 0) (oi := { dst := some 12, op := Op.move (Operand.tmp 0), type := 81, pos := "alarm.go:102", after := #[], guard := none }) (v := ?_) rfl (by kernel_rfl) (by kernel_rfl) (by kernel_rfl) (fun _ _ _ h => h) (Or.inl ⟨by rfl, ?_⟩) ?_
  rotate_left
  · intro w hSw; (try dsimp only at hSw); first | (go_simp; done) | (go_simp; with_reducible rfl)
  try simp only [Act.put, List.setIfInBounds_toArray, List.set_cons_zero, List.set_cons_succ]
  refine wpAnyF_take0 (i := 1) (oi := { dst := some 13, op := Op.nilCheck (Operand.tmp 12), type := 0, pos := "alarm.go:102", after := #[{ on := 0, ground := Ground.data }], guard := none }) (v := ?_) rfl (by kernel_rfl) (by kernel_rfl) (by kernel_rfl) (fun _ _ _ h => h) (Or.inl ⟨by rfl, ?_⟩) ?_
  rotate_left
  · intro w hSw; (try dsimp only at hSw); first | (go_simp; done) | (go_simp; with_reducible rfl)
  try simp only [Act.put, List.setIfInBounds_toArray, List.set_cons_zero, List.set_cons_succ]
  refine wpAnyF_take0 (i := 2) (oi := { dst := some 14, op := Op.fieldAddr 140 (Operand.tmp 13) 1, type := 0, pos := "alarm.go:102", after := #[{ on := 1, ground := Ground.data }], guard := none }) (v := ?_) rfl (by kernel_rfl) (by kernel_rfl) (by kernel_rfl) (fun _ _ _ h => h) (Or.inl ⟨by rfl, ?_⟩) ?_
  rotate_left
  · intro w hSw; (try dsimp only at hSw); first | (go_simp; done) | (go_simp; with_reducible rfl)
  try simp only [Act.put, List.setIfInBounds_toArray, List.set_cons_zero, List.set_cons_succ]
  refine wpAnyF_take0 (i := 3) (oi := { dst := some 15, op := Op.makeInterface 147 (Operand.tmp 14), type := 170, pos := "alarm.go:102", after := #[{ on := 2, ground := Ground.data }], guard := none }) (v := ?_) rfl (by kernel_rfl) (by kernel_rfl) (by kernel_rfl) (fun _ _ _ h => h) (Or.inl ⟨by rfl, ?_⟩) ?_
  rotate_left
  · intro w hSw; (try dsimp only at hSw); first | (go_simp; done) | (go_simp; with_reducible rfl)
  try simp only [Act.put, List.setIfInBounds_toArray, List.set_cons_zero, List.set_cons_succ]
  refine wpAnyF_take0 (i := 4) (oi := { dst := some 16, op := Op.move (Operand.tmp 1), type := 141, pos := "alarm.go:102", after := #[], guard := none }) (v := ?_) rfl (by kernel_rfl) (by kernel_rfl) (by kernel_rfl) (fun _ _ _ h => h) (Or.inl ⟨by rfl, ?_⟩) ?_
  rotate_left
  · intro w hSw; (try dsimp only at hSw); first | (go_simp; done) | (go_simp; with_reducible rfl)
  try simp only [Act.put, List.setIfInBounds_toArray, List.set_cons_zero, List.set_cons_succ]
  refine wpAnyF_take0 (i := 5) (oi := { dst := some 17, op := Op.nilCheck (Operand.tmp 16), type := 0, pos := "alarm.go:102", after := #[{ on := 4, ground := Ground.data }], guard := none }) (v := ?_) rfl (by kernel_rfl) (by kernel_rfl) (by kernel_rfl) (fun _ _ _ h => h) (Or.inl ⟨by rfl, ?_⟩) ?_
  rotate_left
  · intro w hSw; (try dsimp only at hSw); first | (go_simp; done) | (go_simp; with_reducible rfl)
  try simp only [Act.put, List.setIfInBounds_toArray, List.set_cons_zero, List.set_cons_succ]
  refine wpAnyF_take0 (i := 6) (oi := { dst := some 18, op := Op.fieldAddr 145 (Operand.tmp 17) 2, type := 0, pos := "alarm.go:102", after := #[{ on := 5, ground := Ground.data }], guard := none }) (v := ?_) rfl (by kernel_rfl) (by kernel_rfl) (by kernel_rfl) (fun _ _ _ h => h) (Or.inl ⟨by rfl, ?_⟩) ?_
  rotate_left
  · intro w hSw; (try dsimp only at hSw); first | (go_simp; done) | (go_simp; with_reducible rfl)
  try simp only [Act.put, List.setIfInBounds_toArray, List.set_cons_zero, List.set_cons_succ]
  refine wpAnyF_take (i := 7) (oi := { dst := some 19, op := Op.load 3 (Operand.tmp 18), type := 3, pos := "alarm.go:102", after := #[{ on := 6, ground := Ground.data }], guard := none }) (v := ?_) (fun j hj => by simp only [beq_iff_eq] at hj; subst hj; exact of_decide_eq_true (by kernel_rfl)) rfl (by kernel_rfl) (by kernel_rfl) (by kernel_rfl) (by kernel_rfl) (by kernel_rfl) (fun _ _ _ h => h) (Or.inl ⟨by rfl, ?_⟩) (by assumption) ?_
  rotate_left
  · intro w hSw; (try dsimp only at hSw); first | (go_simp; done) | (go_simp; with_reducible rfl)
  try simp only [Act.put, List.setIfInBounds_toArray, List.set_cons_zero, List.set_cons_succ]
  refine wpAnyF_oneF (i := 8) (o := { dst := some 20, op := Op.call { callee := Callee.value (Operand.func 93), args := #[Operand.tmp 15, Operand.tmp 19], argTypes := #[170, 3] }, type := 20, pos := "alarm.go:102", after := #[{ on := 3, ground := Ground.data }, { on := 7, ground := Ground.data }], guard := none }) (by kernel_rfl) (by kernel_rfl) rfl (fun K hK => ?_)
  go_simp
  go_at_call 93
  have hrm := aremove_any w2.drew base a rb m c i d (HQ2.out.only (Only.refl (fun _ => False) w2).drew (fun _ _ k => k.elim)) HH.out HIM.out (by omega)
  unfold hva at hrm
  have HRM := Lib.hid hrm
  clear hrm
  with_reducible refine HRM.out.mono ?_
  rintro e w5 ⟨rfl, d', h5, hh5, hp5, ho5, hk5⟩
  have HF := Lib.hid (H.out.gone HM2.out HO2.out h5 hp5 ((Only.refl _ w2).drew.trans ho5 (fun _ _ k => k)) hk5)
  have HH5 := Lib.hid hh5
  have HP5 := Lib.hid hp5
  clear h5 hh5 hp5 ho5 hk5
  try go_wp2_with fail
  refine hK.out _ _ ?_
  clear hK K
  try simp only [Act.put, List.setIfInBounds_toArray, List.set_cons_zero, List.set_cons_succ]
  refine wpAnyF_done (by kernel_rfl) ?_ _
  refine NoPanic.normal ?_
  go_wp2
  go_end0
  refine ⟨rfl, ⟨mb, _, m, c, d', _, HF.out.1, HH5.out, ?_⟩, HF.out.2⟩
  rw [HXI.out]
  exact gone_perm HP5.out HP.out H.out.nd
def AClear (w : World) (S : Nat → Prop) (base a id : Nat) (l : List En) (e : Ending) (w' : World) : Prop := e = .returned (.bool (timeOf id l).isSome) ∧ Al w' S base a (without id l) ∧ Only S w w'
set_option maxRecDepth 100000 in
set_option maxHeartbeats 1000000 in
theorem aclear_any (w : World) (S : Nat → Prop) (base a id : Nat) (l : List En) (h : Al w S base a l) (hid : id < 18446744073709551616) (hn : l.length ≤ 100000) : Calls Try.prog 42 #[.pointer (some ⟨a, 0, none⟩), .int .u64 (id : Int)] w (AClear w S base a id l) := by
  obtain ⟨mb, A, n, c, d, f, h1, h2, h3⟩ := h.ex
  have hkey := key64 Try.underlying47 hid
  have hmc := h1.mc
  have hln := h1.len h3
  have HM := Lib.hid h1.mv
  unfold AClear
  rcases h1.find h3 id with ⟨ht, hf⟩ | ⟨i, hi, e, ht, hf⟩
  · have HF := Lib.hid hf
    have HW : Hid (without id l = l) := without_none (timeOf_none.1 ht)
    have H := Lib.hid h
    rw [ht]
    clear h h1 h2 h3 ht hf
    go_enter Try.func42, Try.ntmps42
    go_wp2_with (at_lookup; refine wpList_mv2 _ rfl _ _ 136 rfl 47 141 u64_keyed Try.underlying136 (.pointer none) (zero_sleeper _) mb n f rfl HM.out id rfl hkey (.pointer none) false (by rw [HF.out]; rfl) (by rw [HF.out]; rfl) ?_)
    go_ret
    exact ⟨rfl, by rw [HW.out]; exact H.out, Only.refl _ _⟩
  · have HF := Lib.hid hf
    have hfg := aforget_any w S base a mb n c i A d f l h1 h2 h3 hi (by omega)
    rw [e] at hfg
    have HFG := Lib.hid hfg
    rw [ht]
    generalize d[i]!.b = xb at *
    clear h h1 h2 h3 ht hf e hfg
    go_enter Try.func42, Try.ntmps42
    go_wp2_with (at_lookup; refine wpList_mv2 _ rfl _ _ 136 rfl 47 141 u64_keyed Try.underlying136 (.pointer none) (zero_sleeper _) mb n f rfl HM.out id rfl hkey (.pointer (some ⟨xb, 0, none⟩)) true (by rw [HF.out]; rfl) (by rw [HF.out]; rfl) ?_)
    refine HFG.out.mono ?_
    rintro e w2 ⟨rfl, h2, ho2⟩
    have H2 := Lib.hid h2
    have HO2 := Lib.hid ho2
    clear h2 ho2
    go_wp2_with fail
    go_ret
    exact ⟨rfl, H2.out, HO2.out⟩
set_option maxRecDepth 100000 in
theorem aclear_nil (w : World) (id : Int) : Calls Try.prog 42 #[.pointer none, .int .u64 id] w fun e w' => e = .returned (.bool false) ∧ w = w' := by
  go_enter Try.func42, Try.ntmps42
  go_wp2_with fail
  go_ret
  exact ⟨rfl, rfl⟩
end Go.Proofs.Ytfmfamnngfanfaa
