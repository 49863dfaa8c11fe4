/-
  CONTRACTS of lines' Push, Pop; of container/heap's Push, Pop over them.
  No statement is proved here.
-/
import Derived.Test.YtfmfamnngfanfaaShareDown
import Derived.Test.YtfmfamnngfanfaaRegions
import Derived.WalkSmall
namespace Go.Proofs.Ytfmfamnngfanfaa
open Go.RowKit Go.Sort

def lnv (x : Ln) : Value := .agg #[.int .i64 (x.cls : Int), .int .i64 (x.plc : Int), .slice x.A x.n x.c, .int .i64 x.byt, .int .i64 x.exc]
theorem line_info : (Try.prog.info? 152).map (fun i => (i.zero, i.size, i.bytes)) = some (some (.agg #[.int .i64 0, .int .i64 0, .slice none 0 0, .int .i64 0, .int .i64 0]), 5, 56) := by kernel_rfl
/-- The heap's variable, or its row. -/
def Its (g : Nat) (A : Option Addr) (n c : Nat) (k : Nat) : Prop := k = g ∨ some k = (Value.slice A n c).ownBlock
def Pushed (w : World) (base g : Nat) (A : Option Addr) (n c : Nat) (d : Array Ln) (x : Ln) (e : Ending) (w' : World) : Prop :=
  e = .returned (.tuple #[]) ∧ ∃ A' c', Hp w' base g A' (n + 1) c' (d.push x) ∧ Near w A A' ∧ Only (Its g A n c) w w'
theorem assert_line (a b c d e : Value) (w : World) : (Instr.typeAssert (.iface 152 (.agg #[a, b, c, d, e])) 20 152 false).run Try.prog w = .ok (.agg #[a, b, c, d, e]) w := by kernel_rfl
theorem Hp.set {w : World} {base g n' c' : Nat} {A' : Option Addr} {d' : Array Ln} {v : Value} (hc : w.cell? ⟨g, 0, none⟩ = some v) (hf : w.frozen? ⟨g, 0, none⟩ = false) (hgb : base ≤ g)
    (ho : w.ownsRow base 152 5 (.slice A' n' c') n' (lvs d'.toList)) (hoff : (Value.slice A' n' c').ownBlock ≠ some g) : Hp (w.setCell ⟨g, 0, none⟩ (.slice A' n' c')) base g A' n' c' d' := by
  refine ⟨?_, by rw [World.frozen?_setCell]; exact hf, ?_, hoff, hgb⟩
  · exact World.cell?_setCell_same _ _ _ hc
  · exact ho.kept (row := some g) ⟨rfl, rfl, rfl, by simp, fun k _ hk => RowKit.Below.heap_setCell w ⟨g, 0, none⟩ _ k (fun e => hk (by rw [e]))⟩ (.inr hoff)
theorem push_end {w2 w9 : World} {base g n c c9 : Nat} {A A9 : Option Addr} {d : Array Ln} {x : Ln} (H2 : Hp w2 base g A n c d) (ho : w9.ownsRow base 152 5 (.slice A9 (n + 1) c9) (n + 1) (lvs d.toList ++ lv x))
    (h5 : w2.grownBy w9 (if n = c then none else (Value.slice A n c).ownBlock)) (h6 : Near w2 A A9) :
    w9.cell? ⟨g, 0, none⟩ = some (.slice A n c) ∧ w9.frozen? ⟨g, 0, none⟩ = false ∧ Hp (w9.setCell ⟨g, 0, none⟩ (.slice A9 (n + 1) c9)) base g A9 (n + 1) c9 (d.push x) ∧ Only (Its g A n c) w2 (w9.setCell ⟨g, 0, none⟩ (.slice A9 (n + 1) c9)) := by
  have hne : some g ≠ (if n = c then none else (Value.slice A n c).ownBlock) := by
    split
    · simp
    · exact fun e => H2.off e.symm
  have hb := h5.block g H2.lt hne
  have hc := (World.cell?_of_block (a := ⟨g, 0, none⟩) hb).trans H2.cell
  have hf := (World.frozen?_of_block (a := ⟨g, 0, none⟩) hb).trans H2.frz
  refine ⟨hc, hf, Hp.set hc hf H2.gb (by rw [Array.toList_push, lvs_app, lvs_one1]; exact ho) ?_, ?_⟩
  · rcases h6 with rfl | ⟨b, rfl, hb⟩
    · rw [own_block _ _ _ n c]; exact H2.off
    · intro e
      simp [Value.ownBlock] at e
      have := H2.lt
      omega
  · refine Only.trans (Only.of_grown h5 (S := Its g A n c) (fun k e => ?_)) (Only.setCell w9 g 0 _) (fun i _ e => .inl e)
    split at e
    · cases e
    · exact .inr e
set_option maxRecDepth 100000 in
set_option maxHeartbeats 4000000 in
theorem lpush_any (w : World) (base g : Nat) (A : Option Addr) (n c : Nat) (d : Array Ln) (x : Ln) (h : Hp w base g A n c d) (hn : n ≤ 1000000) :
    Calls Try.prog 150 #[.pointer (some ⟨g, 0, none⟩), .iface 152 (lnv x)] w (Pushed w base g A n c d x) := by
  obtain ⟨i0, hi0, hz0, hz1, hz2⟩ := info_parts line_info
  have H := Lib.hid h
  have hgz := h.lt
  have hgb := h.gb
  clear h
  unfold lnv
  have hta := assert_line (.int .i64 (x.cls : Int)) (.int .i64 (x.plc : Int)) (.slice x.A x.n x.c) (.int .i64 x.byt) (.int .i64 x.exc)
  go_enter Try.func150, Try.ntmps150
  go_wp2_with fail
  have hc0 : w.drew.cell? ⟨g, 0, none⟩ = some (.slice A n c) := H.out.cell
  refine wp_region_noPanic ?_
  refine wp_region_F (S := (fun w' => w'.cell? ⟨g, 0, none⟩ = some (.slice A n c))) (F := (fun j => j == 7 || j == 9)) (by kernel_rfl) hc0 (fun hHeld => ?_)
  refine wpAnyF_take0 (i := 0) (oi := { dst := some 4, op := Op.move (Operand.tmp 0), type := 153, pos := "share.go:85", after := #[], guard := none }) (v := ?_) rfl (by kernel_rfl) (by kernel_rfl) (by kernel_rfl) (fun _ _ _ h => h) (Or.inl ⟨by rfl, ?_⟩) ?_
  rotate_left
  · intro w hSw; (try dsimp only at hSw); first | (go_simp; done) | (go_simp; with_reducible rfl)
  try simp only [Act.put, List.setIfInBounds_toArray, List.set_cons_zero, List.set_cons_succ]
  refine wpAnyF_take0 (i := 1) (oi := { dst := some 5, op := Op.move (Operand.tmp 0), type := 153, pos := "share.go:85", after := #[], guard := none }) (v := ?_) rfl (by kernel_rfl) (by kernel_rfl) (by kernel_rfl) (fun _ _ _ h => h) (Or.inl ⟨by rfl, ?_⟩) ?_
  rotate_left
  · intro w hSw; (try dsimp only at hSw); first | (go_simp; done) | (go_simp; with_reducible rfl)
  try simp only [Act.put, List.setIfInBounds_toArray, List.set_cons_zero, List.set_cons_succ]
  refine wpAnyF_take0 (i := 2) (oi := { dst := some 6, op := Op.nilCheck (Operand.tmp 5), type := 0, pos := "share.go:85", after := #[{ on := 1, ground := Ground.data }], guard := none }) (v := ?_) rfl (by kernel_rfl) (by kernel_rfl) (by kernel_rfl) (fun _ _ _ h => h) (Or.inl ⟨by rfl, ?_⟩) ?_
  rotate_left
  · intro w hSw; (try dsimp only at hSw); first | (go_simp; done) | (go_simp; with_reducible rfl)
  try simp only [Act.put, List.setIfInBounds_toArray, List.set_cons_zero, List.set_cons_succ]
  refine wpAnyF_take (i := 3) (oi := { dst := some 7, op := Op.load 150 (Operand.tmp 6), type := 150, pos := "share.go:85", after := #[{ on := 2, ground := Ground.data }], guard := none }) (v := ?_) (fun j hj => by simp only [Bool.or_eq_true, beq_iff_eq] at hj; rcases hj with rfl | rfl <;> exact of_decide_eq_true (by kernel_rfl)) rfl (by kernel_rfl) (by kernel_rfl) (by kernel_rfl) (by kernel_rfl) (by kernel_rfl) (fun _ _ _ h => h) (Or.inl ⟨by rfl, ?_⟩) (by assumption) ?_
  rotate_left
  · intro w hSw; (try dsimp only at hSw); first | (go_simp; done) | (go_simp; with_reducible rfl)
  try simp only [Act.put, List.setIfInBounds_toArray, List.set_cons_zero, List.set_cons_succ]
  refine wpAnyF_take0 (i := 4) (oi := { dst := some 8, op := Op.move (Operand.tmp 1), type := 20, pos := "share.go:85", after := #[], guard := none }) (v := ?_) rfl (by kernel_rfl) (by kernel_rfl) (by kernel_rfl) (fun _ _ _ h => h) (Or.inl ⟨by rfl, ?_⟩) ?_
  rotate_left
  · intro w hSw; (try dsimp only at hSw); first | (go_simp; done) | (go_simp; with_reducible rfl)
  try simp only [Act.put, List.setIfInBounds_toArray, List.set_cons_zero, List.set_cons_succ]
  refine wpAnyF_take0 (i := 5) (oi := { dst := some 9, op := Op.typeAssert (Operand.tmp 8) 20 152 false, type := 152, pos := "share.go:85", after := #[{ on := 4, ground := Ground.data }], guard := none }) (v := ?_) rfl (by kernel_rfl) (by kernel_rfl) (by kernel_rfl) (fun _ _ _ h => h) (Or.inl ⟨by rfl, ?_⟩) ?_
  rotate_left
  · intro w hSw; (try dsimp only at hSw); first | (go_simp; done) | (go_simp; with_reducible rfl)
  try simp only [Act.put, List.setIfInBounds_toArray, List.set_cons_zero, List.set_cons_succ]
  refine wpAnyF_one (i := 6) (o := { dst := some 10, op := Op.buildSlice 150 1 #[(0, Operand.tmp 9)], type := 150, pos := "share.go:85", after := #[{ on := 5, ground := Ground.data }], guard := none }) (by kernel_rfl) rfl (fun K hK => ?_)
  go_simp
  have HB := Lib.hid ((below_box w (.cells #[.int .i64 (x.cls : Int), .int .i64 (x.plc : Int), .slice x.A x.n x.c, .int .i64 x.byt, .int .i64 x.exc] 152)).drew)
  have HQ : Hid (Sn (w.alloc (.cells #[.int .i64 (x.cls : Int), .int .i64 (x.plc : Int), .slice x.A x.n x.c, .int .i64 x.byt, .int .i64 x.exc] 152)).drew (w.heap.size + 1) (some ⟨w.heap.size, 0, none⟩) 1 1 5 (lv x)) := (lit_sn w 152 (lv x) 1 5 rfl (by unfold maxLen; omega)).drewN 1
  have H2 := Lib.hid (H.out.below HB.out)
  have hcB := H2.out.cell
  generalize (w.alloc (.cells #[.int .i64 (x.cls : Int), .int .i64 (x.plc : Int), .slice x.A x.n x.c, .int .i64 x.byt, .int .i64 x.exc] 152)).drew = w2 at *
  try go_wp2_with fail
  try clear hHeld
  refine hK.out _ _ hcB (fun hHeld => ?_)
  clear hK K
  try simp only [Act.put, List.setIfInBounds_toArray, List.set_cons_zero, List.set_cons_succ]
  refine wpAnyF_oneF (i := 7) (o := { dst := some 11, op := Op.call { callee := Callee.builtin Builtin.append, args := #[Operand.tmp 7, Operand.tmp 10], argTypes := #[150, 150] }, type := 150, pos := "share.go:85", after := #[{ on := 3, ground := Ground.data }, { on := 6, ground := Ground.data }], guard := none }) (by kernel_rfl) (by kernel_rfl) rfl (fun K hK => ?_)
  rw [if_pos (by rfl)]
  refine oper_append_dstN (.tmp 7) (.tmp 10) 150 150 rfl base 152 i0 _ 5 56 Try.underlying150 hi0 hz0 hz1 hz2 rfl A n c (lvs d.toList) rfl (.inr H2.out.own) _ 1 (lv x) rfl (HQ.out.src Try.underlying150 (lv_one x)) (by omega) (by omega) (by have := H2.out.lt; have := H2.out.gb; omega) ?_
  intro A9 c9 w9 h1 h2 h3 h4 h5 h6
  obtain ⟨hc9, hf9, hp9, hon⟩ := push_end (x := x) H2.out (h3 H2.out.own) h5 h6
  have HP9 := Lib.hid hp9
  have HON := Lib.hid hon
  have HN9 : Hid (Near w2 A A9) := h6
  clear h1 h2 h3 h4 h5 h6 hp9 hon
  refine hK.out _ _ ?_
  clear hK K
  try simp only [Act.put, List.setIfInBounds_toArray, List.set_cons_zero, List.set_cons_succ]
  refine wpAnyF_take0 (i := 8) (oi := { dst := some 12, op := Op.nilCheck (Operand.tmp 4), type := 0, pos := "share.go:85", after := #[{ on := 0, ground := Ground.data }, { on := 0, ground := Ground.phase }, { on := 1, ground := Ground.phase }, { on := 2, ground := Ground.phase }, { on := 3, ground := Ground.phase }, { on := 4, ground := Ground.phase }, { on := 5, ground := Ground.phase }, { on := 6, ground := Ground.phase }, { on := 7, ground := Ground.phase }], guard := none }) (v := ?_) rfl (by kernel_rfl) (by kernel_rfl) (by kernel_rfl) (fun _ _ _ h => h) (Or.inl ⟨by rfl, ?_⟩) ?_
  rotate_left
  · intro w hSw; (try dsimp only at hSw); first | (go_simp; done) | (go_simp; with_reducible rfl)
  try simp only [Act.put, List.setIfInBounds_toArray, List.set_cons_zero, List.set_cons_succ]
  refine wpAnyF_oneF (i := 9) (o := { dst := none, op := Op.store 150 (Operand.tmp 12) (Operand.tmp 11), type := 0, pos := "share.go:85", after := #[{ on := 8, ground := Ground.data }, { on := 7, ground := Ground.data }, { on := 7, ground := Ground.chain }, { on := 0, ground := Ground.phase }, { on := 1, ground := Ground.phase }, { on := 2, ground := Ground.phase }, { on := 3, ground := Ground.phase }, { on := 4, ground := Ground.phase }, { on := 5, ground := Ground.phase }, { on := 6, ground := Ground.phase }, { on := 7, ground := Ground.phase }], guard := none }) (by kernel_rfl) (by kernel_rfl) rfl (fun K hK => ?_)
  go_simp
  skip
  try go_wp2_with fail
  refine hK.out _ _ ?_
  clear hK K
  try simp only [Act.put, List.setIfInBounds_toArray, List.set_cons_zero, List.set_cons_succ]
  refine wpAnyF_done (by kernel_rfl) ?_ _
  refine NoPanic.normal ?_
  go_wp2
  go_end0
  exact ⟨rfl, A9, c9, HP9.out, HN9.out.of HB.out.size, (Only.of_below HB.out).trans HON.out (fun _ _ h => h)⟩
def Popped (w : World) (base g : Nat) (A : Option Addr) (m c : Nat) (d : Array Ln) (e : Ending) (w' : World) : Prop :=
  e = .returned (.iface 152 (lnv d[m]!)) ∧ Hp w' base g A m c d.pop ∧ Only (Its g A m c) w w'
theorem pop_list {d : Array Ln} {m : Nat} (h : d.size = m + 1) : d.toList = d.pop.toList ++ [d[m]!] := by
  have h1 : d.toList ≠ [] := by intro e; rw [← Array.length_toList, e] at h; simp at h
  have h2 := List.dropLast_concat_getLast h1
  have h3 : d.toList.getLast h1 = d[m]! := by
    rw [List.getLast_eq_getElem, getElem!_pos d m (by omega)]
    simp [h]
  rw [Array.toList_pop, ← h3]
  exact h2.symm
theorem pop_end {w w2 : World} {base g m c : Nat} {A : Option Addr} {d : Array Ln} (H : Hp w base g A (m + 1) c d) (hb : RowKit.Below w.heap.size w w2) :
    w2.cell? ⟨g, 0, none⟩ = some (.slice A (m + 1) c) ∧ w2.frozen? ⟨g, 0, none⟩ = false ∧ Hp (w2.setCell ⟨g, 0, none⟩ (.slice A m c)) base g A m c d.pop ∧ Only (Its g A m c) w (w2.setCell ⟨g, 0, none⟩ (.slice A m c)) := by
  have H2 := H.below hb
  have hs := H.size
  refine ⟨H2.cell, H2.frz, Hp.set H2.cell H2.frz H2.gb ?_ (by rw [own_block _ _ _ (m + 1) c]; exact H2.off), (Only.of_below hb).trans (Only.setCell w2 g 0 _) (fun i _ e => .inl e)⟩
  have ho := H2.own
  rw [pop_list hs, lvs_app, lvs_one1] at ho
  obtain ⟨rb, rfl⟩ := H.row (by omega)
  exact ownsRow_pop (by rw [lvs_len]; simp [hs]) ho
set_option maxRecDepth 100000 in
set_option maxHeartbeats 4000000 in
theorem lpop_any (w : World) (base g : Nat) (A : Option Addr) (m c : Nat) (d : Array Ln) (h : Hp w base g A (m + 1) c d) (hn : m ≤ 1000000) :
    Calls Try.prog 149 #[.pointer (some ⟨g, 0, none⟩)] w (Popped w base g A m c d) := by
  obtain ⟨rb, rfl⟩ := h.row (by omega)
  have H := Lib.hid h
  have hc := h.cell
  have hf := h.frz
  obtain ⟨hat, _⟩ := own_at5 h.own (show m < m + 1 by omega)
  have hle : m + 1 ≤ c := by
    rcases h.own.2 with ⟨h0, _⟩ | ⟨_, _, _, hv, _, _, hle, _⟩
    · cases h0
    · injection hv with _ _ e3; omega
  have hleI : (m : Int) ≤ (c : Int) := by omega
  have hgz := h.lt
  obtain ⟨k0, k1, k2, k3, k4⟩ := hat
  rw [Nat.zero_add] at k0 k1 k2 k3 k4
  have HL : Hid (lnv d[m]! = lnv d[m]!) := rfl
  have e1 : ((m + 1 : Nat) : Int) - 1 = (m : Int) := by omega
  generalize hx : d[m]! = x at *
  have HX := Lib.hid hx
  unfold Popped
  rw [HX.out]
  clear h hx HL hle
  unfold lnv
  go_enter Try.func149, Try.ntmps149
  go_wp2_with fail
  go_ret
  have hend := (pop_end H.out (RowKit.Below.refl _ _)).2.2
  have hb := below_box (w.setCell ⟨g, 0, none⟩ (.slice (some ⟨rb, 0, none⟩) m c)) (.cells #[.int .i64 (x.cls : Int), .int .i64 (x.plc : Int), .slice x.A x.n x.c, .int .i64 x.byt, .int .i64 x.exc] 152)
  exact ⟨rfl, hend.1.below hb, hend.2.trans (Only.of_below hb) (fun _ _ h => h)⟩

/-! ### container/heap -/
def HPushed (w : World) (base g : Nat) (A : Option Addr) (n c : Nat) (d : Array Ln) (x : Ln) (e : Ending) (w' : World) : Prop :=
  e = .returned (.tuple #[]) ∧ ∃ A' c' d', Hp w' base g A' (n + 1) c' d' ∧ Heap lessL d' (n + 1) ∧ d'.toList.Perm (x :: d.toList) ∧ Near w A A' ∧ Only (Its g A n c) w w'
theorem Its.near {w : World} {g n c n' c' : Nat} {A A' : Option Addr} (h : Near w A A') {i : Nat} (hi : i < w.heap.size) (hs : Its g A' n' c' i) : Its g A n c i := by
  rcases hs with rfl | hs
  · exact .inl rfl
  · rcases h with rfl | ⟨b, rfl, hb⟩
    · exact .inr (by rw [own_block _ n c n' c']; exact hs)
    · simp [Value.ownBlock] at hs
      omega
set_option maxRecDepth 100000 in
set_option maxHeartbeats 4000000 in
theorem hpush_any (w : World) (base g : Nat) (A : Option Addr) (n c : Nat) (d : Array Ln) (x : Ln) (h : Hp w base g A n c d) (hh : Heap lessL d n) (hn : n ≤ 100000) :
    Calls Try.prog 76 #[hv g, .iface 152 (lnv x)] w (HPushed w base g A n c d x) := by
  have H := Lib.hid h
  have HH := Lib.hid hh
  have HS := Lib.hid h.size
  have hm := fun w => meth_push ⟨g, 0, none⟩ w
  obtain ⟨xv, HX⟩ : ∃ xv, Hid (xv = lnv x) := ⟨_, rfl⟩
  rw [← HX.out]
  clear h hh
  unfold hv
  go_enter Try.func76, Try.ntmps76
  go_wp2_with fail
  rw [HX.out]
  refine (lpush_any w base g A n c d x H.out (by omega)).mono ?_
  rintro e w2 ⟨rfl, A2, c2, h2, hnear, honly⟩
  obtain ⟨rb, rfl⟩ := h2.row (by omega)
  have H2 := Lib.hid h2
  have HN := Lib.hid hnear
  have HO := Lib.hid honly
  have hml := meth_len h2.cell
  have e1 : ((n + 1 : Nat) : Int) - 1 = (n : Int) := by omega
  clear h2 hnear honly hm
  go_wp2_with fail
  refine (len_any8 w2 _ (n + 1) c2).mono ?_
  rintro e w3 ⟨rfl, rfl⟩
  go_wp2_with fail
  refine (up_any w2 base g rb (n + 1) c2 n (d.push x) H2.out (by omega) (push_start x HH.out HS.out) (by omega)).mono ?_
  rintro e w4 ⟨rfl, d', h4, hh4, hp4, hg4⟩
  have H4 := Lib.hid h4
  have HH4 := Lib.hid hh4
  have HP4 := Lib.hid hp4
  have HG4 := Lib.hid hg4
  clear h4 hh4 hp4 hg4 hml
  go_wp2
  go_end0
  refine ⟨rfl, _, c2, d', H4.out, HH4.out, HP4.out.trans ?_, HN.out, HO.out.trans (Only.of_grown HG4.out (S := Its g (some ⟨rb, 0, none⟩) (n + 1) c2) (fun k e => .inr e)) (fun i hi hs => Its.near HN.out hi hs)⟩
  rw [Array.toList_push]
  exact List.perm_append_singleton x d.toList

def HPopped (w : World) (base g : Nat) (A : Option Addr) (m c : Nat) (d : Array Ln) (e : Ending) (w' : World) : Prop :=
  ∃ x d', e = .returned (.iface 152 (lnv x)) ∧ Hp w' base g A m c d' ∧ Heap lessL d' m ∧ d.toList.Perm (x :: d'.toList) ∧ (∀ y ∈ d.toList, lessL y x = false) ∧ Only (Its g A m c) w w'
theorem top_all {d : Array Ln} {m : Nat} (h : Heap lessL d (m + 1)) (hs : d.size = m + 1) : ∀ y ∈ d.toList, lessL y d[0]! = false := by
  intro y hy
  obtain ⟨k, hk, rfl⟩ := List.getElem_of_mem hy
  have hk' : k < d.size := by simpa using hk
  have e : d.toList[k] = d[k]! := by rw [getElem!_pos d k hk']; simp
  rw [e]
  rcases Nat.eq_zero_or_pos k with rfl | h0
  · unfold lessL; simp
  · exact heap_top lessL_wk h k h0 (by omega)
set_option maxRecDepth 100000 in
set_option maxHeartbeats 4000000 in
theorem hpop_any (w : World) (base g : Nat) (A : Option Addr) (m c : Nat) (d : Array Ln) (h : Hp w base g A (m + 1) c d) (hh : Heap lessL d (m + 1)) (hn : m ≤ 100000) :
    Calls Try.prog 81 #[hv g] w (HPopped w base g A m c d) := by
  obtain ⟨rb, rfl⟩ := h.row (by omega)
  have H := Lib.hid h
  have HH := Lib.hid hh
  have HS := Lib.hid h.size
  have hml := meth_len h.cell
  have hms := meth_swap h.cell
  have e1 : ((m + 1 : Nat) : Int) - 1 = (m : Int) := by omega
  have hmp := fun w => meth_pop ⟨g, 0, none⟩ w
  clear h hh
  unfold hv
  go_enter Try.func81, Try.ntmps81
  go_wp2_with fail
  refine (len_any8 w _ (m + 1) c).mono ?_
  rintro e w3 ⟨rfl, rfl⟩
  go_wp2_with fail
  refine (swap_own w base rb (m + 1) c 0 m d H.out.own (by omega) (by omega)).mono ?_
  rintro e w2 ⟨rfl, ho, hg⟩
  have H2 := Lib.hid (H.out.turned rfl ho hg)
  have HG2 := Lib.hid hg
  clear ho hg hml hms
  go_wp2_with fail
  refine (down_any w2 base g rb (m + 1) c m 0 (swp d 0 m) H2.out (by omega) (by omega) (pop_start HH.out (by rw [HS.out]; omega)) (by omega)).mono ?_
  rintro e w4 ⟨b, rfl, d', h4, hh4, hp4, hk4, hg4⟩
  have H4 := Lib.hid h4
  have HH4 := Lib.hid hh4
  have HP4 := Lib.hid hp4
  have HK4 := Lib.hid (hk4 m (Nat.le_refl _))
  have HG4 := Lib.hid (grown_trans HG2.out hg4)
  clear h4 hh4 hp4 hg4 hk4
  go_wp2_with fail
  refine (lpop_any w4 base g _ m c d' H4.out (by omega)).mono ?_
  rintro e w5 ⟨rfl, h5, ho5⟩
  have H5 := Lib.hid h5
  have HO5 := Lib.hid ho5
  obtain ⟨xv, HXV⟩ : ∃ xv, Hid (xv = lnv d'[m]!) := ⟨_, rfl⟩
  rw [← HXV.out]
  clear h5 ho5
  go_wp2_with fail
  go_ret
  have hs4 := H4.out.size
  have hd0 : d'[m]! = d[0]! := by
    rw [HK4.out, swp_at (by rw [HS.out]; omega) (by rw [HS.out]; omega), if_pos rfl]
  have hperm : d'.toList.Perm d.toList := HP4.out.trans (swp_perm (by rw [HS.out]; omega) (by rw [HS.out]; omega))
  refine ⟨d'[m]!, d'.pop, by rw [← HXV.out]; rfl, H5.out, ?_, ?_, ?_, (Only.of_grown HG4.out (S := Its g (some ⟨rb, 0, none⟩) m c) (fun k e => .inr e)).trans HO5.out (fun _ _ h => h)⟩
  · intro k h0 hk
    have g1 : ∀ j, j < m → d'.pop[j]! = d'[j]! := fun j hj => by
      rw [getElem!_pos d'.pop j (by simp; omega), getElem!_pos d' j (by omega)]
      simp
    rw [g1 k hk, g1 _ (by omega)]
    exact HH4.out k h0 hk
  · refine hperm.symm.trans ?_
    rw [pop_list hs4]
    simp only [Array.toList_pop]
    exact List.perm_append_singleton _ _
  · rw [hd0]
    exact top_all HH.out HS.out
end Go.Proofs.Ytfmfamnngfanfaa
