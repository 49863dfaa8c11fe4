/-
  CONTRACT of an alarm's Due; slices of numbers that the call made; slices.Equal of such.
  No statement is proved here.
-/
import Derived.Test.YtfmfamnngfanfaaAlarmPut
namespace Go.Proofs.Ytfmfamnngfanfaa
open Go.RowKit Go.Sort Go.Maps

def unv (x : Nat) : Value := .int .u64 (x : Int)
def unvs (L : List Nat) : List Value := L.map unv
theorem unvs_len (L : List Nat) : (unvs L).length = L.length := by simp [unvs]
theorem unvs_app (L M : List Nat) : unvs (L ++ M) = unvs L ++ unvs M := by simp [unvs]
theorem unvs_at {L : List Nat} {j x : Nat} (h : L[j]? = some x) : (unvs L)[j]? = some (unv x) := by simp [unvs, h]
theorem unvs_one (L : List Nat) : ∀ u ∈ unvs L, u.oneCell' = true := by
  intro u hu
  obtain ⟨x, _, rfl⟩ := List.mem_map.1 hu
  rfl
theorem u64_info : (Try.prog.info? 47).map (fun i => (i.zero, i.size, i.bytes)) = some (some (.int .u64 0), 1, 8) := by kernel_rfl
theorem due_app {now : Int} {done rest : List En} (h : ∀ e ∈ done, e.2 ≤ now) : dueE now (done ++ rest) = done ++ dueE now rest ∧ restE now (done ++ rest) = restE now rest := by
  induction done with
  | nil => exact ⟨rfl, rfl⟩
  | cons x done ih =>
    have h1 := ih (fun e he => h e (List.mem_cons_of_mem _ he))
    have h2 := h x List.mem_cons_self
    unfold dueE restE at *
    rw [List.cons_append, List.takeWhile_cons_of_pos (by simpa using h2), List.dropWhile_cons_of_pos (by simpa using h2), h1.1, h1.2]
    exact ⟨rfl, rfl⟩
theorem due_stop {now : Int} {x : En} {r : List En} (h : ¬ x.2 ≤ now) : dueE now (x :: r) = [] ∧ restE now (x :: r) = x :: r := by
  unfold dueE restE
  rw [List.takeWhile_cons_of_neg (by simpa using h), List.dropWhile_cons_of_neg (by simpa using h)]
  exact ⟨rfl, rfl⟩
def ADue (w : World) (S : Nat → Prop) (base a : Nat) (now : Int) (l : List En) (e : Ending) (w' : World) : Prop :=
  ∃ A n c, e = .returned (.slice A n c) ∧ w'.ownsRow w.heap.size 47 1 (.slice A n c) n (unvs (ids (dueE now l))) ∧ Al w' S base a (restE now l) ∧ Only S w w'
def DueRel (w : World) (S : Nat → Prop) (base a : Nat) (now : Int) (l : List En) (gk : Nat) (v5 v6 v7 : Value) (wr : World) : Prop :=
  ∃ (done rest : List En) (A : Option Addr) (n c : Nat) (at_ : Int) (ok : Bool), l = done ++ rest ∧ (∀ e ∈ done, e.2 ≤ now) ∧ rest.length ≤ gk ∧ Ord rest ∧ v5 = .slice A n c ∧ v6 = .int .i64 at_ ∧ v7 = .bool ok ∧ nextV rest = .tuple #[.int .i64 at_, .bool ok] ∧
    wr.ownsRow w.heap.size 47 1 (.slice A n c) n (unvs (ids done)) ∧ Al wr S base a rest ∧ Only S w wr
set_option maxRecDepth 100000 in
set_option maxHeartbeats 4000000 in
theorem adue_any (w : World) (S : Nat → Prop) (base a : Nat) (now : Int) (l : List En) (h : Al w S base a l) (ho : Ord l) (hn : l.length ≤ 90000) :
    Calls Try.prog 45 #[.pointer (some ⟨a, 0, none⟩), .int .i64 now] w (ADue w S base a now l) := by
  obtain ⟨i0, hi0, hz0, hz1, hz2⟩ := info_parts u64_info
  have H := Lib.hid h
  have HO := Lib.hid ho
  have HSL : Hid (∀ k, S k → k < w.heap.size) := fun k hk => (h.sl k hk).2
  obtain ⟨at0, ok0, hnx⟩ : ∃ at0 ok0, nextV l = .tuple #[.int .i64 at0, .bool ok0] := by
    rcases l with _ | ⟨x, l⟩
    · exact ⟨_, _, rfl⟩
    · exact ⟨_, _, rfl⟩
  have HNX := Lib.hid hnx
  clear h ho hnx
  go_enter Try.func45, Try.ntmps45
  go_wp2_with fail
  refine (anext_any w S base a l H.out HO.out.sort).mono ?_
  rintro e w1 ⟨rfl, rfl⟩
  rw [HNX.out]
  go_wp2_with fail
  go_loopg [5, 6, 7] l.length (fun gk v5 v6 v7 wr => DueRel w S base a now l gk v5 v6 v7 wr)
  case atStart => exact ⟨[], l, none, 0, 0, at0, ok0, rfl, fun e he => (by cases he), Nat.le_refl _, HO.out, rfl, rfl, rfl, HNX.out, World.ownsRow_nil _ _ _ _, H.out, Only.refl _ _⟩
  case round =>
    clear H HO HNX
    obtain ⟨done, rest, A, n, c, at_, ok, hl, hdn, hgk, hord, rfl, rfl, rfl, hnx, hown, hal, hon⟩ := hrel
    have HL := Lib.hid hl
    have HDN := Lib.hid hdn
    have HORD := Lib.hid hord
    have HOWN := Lib.hid hown
    have HAL := Lib.hid hal
    have HON := Lib.hid hon
    have hns : n ≤ 90000 := by
      have h1 := hown.1
      rw [unvs_len] at h1
      have h2 : (ids done).length = done.length := by simp [ids]
      rw [hl] at hn
      simp at hn
      omega
    clear hl hdn hord hown hon
    rcases rest with _ | ⟨x, r⟩
    · unfold nextV at hnx
      injection hnx with hnx
      simp at hnx
      obtain ⟨rfl, rfl⟩ := hnx
      clear hal
      go_wp2_with fail
      go_ret
      have hd := due_app (now := now) (rest := []) HDN.out
      rw [← HL.out] at hd
      refine ⟨A, n, c, rfl, ?_, ?_, HON.out⟩
      · rw [hd.1]; simpa [dueE] using HOWN.out
      · rw [hd.2]; exact HAL.out
    · unfold nextV at hnx
      injection hnx with hnx
      simp at hnx
      obtain ⟨hx2, rfl⟩ := hnx
      have HX2 : Hid (x.2 = at_) := by show _ = _; omega
      clear hx2
      by_cases hle : at_ ≤ now
      · obtain ⟨mb, A1, n1, c1, d, f, h1, h2, h3⟩ := hal.ex
        obtain ⟨hn1, htop⟩ := h1.top h2 h3 HORD.out.sort
        have hln1 := h1.len h3
        obtain ⟨rb, rfl⟩ := h1.hq.row hn1
        have hc := h1.hq.cell
        have hat := h1.hq.at_ hn1
        have h00 := (h1.hq.sl 0 hn1).c0
        have hn1I : (0 : Int) < (n1 : Int) := by omega
        have H1 := Lib.hid h1
        have H2 := Lib.hid h2
        have H3 := Lib.hid h3
        have HID : Hid (d[0]!.id = x.1) := by show _ = _; rw [← htop]; rfl
        obtain ⟨xb, HXB⟩ : ∃ xb, Hid (xb = d[0]!.b) := ⟨_, rfl⟩
        obtain ⟨xid, HXI⟩ : ∃ xid, Hid (xid = x.1) := ⟨_, rfl⟩
        rw [← HXB.out] at hat h00
        rw [HID.out, ← HXI.out] at h00
        have HN1 : Hid (n1 ≤ 100000) := by show n1 ≤ 100000; rw [HL.out] at hn; simp at hn hln1; omega
        have HN10 : Hid (0 < n1) := hn1
        have HNL : Hid (Sn (wr.alloc (.cells #[.int .u64 (xid : Int)] 47)) (wr.heap.size + 1) (some ⟨wr.heap.size, 0, none⟩) 1 1 1 (unvs [xid])) := lit_sn wr 47 (unvs [xid]) 1 1 rfl (by unfold maxLen; omega)
        have hwz := HON.out.size
        clear hal h1 h2 h3 htop hln1
        go_wp2_with (at_builtin; refine wpList_append_dstN _ rfl (.tmp 31) (.tmp 36) 59 59 rfl w.heap.size 47 i0 _ 1 8 Try.underlying59 hi0 hz0 hz1 hz2 rfl A n c (unvs (ids done)) rfl (.inr (HOWN.out.alloc _)) _ 1 (unvs [xid]) rfl (HNL.out.src Try.underlying59 (unvs_one [xid])) (by omega) (by omega) (by simp; omega) ?_; intro A9 c9 w9 g1 g2 g3 g4 g5 g6; have HO9 := Lib.hid (g2 (by omega)); have HG5 := Lib.hid g5; clear g1 g2 g3 g4 g5 g6)
        have hon9 : Only (fun k => (Value.slice A n c).ownBlock = some k) wr w9 := (Only.of_below (below_box wr _)).trans (Only.of_grown HG5.out (S := fun k => (Value.slice A n c).ownBlock = some k) (fun k e => by split at e; cases e; exact e.symm)) (fun _ _ k => k)
        have hoS : ∀ k, (Value.slice A n c).ownBlock = some k → ¬ S k := fun k hk hs => by
          have e1 := HOWN.out.lt k hk
          have e2 := HSL.out k hs
          omega
        have hA9 := H1.out.only hon9 (fun k _ hk => hoS k hk)
        have hfg := aforget_any w9 S base a mb n1 c1 0 (some ⟨rb, 0, none⟩) d f (x :: r) hA9 H2.out H3.out HN10.out HN1.out
        rw [← HXB.out] at hfg
        have HFG := Lib.hid hfg
        have HO19 : Hid (Only S w w9) := HON.out.trans (hon9.mono (S2 := fun k => w.heap.size ≤ k) (fun k _ hk => (HOWN.out.lt k hk).1)) (fun k hk e => by omega)
        clear hfg hA9 hon9
        refine HFG.out.mono ?_
        rintro e w5 ⟨rfl, h5, ho5⟩
        rw [HID.out, ord_head HORD.out] at h5
        have H5 := Lib.hid h5
        have HO5 := Lib.hid (HO19.out.trans ho5 (fun _ _ k => k))
        have HW5 : Hid (w5.ownsRow w.heap.size 47 1 (.slice A9 (n + 1) c9) (n + 1) (unvs (ids done) ++ unvs [xid])) := own_same HO9.out (fun b hb => ho5.block b (HO9.out.lt b hb).2 (fun hs => by
          have e1 := (HO9.out.lt b hb).1
          have e2 := HSL.out b hs
          omega))
        have HOR := Lib.hid HORD.out.tail
        obtain ⟨at2, ok2, hnx2⟩ : ∃ at0 ok0, nextV r = .tuple #[.int .i64 at0, .bool ok0] := by
          rcases r with _ | ⟨y, r⟩
          · exact ⟨_, _, rfl⟩
          · exact ⟨_, _, rfl⟩
        have HNX2 := Lib.hid hnx2
        clear h5 ho5 hnx2
        go_wp2_with fail
        refine (anext_any w5 S base a r H5.out HOR.out.sort).mono ?_
        rintro e w6 ⟨rfl, rfl⟩
        rw [HNX2.out]
        go_wp2_with fail
        go_roundg (gk - 1)
        case measure => simp at hgk; omega
        case rel =>
          refine ⟨done ++ [x], r, A9, n + 1, c9, at2, ok2, by rw [HL.out]; simp, fun e he => ?_, by simp at hgk; omega, HOR.out, rfl, rfl, rfl, HNX2.out, ?_, H5.out, HO5.out⟩
          · rcases List.mem_append.1 he with he | he
            · exact HDN.out e he
            · simp at he
              subst he
              rw [HX2.out]
              exact hle
          · have e1 : ids (done ++ [x]) = ids done ++ [xid] := by unfold ids; rw [List.map_append, HXI.out]; rfl
            rw [e1, unvs_app]
            exact HW5.out
      · clear hal
        go_wp2_with fail
        go_ret
        have hd := due_app (now := now) (rest := x :: r) HDN.out
        rw [← HL.out] at hd
        have hs := due_stop (now := now) (x := x) (r := r) (by rw [HX2.out]; omega)
        refine ⟨A, n, c, rfl, ?_, ?_, HON.out⟩
        · rw [hd.1, hs.1, List.append_nil]; exact HOWN.out
        · rw [hd.2, hs.2]; exact HAL.out
set_option maxRecDepth 100000 in
theorem adue_nil (w : World) (now : Int) : Calls Try.prog 45 #[.pointer none, .int .i64 now] w fun e w' => e = .returned (.slice none 0 0) ∧ w = w' := by
  go_enter Try.func45, Try.ntmps45
  go_wp2_with fail
  refine (anext_nil w).mono ?_
  rintro e w1 ⟨rfl, rfl⟩
  go_wp2_with fail
  go_loopg [5, 6, 7] 0 (fun gk v5 v6 v7 wr => v5 = .slice none 0 0 ∧ v6 = .int .i64 0 ∧ v7 = .bool false ∧ w = wr)
  case atStart => exact ⟨rfl, rfl, rfl, rfl⟩
  case round =>
    obtain ⟨rfl, rfl, rfl, rfl⟩ := hrel
    go_wp2_with fail
    go_ret
    exact ⟨rfl, rfl⟩
end Go.Proofs.Ytfmfamnngfanfaa
