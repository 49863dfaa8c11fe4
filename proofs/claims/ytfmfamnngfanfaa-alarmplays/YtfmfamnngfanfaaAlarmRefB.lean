/-
  CONTRACTS of layer 12's reference: Due, Set.
  No statement is proved here.
-/
import Derived.Test.YtfmfamnngfanfaaAlarmRef
namespace Go.Proofs.Ytfmfamnngfanfaa
open Go.RowKit Go.Sort

def RDueRel (w : World) (A0 : Option Addr) (now : Int) (L : List En) (gk : Nat) (v0 v6 : Value) (wr : World) : Prop :=
  ∃ (done rest : List En) (A : Option Addr) (n c : Nat) (Ao : Option Addr) (m co : Nat), L = done ++ rest ∧ (∀ e ∈ done, e.2 ≤ now) ∧ rest.length ≤ gk ∧ v0 = .slice A n c ∧ v6 = .slice Ao m co ∧ Es wr w.heap.size A n c rest ∧ (∀ b o, A = some ⟨b, o, none⟩ → ∃ o0, A0 = some ⟨b, o0, none⟩) ∧
    wr.ownsRow w.heap.size 47 1 (.slice Ao m co) m (unvs (ids done)) ∧ RowKit.Below w.heap.size w wr
def SaysDue (w : World) (A0 : Option Addr) (now : Int) (L : List En) (e : Ending) (w' : World) : Prop :=
  ∃ (A : Option Addr) (n c : Nat) (Ao : Option Addr) (m co : Nat), e = .returned (.tuple #[.slice Ao m co, .slice A n c]) ∧ Es w' w.heap.size A n c (restE now L) ∧ (∀ b o, A = some ⟨b, o, none⟩ → ∃ o0, A0 = some ⟨b, o0, none⟩) ∧
    w'.ownsRow w.heap.size 47 1 (.slice Ao m co) m (unvs (ids (dueE now L))) ∧ RowKit.Below w.heap.size w w'
set_option maxRecDepth 100000 in
set_option maxHeartbeats 4000000 in
theorem rdue_any (w : World) (A : Option Addr) (n c : Nat) (now : Int) (L : List En) (h : Es w w.heap.size A n c L) (hn : n ≤ 100000) :
    Calls Try.prog 43 #[.slice A n c, .int .i64 now] w (SaysDue w A now L) := by
  obtain ⟨i0, hi0, hz0, hz1, hz2⟩ := info_parts u64_info
  have H := Lib.hid h
  have HL := Lib.hid (es_len h)
  clear h
  go_enter Try.func43, Try.ntmps43
  go_wp2_with fail
  go_loopg [0, 6] L.length (fun gk v0 v6 wr => RDueRel w A now L gk v0 v6 wr)
  case atStart => exact ⟨[], L, A, n, c, none, 0, 0, rfl, fun e he => (by cases he), Nat.le_refl _, rfl, rfl, H.out, fun b o e => ⟨o, e⟩, World.ownsRow_nil _ _ _ _, RowKit.Below.refl _ _⟩
  case round =>
    obtain ⟨done, rest, A1, n1, c1, Ao, m, co, hl, hdn, hgk, rfl, rfl, hes, hoff, hown, hbel⟩ := hrel
    have HLL := Lib.hid hl
    have HDN := Lib.hid hdn
    have HES := Lib.hid hes
    have HOFF := Lib.hid hoff
    have HO := Lib.hid hown
    have HB := Lib.hid hbel
    have hln := es_len hes
    have hm : m ≤ 100000 := by
      have h1 := hown.1
      rw [unvs_len] at h1
      unfold ids at h1
      rw [List.length_map] at h1
      have h2 := HL.out
      rw [hl, List.length_append] at h2
      omega
    have hbz := hbel.size
    have hle1 := hes.le
    clear hl hdn hes hoff hown hbel
    rcases rest with _ | ⟨x, r⟩
    · simp at hln
      subst hln
      go_wp2_with fail
      go_ret2
      have hd := due_app (now := now) (rest := []) HDN.out
      rw [← HLL.out] at hd
      refine ⟨A1, 0, c1, Ao, m, co, rfl, ?_, HOFF.out, ?_, HB.out⟩
      · rw [hd.2]; exact HES.out
      · rw [hd.1]; simpa [dueE] using HO.out
    · simp at hln
      have hn1 : 0 < n1 := by omega
      obtain ⟨b, o, y, rfl, hb, hy, k0, k1⟩ := es_at HES.out hn1
      simp at hy
      subst hy
      simp only [Nat.zero_mul, Nat.add_zero] at k0 k1
      have hn1I : (0 : Int) < (n1 : Int) := by omega
      by_cases hle : x.2 ≤ now
      · obtain ⟨xt, HXT⟩ : ∃ t, Hid (t = x.2) := ⟨_, rfl⟩
        obtain ⟨xi, HXI⟩ : ∃ t, Hid (t = x.1) := ⟨_, rfl⟩
        rw [← HXT.out] at hle k1
        rw [← HXI.out] at k0
        have HLIT : Hid (Sn (wr.alloc (.cells #[.int .u64 (xi : Int)] 47)) (wr.heap.size + 1) (some ⟨wr.heap.size, 0, none⟩) 1 1 1 (unvs [xi])) := lit_sn wr 47 (unvs [xi]) 1 1 rfl (by unfold maxLen; omega)
        have hc1 : (1 : Int) ≤ (n1 : Int) := by omega
        have hc2 : (n1 : Int) ≤ (c1 : Int) := by omega
        by_cases hcc : c1 = 1
        · subst hcc
          go_wp2_with (at_builtin; refine wpList_append_dstN _ rfl (.tmp 18) (.tmp 23) 59 59 rfl w.heap.size 47 i0 _ 1 8 Try.underlying59 hi0 hz0 hz1 hz2 rfl Ao m co (unvs (ids done)) rfl (.inr (HO.out.alloc _)) _ 1 (unvs [xi]) rfl (HLIT.out.src Try.underlying59 (unvs_one [xi])) (by omega) (by omega) (by simp; omega) ?_; intro A9 c9 w9 g1 g2 g3 g4 g5 g6; have HO9 := Lib.hid (g2 (by omega)); have HB89 := Lib.hid (((RowKit.Below.refl _ wr).alloc hbz _).trans g4); have HB9 := Lib.hid ((HB.out.alloc HB.out.size _).trans g4); clear g1 g2 g3 g4 g5 g6)
          go_roundg (gk - 1)
          case measure => simp at hgk; omega
          case rel =>
            have e1 : ids (done ++ [x]) = ids done ++ [xi] := by unfold ids; rw [List.map_append, HXI.out]; rfl
            have hes9 := (HES.out.below HB89.out (Nat.le_refl _)).drop (m := 1) hn1
            refine ⟨done ++ [x], r, _, 0, 0, A9, m + 1, c9, by rw [HLL.out]; simp, fun e he => ?_, by simp at hgk; omega, rfl, rfl, ?_, ?_, by rw [e1, unvs_app]; exact HO9.out, HB9.out⟩
            · rcases List.mem_append.1 he with he | he
              · exact HDN.out e he
              · simp at he; subst he; rw [← HXT.out]; exact hle
            · rw [evs_drop, if_pos rfl, show n1 - 1 = 0 from by omega] at hes9
              exact hes9
            · intro b2 o2 e2
              injection e2 with e2
              injection e2 with e2 e3
              subst e2
              exact HOFF.out _ _ rfl
        · go_wp2_with (at_builtin; refine wpList_append_dstN _ rfl (.tmp 18) (.tmp 23) 59 59 rfl w.heap.size 47 i0 _ 1 8 Try.underlying59 hi0 hz0 hz1 hz2 rfl Ao m co (unvs (ids done)) rfl (.inr (HO.out.alloc _)) _ 1 (unvs [xi]) rfl (HLIT.out.src Try.underlying59 (unvs_one [xi])) (by omega) (by omega) (by simp; omega) ?_; intro A9 c9 w9 g1 g2 g3 g4 g5 g6; have HO9 := Lib.hid (g2 (by omega)); have HB89 := Lib.hid (((RowKit.Below.refl _ wr).alloc hbz _).trans g4); have HB9 := Lib.hid ((HB.out.alloc HB.out.size _).trans g4); clear g1 g2 g3 g4 g5 g6)
          go_roundg (gk - 1)
          case measure => simp at hgk; omega
          case rel =>
            have e1 : ids (done ++ [x]) = ids done ++ [xi] := by unfold ids; rw [List.map_append, HXI.out]; rfl
            have hes9 := (HES.out.below HB89.out (Nat.le_refl _)).drop (m := 1) hn1
            refine ⟨done ++ [x], r, _, n1 - 1, c1 - 1, A9, m + 1, c9, by rw [HLL.out]; simp, fun e he => ?_, by simp at hgk; omega, rfl, rfl, ?_, ?_, by rw [e1, unvs_app]; exact HO9.out, HB9.out⟩
            · rcases List.mem_append.1 he with he | he
              · exact HDN.out e he
              · simp at he; subst he; rw [← HXT.out]; exact hle
            · rw [evs_drop, if_neg hcc] at hes9
              exact hes9
            · intro b2 o2 e2
              injection e2 with e2
              injection e2 with e2 e3
              subst e2
              exact HOFF.out _ _ rfl
      · go_wp2_with fail
        go_ret2
        have hd := due_app (now := now) (rest := x :: r) HDN.out
        rw [← HLL.out] at hd
        have hs := due_stop (now := now) (x := x) (r := r) (by omega)
        refine ⟨_, n1, c1, Ao, m, co, rfl, ?_, HOFF.out, ?_, HB.out⟩
        · rw [hd.2, hs.2]; exact HES.out
        · rw [hd.1, hs.1, List.append_nil]; exact HO.out
theorem own_lower {w : World} {base base' k n : Nat} {e : TypeId} {v : Value} {xs : List Value} (h : w.ownsRow base e k v n xs) (hb : base' ≤ base) : w.ownsRow base' e k v n xs := by
  refine ⟨h.1, ?_⟩
  rcases h.2 with h2 | ⟨g, cap, cur, hv, h3, h4⟩
  · exact .inl h2
  · exact .inr ⟨g, cap, cur, hv, Nat.le_trans hb h3, h4⟩
theorem ins_split {x : En} : ∀ {L : List En} {k : Nat}, k ≤ L.length → (∀ e ∈ L.take k, ltE e x = true) → (∀ e, L[k]? = some e → ltE e x = false) → ins x L = L.take k ++ x :: L.drop k
  | [], k, hk, _, _ => by simp at hk; subst hk; rfl
  | y :: L, 0, _, _, h => by
    have := h y rfl
    unfold ins
    rw [if_neg (by simp [this])]
    rfl
  | y :: L, k + 1, hk, h1, h2 => by
    have hy := h1 y (by simp)
    unfold ins
    rw [if_pos hy, ins_split (L := L) (k := k) (by simpa using hk) (fun e he => h1 e (by simp [he])) (fun e he => h2 e (by simpa using he))]
    rfl
def RSetRel (w : World) (x : En) (L : List En) (n gk : Nat) (v7 : Value) (wr : World) : Prop :=
  ∃ k, gk + k = n ∧ v7 = .int .i64 (k : Int) ∧ (∀ e ∈ L.take k, ltE e x = true) ∧ w = wr
set_option maxRecDepth 100000 in
set_option maxHeartbeats 4000000 in
theorem rset_any (w : World) (A : Option Addr) (n c : Nat) (L : List En) (id : Nat) (at_ : Int) (h : Es w w.heap.size A n c L) (hn : n ≤ 100000) :
    Calls Try.prog 47 #[.slice A n c, .int .u64 (id : Int), .int .i64 at_] w (SaysE w (setE id at_ L)) := by
  obtain ⟨i0, hi0, hz0, hz1, hz2⟩ := info_parts entry_info
  have H := Lib.hid h
  clear h
  go_enter Try.func47, Try.ntmps47
  go_wp2_with fail
  refine (rclear_any w A n c L id H.out hn).mono ?_
  rintro e w1 ⟨A1, n1, c1, rfl, hown, hb1⟩
  have HES := Lib.hid (Sn.of_own hown)
  have HB1 := Lib.hid hb1
  have HLN := Lib.hid (es_len (Sn.of_own hown))
  have hn1 : n1 ≤ 100000 := by have h1 := es_len (Sn.of_own hown); have h2 := without_len id L; have h3 := es_len H.out; omega
  have hnc : n1 ≤ c1 := (Sn.of_own hown).le
  have HOW : Hid ((A1 = none ∧ n1 = 0 ∧ c1 = 0) ∨ ∃ g, A1 = some ⟨g, 0, none⟩) := by
    rcases hown.2 with ⟨h0, h1⟩ | ⟨g, cap, cur, hv, _⟩
    · injection h0 with a1 a2 a3; exact .inl ⟨a1, a2, a3⟩
    · injection hv with a1 a2 a3; exact .inr ⟨g, a1⟩
  clear hown hb1
  obtain ⟨M, HM⟩ : ∃ M, Hid (M = without id L) := ⟨_, rfl⟩
  rw [← HM.out] at HES HLN
  go_wp2_with fail
  go_loopg [7] n1 (fun gk v7 wr => RSetRel w1 (id, at_) M n1 gk v7 wr)
  case atStart => exact ⟨0, rfl, rfl, by simp, rfl⟩
  case round =>
    obtain ⟨k, hgk, rfl, hlo, rfl⟩ := hrel
    have HLO := Lib.hid hlo
    clear hlo
    have hk : k ≤ n1 := by omega
    have hkI : (k : Int) ≤ (n1 : Int) := by omega
    have hncI : (n1 : Int) ≤ (c1 : Int) := by omega
    have hkcI : (k : Int) ≤ (c1 : Int) := by omega
    by_cases hlt : k < n1
    · obtain ⟨b, o, x, hA1, hb, hx, k0, k1⟩ := es_at HES.out hlt
      obtain ⟨g, hg⟩ : ∃ g, A1 = some ⟨g, 0, none⟩ := by
        rcases HOW.out with ⟨rfl, _, _⟩ | h
        · cases hA1
        · exact h
      subst hg
      injection hA1 with hA1
      injection hA1 with e1 e2
      subst e1 e2
      rw [Nat.zero_add] at k0 k1
      obtain ⟨xt, HXT⟩ : ∃ t, Hid (t = x.2) := ⟨_, rfl⟩
      obtain ⟨xi, HXI⟩ : ∃ t, Hid (t = x.1) := ⟨_, rfl⟩
      rw [← HXT.out] at k1
      rw [← HXI.out] at k0
      have HX := Lib.hid hx
      have HXE : Hid (ltE x (id, at_) = (decide (xt < at_) || (decide (xt = at_) && decide (xi < id)))) := by show _ = _; unfold ltE; rw [HXT.out, HXI.out]
      have HGO : Hid (ltE x (id, at_) = true → ∀ e ∈ M.take (k + 1), ltE e (id, at_) = true) := fun hl e he => by
        rw [List.take_add_one, HX.out] at he
        rcases List.mem_append.1 he with he | he
        · exact HLO.out e he
        · simp at he; subst he; exact hl
      clear hx
      by_cases h1 : xt < at_
      · go_wp2_with fail
        go_roundg (gk - 1)
        case measure => omega
        case rel => exact ⟨k + 1, by omega, by go_num, HGO.out (by rw [HXE.out]; simp [h1]), rfl⟩
      · by_cases h2 : xt = at_
        · have h2B : (xt == at_) = true := by simp [h2]
          by_cases h3 : xi < id
          · have h3I : (xi : Int) < (id : Int) := by omega
            have HT : Hid (ltE x (id, at_) = true) := by show _ = _; rw [HXE.out]; simp [h2, h3]
            clear h2
            go_wp2_with fail
            go_roundg (gk - 1)
            case measure => omega
            case rel => exact ⟨k + 1, by omega, by go_num, HGO.out HT.out, rfl⟩
          · have h3I : ¬ (xi : Int) < (id : Int) := by omega
            have HST : Hid (∀ e, M[k]? = some e → ltE e (id, at_) = false) := fun e he => by
              rw [HX.out] at he; injection he with he; subst he
              rw [HXE.out]; simp [h1, h3]
            clear h2
            have hnk : n1 - k ≤ 100000 := by omega
            have hck : ¬ c1 = k := by omega
            have HTK : Hid (Sn (w1.alloc (.cells #[] 99)) w1.heap.size (some ⟨g, 0, none⟩) k c1 2 (evs (M.take k))) := by
              have h1 := (HES.out.alloc (Nat.le_refl _) (.cells #[] 99)).take (m := k) (d := c1) hk (by omega) (Nat.le_refl _)
              rw [evs_take] at h1
              exact Lib.hid h1
            have HDR : Hid (Sn w1 w1.heap.size (some ⟨g, k * 2, none⟩) (n1 - k) (c1 - k) 2 (evs (M.drop k))) := by
              have h1 := HES.out.drop (m := k) hk
              rw [evs_drop, if_neg hck] at h1
              exact Lib.hid (by simpa [add_plain] using h1)
            go_wp2_with (first | (at_builtin; refine wpList_append_dstN _ rfl (.tmp 56) (.tmp 59) 83 83 rfl w1.heap.size 99 i0 _ 2 16 Try.underlying83 hi0 hz0 hz1 hz2 rfl A3 (k + 1) c3 (evs (M.take k) ++ evs [(id, at_)]) rfl (.inr (HO3.out)) _ (n1 - k) (evs (M.drop k)) rfl ((HDR.out.below HB3.out (Nat.le_refl _)).src Try.underlying83 (evs_one _)) (by omega) (by omega) (by exact HB3.out.size) ?_; intro A4 c4 w4 g1 g2 g3 g4 g5 g6; have HO4 := Lib.hid (g3 HO3.out); have HB4 := Lib.hid (HB3.out.trans g4); clear g1 g2 g3 g4 g5 g6) | (at_builtin; refine wpList_append_dstN _ rfl (.tmp 50) (.tmp 54) 83 83 rfl w1.heap.size 99 i0 _ 2 16 Try.underlying83 hi0 hz0 hz1 hz2 rfl A2 k c2 (evs (M.take k)) rfl (.inr (HO2.out.alloc _)) _ 1 (evs [(id, at_)]) rfl (HL2.out.src Try.underlying83 (evs_one _)) (by omega) (by omega) (by have := HB2.out.size; simp; omega) ?_; intro A3 c3 w3 g1 g2 g3 g4 g5 g6; have HO3 := Lib.hid (g2 (by omega)); have HB3 := Lib.hid ((HB2.out.alloc HB2.out.size _).trans g4); clear g1 g2 g3 g4 g5 g6) | (at_builtin; refine wpList_append_dstN _ rfl (.tmp 45) (.tmp 48) 83 83 rfl w1.heap.size 99 i0 _ 2 16 Try.underlying83 hi0 hz0 hz1 hz2 rfl _ 0 0 [] rfl (.inr (World.ownsRow_made w1 #[] 0 (Nat.le_refl _) (Nat.zero_le _) rfl)) _ k (evs (M.take k)) rfl (HTK.out.src Try.underlying83 (evs_one _)) (by omega) (by omega) (by simp) ?_; intro A2 c2 w2 g1 g2 g3 g4 g5 g6; have HO2 : Hid (w2.ownsRow w1.heap.size 99 2 (.slice A2 k c2) k (evs (M.take k))) := Lib.hid (by have h := g3 (World.ownsRow_made w1 #[] 0 (Nat.le_refl _) (Nat.zero_le _) rfl); rw [Nat.zero_add, List.nil_append] at h; exact h); have HB2 := Lib.hid (((RowKit.Below.refl _ w1).alloc (Nat.le_refl _) _).trans g4); have HL2 : Hid (Sn (w2.alloc (.cells #[.int .u64 (id : Int), .int .i64 at_] 99)) (w2.heap.size + 1) (some ⟨w2.heap.size, 0, none⟩) 1 1 2 (evs [(id, at_)])) := lit_sn w2 99 (evs [(id, at_)]) 1 2 rfl (by unfold maxLen; omega); clear g1 g2 g3 g4 g5 g6))
            go_ret
            have e9 : ins (id, at_) M = M.take k ++ (id, at_) :: M.drop k := ins_split (by rw [HLN.out]; exact hk) HLO.out (fun e he => HST.out e he)
            refine ⟨A4, _, c4, rfl, ?_, HB1.out.trans (HB4.out.mono HB1.out.size)⟩
            unfold setE
            rw [← HM.out, e9]
            have h9 := own_lower HO4.out HB1.out.size
            simpa [evs] using h9
        · have h2B : (xt == at_) = false := by simp [h2]
          have HST : Hid (∀ e, M[k]? = some e → ltE e (id, at_) = false) := fun e he => by
            rw [HX.out] at he; injection he with he; subst he
            rw [HXE.out]; simp [h1, h2]
          clear h2
          have hnk : n1 - k ≤ 100000 := by omega
          have hck : ¬ c1 = k := by omega
          have HTK : Hid (Sn (w1.alloc (.cells #[] 99)) w1.heap.size (some ⟨g, 0, none⟩) k c1 2 (evs (M.take k))) := by
            have h1 := (HES.out.alloc (Nat.le_refl _) (.cells #[] 99)).take (m := k) (d := c1) hk (by omega) (Nat.le_refl _)
            rw [evs_take] at h1
            exact Lib.hid h1
          have HDR : Hid (Sn w1 w1.heap.size (some ⟨g, k * 2, none⟩) (n1 - k) (c1 - k) 2 (evs (M.drop k))) := by
            have h1 := HES.out.drop (m := k) hk
            rw [evs_drop, if_neg hck] at h1
            exact Lib.hid (by simpa [add_plain] using h1)
          go_wp2_with (first | (at_builtin; refine wpList_append_dstN _ rfl (.tmp 56) (.tmp 59) 83 83 rfl w1.heap.size 99 i0 _ 2 16 Try.underlying83 hi0 hz0 hz1 hz2 rfl A3 (k + 1) c3 (evs (M.take k) ++ evs [(id, at_)]) rfl (.inr (HO3.out)) _ (n1 - k) (evs (M.drop k)) rfl ((HDR.out.below HB3.out (Nat.le_refl _)).src Try.underlying83 (evs_one _)) (by omega) (by omega) (by exact HB3.out.size) ?_; intro A4 c4 w4 g1 g2 g3 g4 g5 g6; have HO4 := Lib.hid (g3 HO3.out); have HB4 := Lib.hid (HB3.out.trans g4); clear g1 g2 g3 g4 g5 g6) | (at_builtin; refine wpList_append_dstN _ rfl (.tmp 50) (.tmp 54) 83 83 rfl w1.heap.size 99 i0 _ 2 16 Try.underlying83 hi0 hz0 hz1 hz2 rfl A2 k c2 (evs (M.take k)) rfl (.inr (HO2.out.alloc _)) _ 1 (evs [(id, at_)]) rfl (HL2.out.src Try.underlying83 (evs_one _)) (by omega) (by omega) (by have := HB2.out.size; simp; omega) ?_; intro A3 c3 w3 g1 g2 g3 g4 g5 g6; have HO3 := Lib.hid (g2 (by omega)); have HB3 := Lib.hid ((HB2.out.alloc HB2.out.size _).trans g4); clear g1 g2 g3 g4 g5 g6) | (at_builtin; refine wpList_append_dstN _ rfl (.tmp 45) (.tmp 48) 83 83 rfl w1.heap.size 99 i0 _ 2 16 Try.underlying83 hi0 hz0 hz1 hz2 rfl _ 0 0 [] rfl (.inr (World.ownsRow_made w1 #[] 0 (Nat.le_refl _) (Nat.zero_le _) rfl)) _ k (evs (M.take k)) rfl (HTK.out.src Try.underlying83 (evs_one _)) (by omega) (by omega) (by simp) ?_; intro A2 c2 w2 g1 g2 g3 g4 g5 g6; have HO2 : Hid (w2.ownsRow w1.heap.size 99 2 (.slice A2 k c2) k (evs (M.take k))) := Lib.hid (by have h := g3 (World.ownsRow_made w1 #[] 0 (Nat.le_refl _) (Nat.zero_le _) rfl); rw [Nat.zero_add, List.nil_append] at h; exact h); have HB2 := Lib.hid (((RowKit.Below.refl _ w1).alloc (Nat.le_refl _) _).trans g4); have HL2 : Hid (Sn (w2.alloc (.cells #[.int .u64 (id : Int), .int .i64 at_] 99)) (w2.heap.size + 1) (some ⟨w2.heap.size, 0, none⟩) 1 1 2 (evs [(id, at_)])) := lit_sn w2 99 (evs [(id, at_)]) 1 2 rfl (by unfold maxLen; omega); clear g1 g2 g3 g4 g5 g6))
          go_ret
          have e9 : ins (id, at_) M = M.take k ++ (id, at_) :: M.drop k := ins_split (by rw [HLN.out]; exact hk) HLO.out (fun e he => HST.out e he)
          refine ⟨A4, _, c4, rfl, ?_, HB1.out.trans (HB4.out.mono HB1.out.size)⟩
          unfold setE
          rw [← HM.out, e9]
          have h9 := own_lower HO4.out HB1.out.size
          simpa [evs] using h9
    · have HST : Hid (∀ e, M[k]? = some e → ltE e (id, at_) = false) := fun e he => by
        have := (List.getElem?_eq_some_iff.1 he).1
        have := HLN.out
        omega
      have hnk : n1 - k ≤ 100000 := by omega
      have HTK : Hid (Sn (w1.alloc (.cells #[] 99)) w1.heap.size A1 k c1 2 (evs (M.take k))) := by
        have h1 := (HES.out.alloc (Nat.le_refl _) (.cells #[] 99)).take (m := k) (d := c1) hk (by omega) (Nat.le_refl _)
        rw [evs_take] at h1
        exact Lib.hid h1
      have HDR0 := Lib.hid (HES.out.drop (m := k) hk)
      rcases HOW.out with ⟨rfl, rfl, rfl⟩ | ⟨g, rfl⟩
      · obtain rfl : k = 0 := by omega
        have HDR : Hid (Sn w1 w1.heap.size none 0 0 2 (evs (M.drop 0))) := by
          have h1 := HDR0.out
          rw [evs_drop] at h1
          exact Lib.hid (by simpa using h1)
        go_wp2_with (first | (at_builtin; refine wpList_append_dstN _ rfl (.tmp 56) (.tmp 59) 83 83 rfl w1.heap.size 99 i0 _ 2 16 Try.underlying83 hi0 hz0 hz1 hz2 rfl A3 (0 + 1) c3 (evs (M.take 0) ++ evs [(id, at_)]) rfl (.inr (HO3.out)) _ 0 (evs (M.drop 0)) rfl ((HDR.out.below HB3.out (Nat.le_refl _)).src Try.underlying83 (evs_one _)) (by omega) (by omega) (by exact HB3.out.size) ?_; intro A4 c4 w4 g1 g2 g3 g4 g5 g6; have HO4 := Lib.hid (g3 HO3.out); have HB4 := Lib.hid (HB3.out.trans g4); clear g1 g2 g3 g4 g5 g6) | (at_builtin; refine wpList_append_dstN _ rfl (.tmp 50) (.tmp 54) 83 83 rfl w1.heap.size 99 i0 _ 2 16 Try.underlying83 hi0 hz0 hz1 hz2 rfl A2 0 c2 (evs (M.take 0)) rfl (.inr (HO2.out.alloc _)) _ 1 (evs [(id, at_)]) rfl (HL2.out.src Try.underlying83 (evs_one _)) (by omega) (by omega) (by have := HB2.out.size; simp; omega) ?_; intro A3 c3 w3 g1 g2 g3 g4 g5 g6; have HO3 := Lib.hid (g2 (by omega)); have HB3 := Lib.hid ((HB2.out.alloc HB2.out.size _).trans g4); clear g1 g2 g3 g4 g5 g6) | (at_builtin; refine wpList_append_dstN _ rfl (.tmp 45) (.tmp 48) 83 83 rfl w1.heap.size 99 i0 _ 2 16 Try.underlying83 hi0 hz0 hz1 hz2 rfl _ 0 0 [] rfl (.inr (World.ownsRow_made w1 #[] 0 (Nat.le_refl _) (Nat.zero_le _) rfl)) _ 0 (evs (M.take 0)) rfl (HTK.out.src Try.underlying83 (evs_one _)) (by omega) (by omega) (by simp) ?_; intro A2 c2 w2 g1 g2 g3 g4 g5 g6; have HO2 : Hid (w2.ownsRow w1.heap.size 99 2 (.slice A2 0 c2) 0 (evs (M.take 0))) := Lib.hid (by have h := g3 (World.ownsRow_made w1 #[] 0 (Nat.le_refl _) (Nat.zero_le _) rfl); rw [Nat.zero_add, List.nil_append] at h; exact h); have HB2 := Lib.hid (((RowKit.Below.refl _ w1).alloc (Nat.le_refl _) _).trans g4); have HL2 : Hid (Sn (w2.alloc (.cells #[.int .u64 (id : Int), .int .i64 at_] 99)) (w2.heap.size + 1) (some ⟨w2.heap.size, 0, none⟩) 1 1 2 (evs [(id, at_)])) := lit_sn w2 99 (evs [(id, at_)]) 1 2 rfl (by unfold maxLen; omega); clear g1 g2 g3 g4 g5 g6))
        go_ret
        have e9 : ins (id, at_) M = M.take 0 ++ (id, at_) :: M.drop 0 := ins_split (by rw [HLN.out]; exact hk) HLO.out (fun e he => HST.out e he)
        refine ⟨A4, _, c4, rfl, ?_, HB1.out.trans (HB4.out.mono HB1.out.size)⟩
        unfold setE
        rw [← HM.out, e9]
        have h9 := own_lower HO4.out HB1.out.size
        simpa [evs] using h9
      · by_cases hck : c1 = k
        · obtain rfl : n1 = k := by omega
          subst hck
          have HDR : Hid (Sn w1 w1.heap.size (some ⟨g, 0, none⟩) 0 0 2 (evs (M.drop c1))) := by
            have h1 := HDR0.out
            rw [evs_drop] at h1
            exact Lib.hid (by simpa using h1)
          go_wp2_with (first | (at_builtin; refine wpList_append_dstN _ rfl (.tmp 56) (.tmp 59) 83 83 rfl w1.heap.size 99 i0 _ 2 16 Try.underlying83 hi0 hz0 hz1 hz2 rfl A3 (c1 + 1) c3 (evs (M.take c1) ++ evs [(id, at_)]) rfl (.inr (HO3.out)) _ 0 (evs (M.drop c1)) rfl ((HDR.out.below HB3.out (Nat.le_refl _)).src Try.underlying83 (evs_one _)) (by omega) (by omega) (by exact HB3.out.size) ?_; intro A4 c4 w4 g1 g2 g3 g4 g5 g6; have HO4 := Lib.hid (g3 HO3.out); have HB4 := Lib.hid (HB3.out.trans g4); clear g1 g2 g3 g4 g5 g6) | (at_builtin; refine wpList_append_dstN _ rfl (.tmp 50) (.tmp 54) 83 83 rfl w1.heap.size 99 i0 _ 2 16 Try.underlying83 hi0 hz0 hz1 hz2 rfl A2 c1 c2 (evs (M.take c1)) rfl (.inr (HO2.out.alloc _)) _ 1 (evs [(id, at_)]) rfl (HL2.out.src Try.underlying83 (evs_one _)) (by omega) (by omega) (by have := HB2.out.size; simp; omega) ?_; intro A3 c3 w3 g1 g2 g3 g4 g5 g6; have HO3 := Lib.hid (g2 (by omega)); have HB3 := Lib.hid ((HB2.out.alloc HB2.out.size _).trans g4); clear g1 g2 g3 g4 g5 g6) | (at_builtin; refine wpList_append_dstN _ rfl (.tmp 45) (.tmp 48) 83 83 rfl w1.heap.size 99 i0 _ 2 16 Try.underlying83 hi0 hz0 hz1 hz2 rfl _ 0 0 [] rfl (.inr (World.ownsRow_made w1 #[] 0 (Nat.le_refl _) (Nat.zero_le _) rfl)) _ c1 (evs (M.take c1)) rfl (HTK.out.src Try.underlying83 (evs_one _)) (by omega) (by omega) (by simp) ?_; intro A2 c2 w2 g1 g2 g3 g4 g5 g6; have HO2 : Hid (w2.ownsRow w1.heap.size 99 2 (.slice A2 c1 c2) c1 (evs (M.take c1))) := Lib.hid (by have h := g3 (World.ownsRow_made w1 #[] 0 (Nat.le_refl _) (Nat.zero_le _) rfl); rw [Nat.zero_add, List.nil_append] at h; exact h); have HB2 := Lib.hid (((RowKit.Below.refl _ w1).alloc (Nat.le_refl _) _).trans g4); have HL2 : Hid (Sn (w2.alloc (.cells #[.int .u64 (id : Int), .int .i64 at_] 99)) (w2.heap.size + 1) (some ⟨w2.heap.size, 0, none⟩) 1 1 2 (evs [(id, at_)])) := lit_sn w2 99 (evs [(id, at_)]) 1 2 rfl (by unfold maxLen; omega); clear g1 g2 g3 g4 g5 g6))
          go_ret
          have e9 : ins (id, at_) M = M.take c1 ++ (id, at_) :: M.drop c1 := ins_split (by rw [HLN.out]; exact hk) HLO.out (fun e he => HST.out e he)
          refine ⟨A4, _, c4, rfl, ?_, HB1.out.trans (HB4.out.mono HB1.out.size)⟩
          unfold setE
          rw [← HM.out, e9]
          have h9 := own_lower HO4.out HB1.out.size
          simpa [evs] using h9
        · have HDR : Hid (Sn w1 w1.heap.size (some ⟨g, k * 2, none⟩) (n1 - k) (c1 - k) 2 (evs (M.drop k))) := by
            have h1 := HDR0.out
            rw [evs_drop, if_neg hck] at h1
            exact Lib.hid (by simpa [add_plain] using h1)
          go_wp2_with (first | (at_builtin; refine wpList_append_dstN _ rfl (.tmp 56) (.tmp 59) 83 83 rfl w1.heap.size 99 i0 _ 2 16 Try.underlying83 hi0 hz0 hz1 hz2 rfl A3 (k + 1) c3 (evs (M.take k) ++ evs [(id, at_)]) rfl (.inr (HO3.out)) _ (n1 - k) (evs (M.drop k)) rfl ((HDR.out.below HB3.out (Nat.le_refl _)).src Try.underlying83 (evs_one _)) (by omega) (by omega) (by exact HB3.out.size) ?_; intro A4 c4 w4 g1 g2 g3 g4 g5 g6; have HO4 := Lib.hid (g3 HO3.out); have HB4 := Lib.hid (HB3.out.trans g4); clear g1 g2 g3 g4 g5 g6) | (at_builtin; refine wpList_append_dstN _ rfl (.tmp 50) (.tmp 54) 83 83 rfl w1.heap.size 99 i0 _ 2 16 Try.underlying83 hi0 hz0 hz1 hz2 rfl A2 k c2 (evs (M.take k)) rfl (.inr (HO2.out.alloc _)) _ 1 (evs [(id, at_)]) rfl (HL2.out.src Try.underlying83 (evs_one _)) (by omega) (by omega) (by have := HB2.out.size; simp; omega) ?_; intro A3 c3 w3 g1 g2 g3 g4 g5 g6; have HO3 := Lib.hid (g2 (by omega)); have HB3 := Lib.hid ((HB2.out.alloc HB2.out.size _).trans g4); clear g1 g2 g3 g4 g5 g6) | (at_builtin; refine wpList_append_dstN _ rfl (.tmp 45) (.tmp 48) 83 83 rfl w1.heap.size 99 i0 _ 2 16 Try.underlying83 hi0 hz0 hz1 hz2 rfl _ 0 0 [] rfl (.inr (World.ownsRow_made w1 #[] 0 (Nat.le_refl _) (Nat.zero_le _) rfl)) _ k (evs (M.take k)) rfl (HTK.out.src Try.underlying83 (evs_one _)) (by omega) (by omega) (by simp) ?_; intro A2 c2 w2 g1 g2 g3 g4 g5 g6; have HO2 : Hid (w2.ownsRow w1.heap.size 99 2 (.slice A2 k c2) k (evs (M.take k))) := Lib.hid (by have h := g3 (World.ownsRow_made w1 #[] 0 (Nat.le_refl _) (Nat.zero_le _) rfl); rw [Nat.zero_add, List.nil_append] at h; exact h); have HB2 := Lib.hid (((RowKit.Below.refl _ w1).alloc (Nat.le_refl _) _).trans g4); have HL2 : Hid (Sn (w2.alloc (.cells #[.int .u64 (id : Int), .int .i64 at_] 99)) (w2.heap.size + 1) (some ⟨w2.heap.size, 0, none⟩) 1 1 2 (evs [(id, at_)])) := lit_sn w2 99 (evs [(id, at_)]) 1 2 rfl (by unfold maxLen; omega); clear g1 g2 g3 g4 g5 g6))
          go_ret
          have e9 : ins (id, at_) M = M.take k ++ (id, at_) :: M.drop k := ins_split (by rw [HLN.out]; exact hk) HLO.out (fun e he => HST.out e he)
          refine ⟨A4, _, c4, rfl, ?_, HB1.out.trans (HB4.out.mono HB1.out.size)⟩
          unfold setE
          rw [← HM.out, e9]
          have h9 := own_lower HO4.out HB1.out.size
          simpa [evs] using h9
end Go.Proofs.Ytfmfamnngfanfaa
