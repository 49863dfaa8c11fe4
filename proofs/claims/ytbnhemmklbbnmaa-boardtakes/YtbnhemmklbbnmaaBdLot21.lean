/-
  TEXTS OF EARLIER ROUNDS, laid together: part 21.
  No statement is proved here.
-/
import Derived.Test.YtbnhemmklbbnmaaBdLot19
import Derived.Test.YtbnhemmklbbnmaaBdLot8
import Derived.Test.YtbnhemmklbbnmaaBdLot14
import Derived.Test.YtbnhemmklbbnmaaBdLot9

/-! ## KeysNums -/
namespace Go.Proofs.Ytbnhemmklbbnmaa
open Go Go.RowKit Go.Shelf Go.Maps
attribute [local go_sem] Oper.semAt_some

section
variable {P : Program} {t : TypeId} {w w' : World} {b r n cnt : Nat} {f : Nat → Option Value} {ss : List Nat}
theorem Rg.of_walks (h : Rg P t w b r n f cnt ss) (hk : KeepsWalks w w') : Rg P t w' b r n f cnt ss := by
  obtain ⟨D, left, h1, h2⟩ := h.ex
  exact ⟨⟨D, left, h1.of_walks hk, h2⟩, h.nd, h.len⟩
theorem Rg.iter_walk (h : Rg P t w b r n f cnt ss) : ∃ o : Obj, w.heap[r]? = some o ∧ o.isWalk = true := by
  obtain ⟨D, left, h1, h2⟩ := h.ex
  exact h1.iter_walk
theorem Rg.left_eq (h : Rg P t w b r n f cnt ss) : w.rangeLeft b r = cnt := by
  obtain ⟨D, left, h1, h2⟩ := h.ex
  exact h1.left_eq
end
theorem u64_keyed' : Keyed Try.prog 34 := Maps.int_keyed Try.underlying34
/-- All numbers that a map holds, each once. -/
def AllOf (m : Nat) (f : Nat → Option Value) (ss : List Nat) : Prop := ss.Nodup ∧ (∀ k, k ∈ ss ↔ (f k).isSome = true) ∧ ss.length ≤ m
set_option maxRecDepth 100000 in
set_option maxHeartbeats 1000000 in
theorem keysOne_stops (n : Nat) (hn : 1 ≤ n) (Bm b m : Nat) (f : Nat → Option Value) (w : World) (hBm : Bm < w.heap.size) (hm : w.cell? ⟨Bm, 0, none⟩ = some (.map (some b))) (hown : Mv Try.prog 34 w b m f) :
    SeqStopsK Fence.wide n Try.prog 68 #[.pointer (some ⟨Bm, 0, none⟩)] encU KeepsWalks (AllOf m f) (fun _ => True) m w := by
  intro l J Jx W hW hJ hJx hY h0
  have hmW : W.cell? ⟨Bm, 0, none⟩ = some (.map (some b)) := (hW.cell (p := ⟨Bm, 0, none⟩) hBm).trans hm
  have hownW : Mv Try.prog 34 W b m f := hown.kept (hW.block b hown.lt)
  refine callsIn_of_wp Try.func68 rfl trivial ?_ rfl
  simp only [Try.ntmps68, List.size_toArray, List.length_cons, List.length_nil, Nat.reduceAdd, Nat.reduceSub, Array.replicate_succ, Array.replicate_zero, List.push_toArray, List.append_toArray, List.nil_append, List.cons_append]
  gi_wp2_with (first
    | (gi_at_range; refine wpListIn_mvRange rfl _ 79 rfl u64_keyed' Try.underlying79 b m f rfl hownW ?_; intro w0 hrg0 hg0 hs0)
    | gi_in)
  go_frame
  gi_loopw [3] (fun _ wr => ∃ (cnt : Nat) (ss : List Nat), Rg Try.prog 34 wr b W.heap.size m f cnt ss ∧ J ss wr) (fun _ wr => wr.rangeLeft b W.heap.size)
  case atStart => exact ⟨m, [], hrg0, hJ [] W w0 none h0 hg0 (fun r e => by cases e)⟩
  case round =>
    obtain ⟨cnt, ss, hrg, hJs⟩ := hrel
    gi_wp2_with (first
      | (gi_at_next; refine wpListIn_mvNext rfl _ rfl u64_keyed' Try.underlying34 b W.heap.size m f cnt ss rfl hrg ?_ ?_)
      | gi_in)
    · intro hall
      gi_wp2
      go_end0
      exact ⟨⟨_, rfl⟩, .inl ⟨ss, ⟨hrg.nd, hall, by have := hrg.len; omega⟩, hJs⟩⟩
    · intro x v w2 cnt2 hx hfx hxs hrg2 hlt hg2 hs2 hen
      have hJ2 : J ss w2 := hJ ss wr w2 (some W.heap.size) hJs hg2 (fun r e => by cases e; exact ⟨Nat.le_refl _, hrg.iter_walk⟩)
      obtain ⟨fn, tmps, assign, body, hy, hR⟩ := hY ss x w2 hJ2 (by have := hrg2.len; simp at this; omega)
      dsimp only [encU] at hy
      clear hs2
      gi_wp2
      refine hR.mono ?_
      rintro e W3 (⟨rfl, hJ3, hk3⟩ | ⟨rfl, hJx3⟩)
      · gi_wp2
        have hrg3 := hrg2.of_walks hk3
        go_roundw
        case rel => exact ⟨cnt2, ss ++ [x], hrg3, hJ3⟩
        case measure => rw [hrg3.left_eq, hrg.left_eq]; exact hlt
      · gi_wp2
        refine bodyPost_ret (results_none rfl _ _ _) rfl ?_
        exact ⟨⟨_, rfl⟩, .inr ⟨ss ++ [x], trivial, hJx3⟩⟩
theorem pays_walks (w : World) : Pays KeepsWalks w := ⟨fun h k => walksK_t h k, fun W l o o' h1 h2 h3 h4 => walksK_b (w := w) W l o o' h1 h2 h3 h4, fun _ _ h _ => h.walks⟩
set_option maxHeartbeats 1000000 in
theorem collect_any (g : Nat) (lb : Array Value) (eg : ∀ args w, (callFunc g args).run Try.prog w = .ok (.enter g args) w) (Kp : World → World → Prop) (S Sp : List Nat → Prop) (N : Nat) (hN : N ≤ 1000000)
    (w : World) (hseq : SeqStopsK Fence.wide 3 Try.prog g lb encU Kp S Sp N w) (hK : Pays Kp w) :
    Calls Try.prog 67 #[.func (.func g) #[] lb] w (SaysNums w S) := by
  have hc := callsIn_wide.1 (appendSeq_w 4 (by omega) g lb eg Kp S Sp N hN w hseq hK)
  go_enter Try.func67, Try.ntmps67
  go_wp2_with fail
  refine hc.mono ?_
  rintro e w2 ⟨A, n, c, xs, rfl, h1, h2, h3⟩
  go_wp2
  go_ret
  exact ⟨A, n, c, xs, rfl, h1, h2, h3⟩
set_option maxHeartbeats 1000000 in
theorem keys_any (w : World) (b : Nat) : Calls Try.prog 48 #[.map (some b)] w (fun e w' => e = .returned (.func (.func 68) #[] #[.pointer (some ⟨w.heap.size, 0, none⟩)]) ∧ w' = w.alloc (.cells #[.map (some b)] 79)) := by
  go_enter Try.func48, Try.ntmps48
  go_wp2
  go_ret
  exact ⟨rfl, rfl⟩
/-- The numbers that a map holds, rising. -/
def SaysSorted (w : World) (f : Nat → Option Value) (m : Nat) (e : Ending) (w' : World) : Prop := ∃ A n c ss, e = .returned (.slice A n c) ∧ AllOf m f ss ∧ OwnN w' w.heap.size A n c (sortN ss) ∧ RowKit.Below w.heap.size w w'
set_option maxHeartbeats 1000000 in
theorem sorted_any (w : World) (Bm b m : Nat) (f : Nat → Option Value) (hm : w.cell? ⟨Bm, 0, none⟩ = some (.map (some b))) (hown : Mv Try.prog 34 w b m f) (hm50 : m < 50) :
    Calls Try.prog 47 #[.func (.func 68) #[] #[.pointer (some ⟨Bm, 0, none⟩)]] w (SaysSorted w f m) := by
  have hs := keysOne_stops 3 (by omega) Bm b m f w (World.block_lt_of_cell? _ _ hm) hm hown
  have hc := collect_any _ _ (enters_of Try.func68 (by kernel_rfl) rfl) KeepsWalks _ _ m (by omega) w hs (pays_walks w)
  have HC := Lib.hid hc
  clear hs hc
  go_enter Try.func47, Try.ntmps47
  go_wp2_with fail
  refine HC.out.mono ?_
  rintro e w2 ⟨A, n, c, xs, rfl, h1, h2, h3⟩
  have hn : n < 50 := by have := h2.len; have := h1.2.2; omega
  have HS := Lib.hid (sort_own w2 w.heap.size A n c xs h2 hn)
  have H1 := Lib.hid h1
  have H3 := Lib.hid h3
  clear h1 h2 h3 HC
  go_wp2_with fail
  refine HS.out.mono ?_
  rintro e w3 ⟨rfl, h4, h5, _⟩
  have H4 := Lib.hid h4
  have H5 := Lib.hid h5
  clear h4 h5 HS
  go_wp2
  go_ret
  exact ⟨A, n, c, xs, rfl, H1.out, H4.out, H3.out.trans H5.out⟩
end Go.Proofs.Ytbnhemmklbbnmaa

/-! ## BoardOne -/
namespace Go.Proofs.Ytbnhemmklbbnmaa
open Go.RowKit Go.Sort Go.Maps

/-- A group: its number, its tries, its block, its members' block, its members. -/
structure Gp where
  num : Nat
  tries : Nat
  gb : Nat
  mb : Nat
  mem : List Nat
def memF (L : List Nat) : Nat → Option Value := fun k => if k ∈ L then some (.agg #[]) else none
def gv (g : Gp) : Value := .pointer (some ⟨g.gb, 0, none⟩)
structure GAt (w : World) (g : Gp) : Prop where
  blk : w.heap[g.gb]? = some (.cells #[.int .u64 (g.num : Int), .int .i64 (g.tries : Int), .map (some g.mb)] 83 (0, 0))
  mv : Mv Try.prog 34 w g.mb g.mem.length (memF g.mem)
/-- The board's own blocks. -/
def ownB (bd gm hm : Nat) (G : List Gp) : List Nat := bd :: gm :: hm :: (G.map (·.gb) ++ G.map (·.mb))
def bcells (f m last gm hm : Nat) (A : Option Addr) (n c a : Nat) : Array Value := #[.int .i64 (f : Int), .int .i64 (m : Int), .int .u64 (last : Int), .map (some gm), .map (some hm), .slice A n c, .pointer (some ⟨a, 0, none⟩)]
/-- A board in memory: block bd; the maps' blocks; the row; the alarm. -/
structure BP (w : World) (base bd f m last gm hm : Nat) (A : Option Addr) (n c : Nat) (Sa : Nat → Prop) (a : Nat) (G : List Gp) (gN hN : Nat) (gF hF : Nat → Option Value) (E : List En) (fl : List Nat) : Prop where
  blk : w.heap[bd]? = some (.cells (bcells f m last gm hm A n c a) 78 (0, 0))
  gmv : Mv Try.prog 34 w gm gN gF
  hmv : Mv Try.prog 34 w hm hN hF
  row : OwnN w base A n c fl
  al : Al w Sa base a E
  gr : ∀ g ∈ G, GAt w g
  nd : (ownB bd gm hm G).Nodup
  lo : ∀ k ∈ ownB bd gm hm G, base ≤ k ∧ k < w.heap.size ∧ ¬ Sa k ∧ some k ≠ (Value.slice A n c).ownBlock
  sr : ∀ b, (Value.slice A n c).ownBlock = some b → ¬ Sa b
/-- All of its blocks. -/
def FtB (bd gm hm : Nat) (A : Option Addr) (Sa : Nat → Prop) (G : List Gp) (k : Nat) : Prop := k ∈ ownB bd gm hm G ∨ some k = (Value.slice A 0 0).ownBlock ∨ Sa k
section
variable {w w' : World} {base bd f m last gm hm : Nat} {A : Option Addr} {n c : Nat} {Sa Q : Nat → Prop} {a : Nat} {G : List Gp} {gN hN : Nat} {gF hF : Nat → Option Value} {E : List En} {fl : List Nat} {g : Gp}
theorem GAt.kept (h : GAt w g) (h1 : w'.heap[g.gb]? = w.heap[g.gb]?) (h2 : w'.heap[g.mb]? = w.heap[g.mb]?) : GAt w' g := ⟨h1.trans h.blk, h.mv.kept h2⟩
theorem cell_at {b : Nat} {cs : Array Value} {t : TypeId} (h : w.heap[b]? = some (.cells cs t (0, 0))) (i : Nat) {v : Value} (hv : cs[i]? = some v) : w.cell? ⟨b, i, none⟩ = some v := by
  simp [World.cell?, h, hv]
theorem lt_at {b : Nat} {o : Obj} (h : w.heap[b]? = some o) : b < w.heap.size := (Array.getElem?_eq_some_iff.1 h).1
theorem own_gb (hg : g ∈ G) : g.gb ∈ ownB bd gm hm G := by
  unfold ownB
  exact List.mem_cons_of_mem _ (List.mem_cons_of_mem _ (List.mem_cons_of_mem _ (List.mem_append_left _ (List.mem_map.2 ⟨g, hg, rfl⟩))))
theorem own_mb (hg : g ∈ G) : g.mb ∈ ownB bd gm hm G := by
  unfold ownB
  exact List.mem_cons_of_mem _ (List.mem_cons_of_mem _ (List.mem_cons_of_mem _ (List.mem_append_right _ (List.mem_map.2 ⟨g, hg, rfl⟩))))
theorem own_bd : bd ∈ ownB bd gm hm G := List.mem_cons_self
theorem own_gm : gm ∈ ownB bd gm hm G := List.mem_cons_of_mem _ List.mem_cons_self
theorem own_hm : hm ∈ ownB bd gm hm G := List.mem_cons_of_mem _ (List.mem_cons_of_mem _ List.mem_cons_self)
/-- A row of one's own where its block stays. -/
theorem OwnN.at_ (h : OwnN w base A n c fl) (hb : ∀ b, (Value.slice A n c).ownBlock = some b → w'.heap[b]? = w.heap[b]?) : OwnN w' base A n c fl := own_same h hb
theorem BP.only (h : BP w base bd f m last gm hm A n c Sa a G gN hN gF hF E fl) (ho : Only Q w w') (hq : ∀ k, k < w.heap.size → Q k → ¬ FtB bd gm hm A Sa G k) : BP w' base bd f m last gm hm A n c Sa a G gN hN gF hF E fl := by
  have hk : ∀ k ∈ ownB bd gm hm G, w'.heap[k]? = w.heap[k]? := fun k hk => ho.block k (h.lo k hk).2.1 (fun e => hq k (h.lo k hk).2.1 e (.inl hk))
  refine ⟨(hk _ own_bd).trans h.blk, h.gmv.kept (hk _ own_gm), h.hmv.kept (hk _ own_hm), h.row.at_ (fun b hb => ?_), h.al.only ho (fun k hk1 hQ hS => hq k hk1 hQ (.inr (.inr hS))), fun g hg => (h.gr g hg).kept (hk _ (own_gb hg)) (hk _ (own_mb hg)), h.nd,
    fun k hk => ⟨(h.lo k hk).1, Nat.lt_of_lt_of_le (h.lo k hk).2.1 ho.size, (h.lo k hk).2.2⟩, h.sr⟩
  have hlt := h.row.lt b hb
  exact ho.block b hlt.2 (fun e => hq b hlt.2 e (.inr (.inl (by rw [← hb]; exact (own_block A n c 0 0).symm ▸ rfl))))
theorem BP.below (h : BP w base bd f m last gm hm A n c Sa a G gN hN gF hF E fl) (hb : RowKit.Below w.heap.size w w') : BP w' base bd f m last gm hm A n c Sa a G gN hN gF hF E fl := h.only (Only.of_below (S := fun _ => False) hb) (fun _ _ k => k.elim)
theorem BP.c0 (h : BP w base bd f m last gm hm A n c Sa a G gN hN gF hF E fl) : w.cell? ⟨bd, 0, none⟩ = some (.int .i64 (f : Int)) := cell_at h.blk 0 rfl
theorem BP.c1 (h : BP w base bd f m last gm hm A n c Sa a G gN hN gF hF E fl) : w.cell? ⟨bd, 1, none⟩ = some (.int .i64 (m : Int)) := cell_at h.blk 1 rfl
theorem BP.c2 (h : BP w base bd f m last gm hm A n c Sa a G gN hN gF hF E fl) : w.cell? ⟨bd, 2, none⟩ = some (.int .u64 (last : Int)) := cell_at h.blk 2 rfl
theorem BP.c3 (h : BP w base bd f m last gm hm A n c Sa a G gN hN gF hF E fl) : w.cell? ⟨bd, 3, none⟩ = some (.map (some gm)) := cell_at h.blk 3 rfl
theorem BP.c4 (h : BP w base bd f m last gm hm A n c Sa a G gN hN gF hF E fl) : w.cell? ⟨bd, 4, none⟩ = some (.map (some hm)) := cell_at h.blk 4 rfl
theorem BP.c5 (h : BP w base bd f m last gm hm A n c Sa a G gN hN gF hF E fl) : w.cell? ⟨bd, 5, none⟩ = some (.slice A n c) := cell_at h.blk 5 rfl
theorem BP.c6 (h : BP w base bd f m last gm hm A n c Sa a G gN hN gF hF E fl) : w.cell? ⟨bd, 6, none⟩ = some (.pointer (some ⟨a, 0, none⟩)) := cell_at h.blk 6 rfl
theorem BP.fz (h : BP w base bd f m last gm hm A n c Sa a G gN hN gF hF E fl) (i : Nat) : w.frozen? ⟨bd, i, none⟩ = false := frz_blk h.blk
theorem GAt.c0 (h : GAt w g) : w.cell? ⟨g.gb, 0, none⟩ = some (.int .u64 (g.num : Int)) := cell_at h.blk 0 rfl
theorem GAt.c1 (h : GAt w g) : w.cell? ⟨g.gb, 1, none⟩ = some (.int .i64 (g.tries : Int)) := cell_at h.blk 1 rfl
theorem GAt.c2 (h : GAt w g) : w.cell? ⟨g.gb, 2, none⟩ = some (.map (some g.mb)) := cell_at h.blk 2 rfl
theorem GAt.fz (h : GAt w g) (i : Nat) : w.frozen? ⟨g.gb, i, none⟩ = false := frz_blk h.blk
theorem at_set {b : Nat} {cs : Array Value} {t : TypeId} (h : w.heap[b]? = some (.cells cs t (0, 0))) (i : Nat) (v : Value) : (w.setCell ⟨b, i, none⟩ v).heap[b]? = some (.cells (cs.setIfInBounds i v) t (0, 0)) := by
  simp [World.setCell, h, Array.getElem?_modify]
end
end Go.Proofs.Ytbnhemmklbbnmaa

/-! ## BoardWait -/
namespace Go.Proofs.Ytbnhemmklbbnmaa
open Go.RowKit Go.Sort Go.Maps

/-- One more try of group number q. -/
def bump (q : Nat) (G : List Gp) : List Gp := G.map fun g => if g.num = q then { g with tries := g.tries + 1 } else g
section
variable {w w' : World} {base bd f m last gm hm : Nat} {A : Option Addr} {n c : Nat} {Sa Q : Nat → Prop} {a : Nat} {G : List Gp} {gN hN : Nat} {gF hF : Nat → Option Value} {E : List En} {fl : List Nat} {g : Gp}
theorem bump_gb (q : Nat) (G : List Gp) : (bump q G).map (·.gb) = G.map (·.gb) := by unfold bump; rw [List.map_map]; congr 1; funext g; simp only [Function.comp]; split <;> rfl
theorem bump_mb (q : Nat) (G : List Gp) : (bump q G).map (·.mb) = G.map (·.mb) := by unfold bump; rw [List.map_map]; congr 1; funext g; simp only [Function.comp]; split <;> rfl
theorem bump_num (q : Nat) (G : List Gp) : (bump q G).map (·.num) = G.map (·.num) := by unfold bump; rw [List.map_map]; congr 1; funext g; simp only [Function.comp]; split <;> rfl
theorem bump_own (q : Nat) (G : List Gp) : ownB bd gm hm (bump q G) = ownB bd gm hm G := by unfold ownB; rw [bump_gb, bump_mb]
/-- In a list without doubles under a function, who has the same value is the same. -/
theorem inj_of {α β : Type} {l : List α} {φ : α → β} (h : (l.map φ).Nodup) {x y : α} (hx : x ∈ l) (hy : y ∈ l) (e : φ x = φ y) : x = y := by
  induction l with
  | nil => cases hx
  | cons z l ih =>
    rw [List.map_cons, List.nodup_cons] at h
    rcases List.mem_cons.1 hx with rfl | hx' <;> rcases List.mem_cons.1 hy with rfl | hy'
    · rfl
    · exact absurd (List.mem_map.2 ⟨y, hy', e.symm⟩) h.1
    · exact absurd (List.mem_map.2 ⟨x, hx', e⟩) h.1
    · exact ih h.2 hx' hy'
theorem BP.gbs (h : BP w base bd f m last gm hm A n c Sa a G gN hN gF hF E fl) : (G.map (·.gb)).Nodup := by
  have := h.nd
  unfold ownB at this
  rw [List.nodup_cons, List.nodup_cons, List.nodup_cons] at this
  exact (List.nodup_append.1 this.2.2.2).1
theorem BP.mbs (h : BP w base bd f m last gm hm A n c Sa a G gN hN gF hF E fl) : (G.map (·.mb)).Nodup := by
  have := h.nd
  unfold ownB at this
  rw [List.nodup_cons, List.nodup_cons, List.nodup_cons] at this
  exact (List.nodup_append.1 this.2.2.2).2.1
theorem BP.ne (h : BP w base bd f m last gm hm A n c Sa a G gN hN gF hF E fl) : bd ≠ gm ∧ bd ≠ hm ∧ gm ≠ hm ∧ (∀ x ∈ G, bd ≠ x.gb ∧ bd ≠ x.mb ∧ gm ≠ x.gb ∧ gm ≠ x.mb ∧ hm ≠ x.gb ∧ hm ≠ x.mb) ∧ ∀ x ∈ G, ∀ y ∈ G, x.gb ≠ y.mb := by
  have := h.nd
  unfold ownB at this
  rw [List.nodup_cons, List.nodup_cons, List.nodup_cons, List.nodup_append] at this
  obtain ⟨h1, h2, h3, h4, h5, h6⟩ := this
  have hA : ∀ x ∈ G, x.gb ∈ G.map (·.gb) ++ G.map (·.mb) := fun x hx => List.mem_append_left _ (List.mem_map.2 ⟨x, hx, rfl⟩)
  have hB : ∀ x ∈ G, x.mb ∈ G.map (·.gb) ++ G.map (·.mb) := fun x hx => List.mem_append_right _ (List.mem_map.2 ⟨x, hx, rfl⟩)
  refine ⟨fun e => h1 (by rw [e]; exact List.mem_cons_self), fun e => h1 (by rw [e]; exact List.mem_cons_of_mem _ List.mem_cons_self), fun e => h2 (by rw [e]; exact List.mem_cons_self), fun x hx => ⟨?_, ?_, ?_, ?_, ?_, ?_⟩, fun x hx y hy => h6 _ (List.mem_map.2 ⟨x, hx, rfl⟩) _ (List.mem_map.2 ⟨y, hy, rfl⟩)⟩
  · exact fun e => h1 (by rw [e]; exact List.mem_cons_of_mem _ (List.mem_cons_of_mem _ (hA x hx)))
  · exact fun e => h1 (by rw [e]; exact List.mem_cons_of_mem _ (List.mem_cons_of_mem _ (hB x hx)))
  · exact fun e => h2 (by rw [e]; exact List.mem_cons_of_mem _ (hA x hx))
  · exact fun e => h2 (by rw [e]; exact List.mem_cons_of_mem _ (hB x hx))
  · exact fun e => h3 (by rw [e]; exact hA x hx)
  · exact fun e => h3 (by rw [e]; exact hB x hx)
/-- The alarm was set anew. -/
theorem BP.alarm (h : BP w base bd f m last gm hm A n c Sa a G gN hN gF hF E fl) {Sa' : Nat → Prop} {E' : List En} (ha : Al w' Sa' base a E') (ho : Only Sa w w') (hs : ∀ k, Sa' k → Sa k ∨ w.heap.size ≤ k) :
    BP w' base bd f m last gm hm A n c Sa' a G gN hN gF hF E' fl := by
  have hk : ∀ k ∈ ownB bd gm hm G, w'.heap[k]? = w.heap[k]? := fun k hk => ho.block k (h.lo k hk).2.1 (h.lo k hk).2.2.1
  refine ⟨(hk _ own_bd).trans h.blk, h.gmv.kept (hk _ own_gm), h.hmv.kept (hk _ own_hm), h.row.at_ (fun b hb => ho.block b (h.row.lt b hb).2 (h.sr b hb)), ha, fun g hg => (h.gr g hg).kept (hk _ (own_gb hg)) (hk _ (own_mb hg)), h.nd,
    fun k hk => ⟨(h.lo k hk).1, Nat.lt_of_lt_of_le (h.lo k hk).2.1 ho.size, fun e => ?_, (h.lo k hk).2.2.2⟩, fun b hb e => ?_⟩
  · rcases hs k e with e | e
    · exact (h.lo k hk).2.2.1 e
    · have := (h.lo k hk).2.1; omega
  · rcases hs b e with e | e
    · exact h.sr b hb e
    · have := (h.row.lt b hb).2; omega
/-- A group's tries were written anew. -/
theorem BP.tried (h : BP w base bd f m last gm hm A n c Sa a G gN hN gF hF E fl) (hn : (G.map (·.num)).Nodup) (hg : g ∈ G) :
    BP (w.setCell ⟨g.gb, 1, none⟩ (.int .i64 ((g.tries + 1 : Nat) : Int))) base bd f m last gm hm A n c Sa a (bump g.num G) gN hN gF hF E fl := by
  have ho := Only.setCell w g.gb 1 (.int .i64 ((g.tries + 1 : Nat) : Int))
  have hne := h.ne
  have hgl := h.lo _ (own_gb (bd := bd) (gm := gm) (hm := hm) hg)
  have hk : ∀ k, k < w.heap.size → k ≠ g.gb → (w.setCell ⟨g.gb, 1, none⟩ (.int .i64 ((g.tries + 1 : Nat) : Int))).heap[k]? = w.heap[k]? := fun k h1 h2 => ho.block k h1 h2
  refine ⟨(hk _ (h.lo _ own_bd).2.1 (hne.2.2.2.1 g hg).1).trans h.blk, h.gmv.kept (hk _ (h.lo _ own_gm).2.1 (hne.2.2.2.1 g hg).2.2.1), h.hmv.kept (hk _ (h.lo _ own_hm).2.1 (hne.2.2.2.1 g hg).2.2.2.2.1), h.row.at_ (fun b hb => hk b (h.row.lt b hb).2 (fun e => hgl.2.2.2 (by rw [← e, hb]))),
    h.al.only ho (fun k _ e => by rw [e]; exact hgl.2.2.1), fun x hx => ?_, by rw [bump_own]; exact h.nd, by rw [bump_own]; exact fun k hk => ⟨(h.lo k hk).1, by rw [World.size_setCell]; exact (h.lo k hk).2.1, (h.lo k hk).2.2⟩, h.sr⟩
  obtain ⟨y, hy, rfl⟩ := List.mem_map.1 hx
  have hmb := hk y.mb (h.lo _ (own_mb hy)).2.1 (fun e => hne.2.2.2.2 g hg y hy e.symm)
  by_cases e : y.num = g.num
  · obtain rfl := inj_of hn hy hg e
    rw [if_pos rfl]
    exact ⟨at_set (h.gr y hy).blk 1 _, (h.gr y hy).mv.kept hmb⟩
  · rw [if_neg e]
    exact (h.gr y hy).kept (hk y.gb (h.lo _ (own_gb hy)).2.1 (fun e2 => e (by rw [inj_of h.gbs hy hg e2]))) hmb
def BWait (w : World) (base bd f m last gm hm : Nat) (A : Option Addr) (n c : Nat) (Sa : Nat → Prop) (a : Nat) (G : List Gp) (gN hN : Nat) (gF hF : Nat → Option Value) (E : List En) (fl : List Nat) (g : Gp) (now : Int) (e : Ending) (w' : World) : Prop :=
  e = .returned (.tuple #[]) ∧ ∃ Sa', BP w' base bd f m last gm hm A n c Sa' a (bump g.num G) gN hN gF hF (setE g.num (now + (wt f m g.tries : Nat)) E) fl ∧ Only (fun k => Sa k ∨ k = g.gb) w w' ∧ ∀ k, Sa' k → Sa k ∨ w.heap.size ≤ k
set_option maxRecDepth 100000 in
set_option maxHeartbeats 4000000 in
theorem bwait_any (h : BP w base bd f m last gm hm A n c Sa a G gN hN gF hF E fl) (hn : (G.map (·.num)).Nodup) (hg : g ∈ G) (hp : Pr f m) (ht : g.tries < 9223372036854775807) (hq : g.num < 18446744073709551616) (hE : E.length ≤ 90000) (now : Int) (hnow : -4611686018427387904 ≤ now ∧ now ≤ 4611686018427387904) :
    Calls Try.prog 37 #[.pointer (some ⟨bd, 0, none⟩), gv g, .int .i64 now] w (BWait w base bd f m last gm hm A n c Sa a G gN hN gF hF E fl g now) := by
  have H := Lib.hid h
  have b0 := h.c0
  have b1 := h.c1
  have b6 := h.c6
  have g0 := (h.gr g hg).c0
  have g1 := (h.gr g hg).c1
  have HNE := Lib.hid (h.lo _ (own_gb (bd := bd) (gm := gm) (hm := hm) hg))
  have HBD := Lib.hid (h.lo _ (own_bd (bd := bd) (gm := gm) (hm := hm) (G := G)))
  obtain ⟨num, HNU⟩ : ∃ x, Hid (x = g.num) := ⟨_, rfl⟩
  obtain ⟨tr, HTR⟩ : ∃ x, Hid (x = g.tries) := ⟨_, rfl⟩
  obtain ⟨gb, HGB⟩ : ∃ x, Hid (x = g.gb) := ⟨_, rfl⟩
  rw [← HNU.out] at g0 hq
  rw [← HTR.out] at g1 ht
  rw [← HGB.out] at g0 g1 HNE
  have HGV : Hid (gv g = .pointer (some ⟨gb, 0, none⟩)) := by show _ = _; rw [HGB.out]; rfl
  rw [HGV.out]
  obtain ⟨x, HX⟩ : ∃ x : Nat, Hid (x = wt f m tr) := ⟨_, rfl⟩
  have HWT : Hid (∀ w1 : World, Calls Try.prog 23 #[prv f m, .int .i64 (tr : Int)] w1 (Ans w1 (.int .i64 (x : Int)))) := fun w1 => by
    rw [HX.out]
    exact wait_nat w1 f m tr hp (by omega)
  clear h
  go_enter Try.func37, Try.ntmps37
  go_wp2_with fail
  go_region_held3 (fun w' => w'.cell? ⟨bd, 0, none⟩ = some (.int .i64 (f : Int)) ∧ w'.cell? ⟨bd, 1, none⟩ = some (.int .i64 (m : Int)) ∧ w'.cell? ⟨bd, 6, none⟩ = some (.pointer (some ⟨a, 0, none⟩)) ∧ w'.cell? ⟨gb, 0, none⟩ = some (.int .u64 (num : Int)) ∧ w'.cell? ⟨gb, 1, none⟩ = some (.int .i64 (tr : Int))) (first | exact ⟨b0, b1, b6, g0, g1⟩ | exact hk2 | exact hk3) (first
    | (go_at_call 23
       refine (HWT.out _).mono ?_
       rintro e w2 ⟨rfl, hb2⟩
       have hb2' : RowKit.Below w.heap.size w w2 := (below_drewN (RowKit.Below.refl _ _) 1).trans hb2
       have HB2 := Lib.hid (H.out.below hb2')
       have HZ2 := Lib.hid hb2'
       have hk2 : w2.cell? ⟨bd, 0, none⟩ = some (.int .i64 (f : Int)) ∧ w2.cell? ⟨bd, 1, none⟩ = some (.int .i64 (m : Int)) ∧ w2.cell? ⟨bd, 6, none⟩ = some (.pointer (some ⟨a, 0, none⟩)) ∧ w2.cell? ⟨gb, 0, none⟩ = some (.int .u64 (num : Int)) ∧ w2.cell? ⟨gb, 1, none⟩ = some (.int .i64 (tr : Int)) :=
         ⟨(hb2.cell (p := ⟨bd, 0, none⟩) HBD.out.2.1).trans b0, (hb2.cell (p := ⟨bd, 1, none⟩) HBD.out.2.1).trans b1, (hb2.cell (p := ⟨bd, 6, none⟩) HBD.out.2.1).trans b6, (hb2.cell (p := ⟨gb, 0, none⟩) HNE.out.2.1).trans g0, (hb2.cell (p := ⟨gb, 1, none⟩) HNE.out.2.1).trans g1⟩)
    | (go_at_call 59
       have hset := aset_any w2 Sa base a num (IntKind.i64.wrap (now + (x : Int))) E HB2.out.al hq hE
       have HSET := Lib.hid hset
       clear hset
       refine HSET.out.mono ?_
       rintro e w3 ⟨rfl, Sa', hal3, ho3, hs3⟩
       have e1 := ho3.block bd (Nat.lt_of_lt_of_le HBD.out.2.1 HZ2.out.size) HBD.out.2.2.1
       have e2 := ho3.block gb (Nat.lt_of_lt_of_le HNE.out.2.1 HZ2.out.size) HNE.out.2.2.1
       have hk3 : w3.cell? ⟨bd, 0, none⟩ = some (.int .i64 (f : Int)) ∧ w3.cell? ⟨bd, 1, none⟩ = some (.int .i64 (m : Int)) ∧ w3.cell? ⟨bd, 6, none⟩ = some (.pointer (some ⟨a, 0, none⟩)) ∧ w3.cell? ⟨gb, 0, none⟩ = some (.int .u64 (num : Int)) ∧ w3.cell? ⟨gb, 1, none⟩ = some (.int .i64 (tr : Int)) :=
         ⟨(World.cell?_of_block (a := ⟨bd, 0, none⟩) e1).trans hk2.1, (World.cell?_of_block (a := ⟨bd, 1, none⟩) e1).trans hk2.2.1, (World.cell?_of_block (a := ⟨bd, 6, none⟩) e1).trans hk2.2.2.1, (World.cell?_of_block (a := ⟨gb, 0, none⟩) e2).trans hk2.2.2.2.1, (World.cell?_of_block (a := ⟨gb, 1, none⟩) e2).trans hk2.2.2.2.2⟩
       have HAL3 := Lib.hid hal3
       have HO3 := Lib.hid ho3
       have HS3 := Lib.hid hs3
       clear e1 e2 hal3 ho3 hs3 hk2 hb2 hb2'))
  have HB3 := Lib.hid (HB2.out.alarm HAL3.out HO3.out HS3.out)
  have hfz : w3.frozen? ⟨gb, 1, none⟩ = false := by rw [HGB.out]; exact (HB3.out.gr g hg).fz 1
  have HT3 := Lib.hid (HB3.out.tried hn hg)
  go_wp2
  go_end0
  rw [HGB.out, HTR.out]
  have hx : x ≤ 1099511627776 := by rw [HX.out]; exact Nat.le_trans (wt_le _ _ _) hp.most
  have hww : IntKind.i64.wrap (now + (x : Int)) = now + (x : Int) := by
    simp [IntKind.wrap, IntKind.bits, IntKind.signed]
    omega
  have ht3 := HT3.out
  rw [hww, HNU.out, HX.out, HTR.out] at ht3
  refine ⟨rfl, Sa', ht3, ?_, fun k hk => ?_⟩
  · exact ((Only.of_below (S := fun k => Sa k ∨ k = g.gb) HZ2.out).trans HO3.out (fun k _ e => .inl e)).trans (Only.setCell w3 g.gb 1 _) (fun k _ e => .inr e)
  · rcases HS3.out k hk with e | e
    · exact .inl e
    · exact .inr (Nat.le_trans HZ2.out.size e)
end
end Go.Proofs.Ytbnhemmklbbnmaa

/-! ## BoardTell -/
namespace Go.Proofs.Ytbnhemmklbbnmaa
open Go.RowKit Go.Sort Go.Maps

theorem zero_group (w : World) : (zeroValue 81).run Try.prog w = .ok (.pointer none) w := by kernel_rfl
section
variable {w w' : World} {base bd f m last gm hm : Nat} {A : Option Addr} {n c : Nat} {Sa Q : Nat → Prop} {a : Nat} {G : List Gp} {gN hN : Nat} {gF hF : Nat → Option Value} {E : List En} {fl : List Nat} {g : Gp}
set_option maxRecDepth 100000 in
set_option maxHeartbeats 1000000 in
theorem btries_no (h : BP w base bd f m last gm hm A n c Sa a G gN hN gF hF E fl) (q : Nat) (hq : q < 18446744073709551616) (hf : hF q = none) :
    Calls Try.prog 21 #[.pointer (some ⟨bd, 0, none⟩), .int .u64 (q : Int)] w fun e w' => e = .returned (.int .i64 (0 : Int)) ∧ w = w' := by
  have hkey := key64 Try.underlying34 hq
  have hmc := h.c4
  have HM := Lib.hid h.hmv
  have HF := Lib.hid hf
  clear h hf
  go_enter Try.func21, Try.ntmps21
  go_wp2_with (at_lookup; refine wpList_mv2 _ rfl _ _ 75 rfl 34 81 u64_keyed Try.underlying75 (.pointer none) (zero_group _) hm hN hF rfl HM.out q rfl hkey (.pointer none) false (by rw [HF.out]; rfl) (by rw [HF.out]; rfl) ?_)
  go_ret
  exact ⟨rfl, rfl⟩
set_option maxRecDepth 100000 in
set_option maxHeartbeats 1000000 in
theorem btries_yes (h : BP w base bd f m last gm hm A n c Sa a G gN hN gF hF E fl) (q : Nat) (hq : q < 18446744073709551616) (hg : g ∈ G) (hf : hF q = some (gv g)) :
    Calls Try.prog 21 #[.pointer (some ⟨bd, 0, none⟩), .int .u64 (q : Int)] w fun e w' => e = .returned (.int .i64 (g.tries : Int)) ∧ w = w' := by
  have hkey := key64 Try.underlying34 hq
  have hmc := h.c4
  have htc := (h.gr g hg).c1
  have HM := Lib.hid h.hmv
  have HF := Lib.hid hf
  clear h hf hg
  obtain ⟨num, tr, gb, mb, mem⟩ := g
  unfold gv at HF
  simp only at HF htc ⊢
  go_enter Try.func21, Try.ntmps21
  go_wp2_with (at_lookup; refine wpList_mv2 _ rfl _ _ 75 rfl 34 81 u64_keyed Try.underlying75 (.pointer none) (zero_group _) hm hN hF rfl HM.out q rfl hkey (.pointer (some ⟨gb, 0, none⟩)) true (by rw [HF.out]; rfl) (by rw [HF.out]; rfl) ?_)
  go_ret
  exact ⟨rfl, rfl⟩
set_option maxRecDepth 100000 in
theorem btries_nil (w : World) (q : Int) : Calls Try.prog 21 #[.pointer none, .int .u64 q] w fun e w' => e = .returned (.int .i64 (0 : Int)) ∧ w = w' := by
  go_enter Try.func21, Try.ntmps21
  go_wp2_with fail
  go_ret
  exact ⟨rfl, rfl⟩
set_option maxRecDepth 100000 in
theorem bhas_of (w : World) (p : Option Addr) (q : Int) (t : Nat) (h : Calls Try.prog 21 #[.pointer p, .int .u64 q] w fun e w' => e = .returned (.int .i64 (t : Int)) ∧ w = w') :
    Calls Try.prog 22 #[.pointer p, .int .u64 q] w fun e w' => e = .returned (.bool (decide (0 < t))) ∧ w = w' := by
  have H := Lib.hid h
  clear h
  go_enter Try.func22, Try.ntmps22
  go_wp2_with fail
  refine H.out.mono ?_
  rintro e w1 ⟨rfl, rfl⟩
  go_wp2_with fail
  go_ret
  exact ⟨by simp, rfl⟩
set_option maxRecDepth 100000 in
theorem bcount_any (h : BP w base bd f m last gm hm A n c Sa a G gN hN gF hF E fl) : Calls Try.prog 27 #[.pointer (some ⟨bd, 0, none⟩)] w fun e w' => e = .returned (.int .i64 (n : Int)) ∧ w = w' := by
  have hmc := h.c5
  clear h
  go_enter Try.func27, Try.ntmps27
  go_wp2_with fail
  go_ret
  exact ⟨rfl, rfl⟩
set_option maxRecDepth 100000 in
theorem bcount_nil (w : World) : Calls Try.prog 27 #[.pointer none] w fun e w' => e = .returned (.int .i64 0) ∧ w = w' := by
  go_enter Try.func27, Try.ntmps27
  go_wp2_with fail
  go_ret
  exact ⟨rfl, rfl⟩
set_option maxRecDepth 100000 in
theorem bnext_any (h : BP w base bd f m last gm hm A n c Sa a G gN hN gF hF E fl) (hs : SortE E) : Calls Try.prog 30 #[.pointer (some ⟨bd, 0, none⟩)] w fun e w' => e = .returned (nextV E) ∧ w = w' := by
  have hmc := h.c6
  have HA := Lib.hid (anext_any w Sa base a E h.al hs)
  clear h
  obtain ⟨at_, ok, hv⟩ : ∃ at_ ok, nextV E = .tuple #[.int .i64 at_, .bool ok] := by
    cases E with
    | nil => exact ⟨_, _, rfl⟩
    | cons x E => exact ⟨_, _, rfl⟩
  rw [hv] at HA ⊢
  go_enter Try.func30, Try.ntmps30
  go_wp2_with fail
  refine HA.out.mono ?_
  rintro e w1 ⟨rfl, rfl⟩
  go_wp2_with fail
  go_ret2
  exact ⟨rfl, rfl⟩
set_option maxRecDepth 100000 in
theorem bnext_nil (w : World) : Calls Try.prog 30 #[.pointer none] w fun e w' => e = .returned (.tuple #[.int .i64 0, .bool false]) ∧ w = w' := by
  go_enter Try.func30, Try.ntmps30
  go_wp2_with fail
  go_ret2
  exact ⟨rfl, rfl⟩
theorem below_set_new {w w1 : World} (hb : RowKit.Below w.heap.size w w1) (b : Nat) (hb0 : w.heap.size ≤ b) (i : Nat) (v : Value) : RowKit.Below w.heap.size w (w1.setCell ⟨b, i, none⟩ v) := hb.setCell (p := ⟨b, i, none⟩) hb0 v
set_option maxRecDepth 100000 in
set_option maxHeartbeats 1000000 in
theorem bflight_any (h : BP w base bd f m last gm hm A n c Sa a G gN hN gF hF E fl) (hn : n < 50) (hl : ∀ x ∈ fl, x < two64) :
    Calls Try.prog 29 #[.pointer (some ⟨bd, 0, none⟩)] w (SaysS w 0 (ofL fl)) := by
  have hmc := h.c5
  have hbz := lt_at h.blk
  have HR := Lib.hid h.row
  have HL := Lib.hid hl
  clear h hl
  go_enter Try.func29, Try.ntmps29
  go_wp2_with fail
  have HS1 := Lib.hid (Sn.of_own (HR.out.at_ (w' := w.alloc (Obj.cells #[.slice none 0 0] 44)) (fun b hb => RowKit.Below.heap_alloc _ _ _ (HR.out.lt b hb).2)))
  have hb1 := below_box w (Obj.cells #[.slice none 0 0] 44)
  have hz1 : (w.alloc (Obj.cells #[.slice none 0 0] 44)).heap.size = w.heap.size + 1 := by simp
  have hR1 : (w.alloc (Obj.cells #[.slice none 0 0] 44)).heap[w.heap.size]? = some (.cells #[.slice none 0 0] 44 (0, 0)) := heap_alloc_new w _
  generalize w.alloc (Obj.cells #[.slice none 0 0] 44) = w1 at *
  refine (ofA_any w1 A n c fl HS1.out HL.out hn).mono ?_
  rintro e w2 ⟨A', n', c', rfl, hst, hne, hb2⟩
  have hR2 := (hb2.block w.heap.size (by omega)).trans hR1
  have hq0 : w2.cell? ⟨w.heap.size, 0, none⟩ = some (.slice none 0 0) := cell_at hR2 0 rfl
  have hf0 := frz_blk (i := 0) hR2
  have hb6 : RowKit.Below w.heap.size w (w2.setCell ⟨w.heap.size, 0, none⟩ (.slice A' n' c')) := (hb1.trans (hb2.mono (by omega))).setCell (Nat.le_refl _) _
  have hc6 : (w2.setCell ⟨w.heap.size, 0, none⟩ (.slice A' n' c')).cell? ⟨w.heap.size, 0, none⟩ = some (.slice A' n' c') := World.cell?_setCell_same _ _ _ hq0
  have hne2 : ∀ b o, A' = some ⟨b, o, none⟩ → w.heap.size + 1 ≤ b := fun b o hA => by have := hne b o hA; omega
  have HO6 : Hid (St (w2.setCell ⟨w.heap.size, 0, none⟩ (.slice A' n' c')) (w2.setCell ⟨w.heap.size, 0, none⟩ (.slice A' n' c')).heap.size A' n' c' (ofL fl)) := by
    rw [World.size_setCell]
    exact ⟨hst.rs.off (fun b o hA => by have := hne2 b o hA; show b ≠ w.heap.size; omega) _, hst.lies⟩
  clear hR2 hst hb1 hb2 hR1 hz1 hne
  go_wp2
  refine bodyPost_ret (v := .agg #[.slice A' n' c']) (by simp [results, Try.results29, go_sem, hc6]) rfl ?_
  exact ⟨A', n', c', rfl, HO6.out, fun b o hA => .inr (by have := hne2 b o hA; omega), hb6⟩
set_option maxRecDepth 100000 in
theorem bflight_nil (w : World) : Calls Try.prog 29 #[.pointer none] w (SaysS w 0 []) := by
  go_enter Try.func29, Try.ntmps29
  go_wp2_with fail
  have hc6 : (w.alloc (Obj.cells #[.slice none 0 0] 44)).cell? ⟨w.heap.size, 0, none⟩ = some (.slice none 0 0) := cell_last w _ _ _ 0 rfl
  refine bodyPost_ret (v := .agg #[.slice none 0 0]) (by simp [results, Try.results29, go_sem, hc6]) rfl ?_
  refine ⟨none, 0, 0, rfl, St.nil_ _ _, ?_, below_box w _⟩
  intro b o hA
  cases hA
end
end Go.Proofs.Ytbnhemmklbbnmaa

/-! ## BoardFresh -/
namespace Go.Proofs.Ytbnhemmklbbnmaa
open Go.RowKit Go.Sort Go.Maps

def addN (hF : Nat → Option Value) (mem : List Nat) (q : Nat) : List Nat := if (hF q).isSome = false ∧ q ∉ mem then mem ++ [q] else mem
def freshL (hF : Nat → Option Value) (l : List Nat) : List Nat := l.foldl (addN hF) []
theorem freshL_snoc (hF : Nat → Option Value) (l : List Nat) (q : Nat) : freshL hF (l ++ [q]) = addN hF (freshL hF l) q := by unfold freshL; rw [List.foldl_append]; rfl
theorem addN_len (hF : Nat → Option Value) (mem : List Nat) (q : Nat) : (addN hF mem q).length ≤ mem.length + 1 := by unfold addN; split <;> simp
theorem fold_len (hF : Nat → Option Value) : ∀ (l mem : List Nat), (l.foldl (addN hF) mem).length ≤ mem.length + l.length
  | [], _ => by simp
  | x :: l, mem => by
    have h1 := fold_len hF l (addN hF mem x)
    have h2 := addN_len hF mem x
    simp only [List.foldl_cons, List.length_cons]
    omega
theorem freshL_len (hF : Nat → Option Value) (l : List Nat) : (freshL hF l).length ≤ l.length := by have := fold_len hF l []; simpa [freshL] using this
theorem fold_mem (hF : Nat → Option Value) : ∀ (l mem : List Nat) (k : Nat), k ∈ l.foldl (addN hF) mem ↔ k ∈ mem ∨ (k ∈ l ∧ (hF k).isSome = false)
  | [], _, _ => by simp
  | x :: l, mem, k => by
    rw [List.foldl_cons, fold_mem hF l]
    unfold addN
    split
    · rename_i h
      simp only [List.mem_append, List.mem_cons, List.not_mem_nil, or_false]
      by_cases e : k = x
      · subst e; simp [h.1]
      · simp [e]
    · rename_i h
      simp only [List.mem_cons]
      by_cases e : k = x
      · subst e
        by_cases h1 : (hF k).isSome = false
        · have h2 : k ∈ mem := by simpa [h1] using h
          simp [h2]
        · simp [h1]
      · simp [e]
theorem freshL_mem (hF : Nat → Option Value) (l : List Nat) (k : Nat) : k ∈ freshL hF l ↔ k ∈ l ∧ (hF k).isSome = false := by unfold freshL; rw [fold_mem]; simp
theorem fold_nd (hF : Nat → Option Value) : ∀ (l mem : List Nat), mem.Nodup → (l.foldl (addN hF) mem).Nodup
  | [], _, h => h
  | x :: l, mem, h => by
    rw [List.foldl_cons]
    refine fold_nd hF l _ ?_
    unfold addN
    split
    · rename_i h1
      rw [List.nodup_append]
      exact ⟨h, by simp, fun a ha b hb e => by rw [List.mem_singleton] at hb; subst hb e; exact h1.2 ha⟩
    · exact h
theorem freshL_nd (hF : Nat → Option Value) (l : List Nat) : (freshL hF l).Nodup := fold_nd hF l [] List.nodup_nil
theorem memF_put (mem : List Nat) (q : Nat) : putF (memF mem) q (.agg #[]) = memF (if q ∈ mem then mem else mem ++ [q]) := by
  funext k
  unfold putF memF
  by_cases e : k = q
  · subst e
    rw [if_pos rfl, if_pos]
    by_cases h : k ∈ mem
    · rw [if_pos h]; exact h
    · rw [if_neg h]; simp
  · rw [if_neg e]
    by_cases h : q ∈ mem
    · rw [if_pos h]
    · rw [if_neg h]; simp [e]
theorem memF_some (mem : List Nat) (q : Nat) : (memF mem q).isSome = decide (q ∈ mem) := by unfold memF; split <;> rename_i h <;> simp [h]
def FreshRel (w : World) (mb n : Nat) (hF : Nat → Option Value) (l : List Nat) (gk : Nat) (vi : Value) (wr : World) : Prop :=
  ∃ k, gk + k = n ∧ vi = .int .i64 (k : Int) ∧ Mv Try.prog 34 wr mb (freshL hF (l.take k)).length (memF (freshL hF (l.take k))) ∧ RowKit.Below w.heap.size w wr
section
variable {w w' : World} {base bd f m last gm hm : Nat} {A : Option Addr} {n c : Nat} {Sa Q : Nat → Prop} {a : Nat} {G : List Gp} {gN hN : Nat} {gF hF : Nat → Option Value} {E : List En} {fl : List Nat} {g : Gp}
def BFresh (w : World) (hF : Nat → Option Value) (l : List Nat) (e : Ending) (w' : World) : Prop :=
  ∃ mb, e = .returned (.map (some mb)) ∧ w.heap.size ≤ mb ∧ Mv Try.prog 34 w' mb (freshL hF l).length (memF (freshL hF l)) ∧ RowKit.Below w.heap.size w w'
set_option maxRecDepth 100000 in
set_option maxHeartbeats 4000000 in
theorem bfresh_any (h : BP w base bd f m last gm hm A n c Sa a G gN hN gF hF E fl) (A' : Option Addr) (n' c' : Nat) (l : List Nat) (hs : Sn w w.heap.size A' n' c' 1 (nvs l)) (hl : ∀ x ∈ l, x < 18446744073709551616) (hn : n' ≤ 100000) :
    Calls Try.prog 35 #[.pointer (some ⟨bd, 0, none⟩), .slice A' n' c'] w (BFresh w hF l) := by
  have H := Lib.hid h
  have HS := Lib.hid hs
  have HL := Lib.hid hl
  have HLN : Hid (l.length = n') := by have := hs.len; rw [nvs_len] at this; show _ = _; omega
  have hmm := @run_makeMap Try.prog
  have hbz := lt_at h.blk
  clear h hs hl
  go_enter Try.func35, Try.ntmps35
  go_wp2_with fail
  obtain ⟨mb, HMB⟩ : ∃ x, Hid (x = w.heap.size) := ⟨_, rfl⟩
  rw [← HMB.out]
  go_loopg [13] n' (fun gk vi wr => FreshRel w mb n' hF l gk vi wr)
  case atStart =>
    refine ⟨0, rfl, rfl, ?_, below_box w _⟩
    rw [HMB.out]
    exact Mv.made _ _ w
  case round =>
    obtain ⟨k, hg, rfl, hmv, hbel⟩ := hrel
    have HG := Lib.hid hg
    have HMV := Lib.hid hmv
    have HBEL := Lib.hid hbel
    have hb4 : wr.cell? ⟨bd, 4, none⟩ = some (.map (some hm)) := (hbel.cell (p := ⟨bd, 4, none⟩) hbz).trans H.out.c4
    have HHM := Lib.hid (H.out.hmv.kept (hbel.block hm H.out.hmv.lt))
    have HROW := Lib.hid (HS.out.below hbel (Nat.le_refl _))
    clear hg hmv hbel
    by_cases hk : k < n'
    · have hkI : (k : Int) < (n' : Int) := by omega
      have hk0 : (0 : Int) ≤ (k : Int) := by omega
      obtain ⟨x, hx⟩ : ∃ x, l[k]? = some x := ⟨_, List.getElem?_eq_getElem (by rw [HLN.out]; exact hk)⟩
      obtain ⟨b, o, he, hgB, hcell⟩ := HROW.out.cell (by omega)
      have hc : wr.cell? ⟨b, o + k, none⟩ = some (.int .u64 (x : Int)) := hcell k (nv x) (by simp [nvs, hx])
      subst he
      have hxl := HL.out x (List.mem_of_getElem? hx)
      have hkey := key64 Try.underlying34 hxl
      have HTK : Hid (freshL hF (l.take (k + 1)) = addN hF (freshL hF (l.take k)) x) := by show _ = _; rw [List.take_add_one, hx]; exact freshL_snoc _ _ _
      have HLE : Hid ((freshL hF (l.take k)).length ≤ 100000) := by
        have h1 := freshL_len hF (l.take k)
        rw [List.length_take] at h1
        show _ ≤ _
        omega
      clear hx hcell
      obtain ⟨cur, HCUR⟩ : ∃ z, Hid (z = freshL hF (l.take k)) := ⟨_, rfl⟩
      rw [← HCUR.out] at HMV HTK HLE
      cases hf : hF x with
      | some v =>
        have HF := Lib.hid hf
        clear hf
        go_wp2_with (at_lookup; refine wpList_mv2 _ rfl _ _ 75 rfl 34 81 u64_keyed Try.underlying75 (.pointer none) (zero_group _) hm hN hF rfl HHM.out x rfl hkey v true (by rw [HF.out]; rfl) (by rw [HF.out]; rfl) ?_)
        go_roundg (gk - 1)
        case measure => have := HG.out; omega
        case rel =>
          refine ⟨k + 1, by have := HG.out; omega, by go_num, ?_, HBEL.out⟩
          rw [HTK.out, show addN hF cur x = cur from by unfold addN; rw [HF.out]; simp]
          exact HMV.out
      | none =>
        have HF := Lib.hid hf
        clear hf
        go_wp2_with (first | (at_lookup; refine wpList_mv2 _ rfl _ _ 75 rfl 34 81 u64_keyed Try.underlying75 (.pointer none) (zero_group _) hm hN hF rfl HHM.out x rfl hkey (.pointer none) false (by rw [HF.out]; rfl) (by rw [HF.out]; rfl) ?_) | (at_mapUpdate; refine wpList_mvPut _ rfl _ _ _ 79 rfl 34 100 u64_keyed Try.underlying79 mb cur.length (memF cur) rfl HMV.out (by have := HLE.out; unfold maxLen; omega) x (.agg #[]) rfl rfl hkey ?_; intro w2 hm2 ho2; have HM2 := Lib.hid hm2; have HO2 := Lib.hid ho2; clear hm2 ho2))
        go_roundg (gk - 1)
        case measure => have := HG.out; omega
        case rel =>
          refine ⟨k + 1, by have := HG.out; omega, by go_num, ?_, ?_⟩
          · have hm2 := HM2.out
            rw [memF_put, memF_some] at hm2
            rw [HTK.out]
            unfold addN
            by_cases hin : x ∈ cur
            · rw [if_neg (fun h => h.2 hin)]
              rw [if_pos hin] at hm2
              simpa [hin] using hm2
            · rw [if_pos ⟨by rw [HF.out]; rfl, hin⟩]
              rw [if_neg hin] at hm2
              simpa [hin] using hm2
          · have h2 := HO2.out
            exact HBEL.out.trans ⟨h2.os, h2.tape, h2.output, h2.size, fun q hq => h2.block q (Nat.lt_of_lt_of_le hq HBEL.out.size) (fun e => by rw [HMB.out] at e; omega)⟩
    · have hkI : ¬ (k : Int) < (n' : Int) := by omega
      have HE : Hid (l.take k = l) := List.take_of_length_le (by have := HLN.out; have := HG.out; omega)
      go_wp2_with fail
      go_ret
      rw [HE.out] at HMV
      exact ⟨mb, rfl, by rw [HMB.out]; exact Nat.le_refl _, HMV.out, HBEL.out⟩
end
end Go.Proofs.Ytbnhemmklbbnmaa

/-! ## BoardMem -/
namespace Go.Proofs.Ytbnhemmklbbnmaa
open Go.RowKit Go.Sort Go.Maps

section
variable {w w' w0 w2 : World} {base bd f m last gm hm : Nat} {A : Option Addr} {n c : Nat} {Sa Q : Nat → Prop} {a : Nat} {G : List Gp} {gN hN : Nat} {gF hF : Nat → Option Value} {E : List En} {fl : List Nat} {g : Gp}
theorem BP.row1 (h : BP w base bd f m last gm hm A n c Sa a G gN hN gF hF E fl) {x : Nat} (ho : Only (fun k => k = x) w w') (hx : x ∈ ownB bd gm hm G) : OwnN w' base A n c fl :=
  h.row.at_ (fun b hb => ho.block b (h.row.lt b hb).2 (fun e => (h.lo x hx).2.2.2 (by rw [← e, hb])))
theorem BP.al1 (h : BP w base bd f m last gm hm A n c Sa a G gN hN gF hF E fl) {x : Nat} (ho : Only (fun k => k = x) w w') (hx : x ∈ ownB bd gm hm G) : Al w' Sa base a E :=
  h.al.only ho (fun k _ e => by rw [e]; exact (h.lo x hx).2.2.1)
theorem BP.lo1 (h : BP w base bd f m last gm hm A n c Sa a G gN hN gF hF E fl) (hz : w.heap.size ≤ w'.heap.size) : ∀ k ∈ ownB bd gm hm G, base ≤ k ∧ k < w'.heap.size ∧ ¬ Sa k ∧ some k ≠ (Value.slice A n c).ownBlock :=
  fun k hk => ⟨(h.lo k hk).1, Nat.lt_of_lt_of_le (h.lo k hk).2.1 hz, (h.lo k hk).2.2⟩
/-- The last number was written anew. -/
theorem BP.setLast (h : BP w base bd f m last gm hm A n c Sa a G gN hN gF hF E fl) (l' : Nat) : BP (w.setCell ⟨bd, 2, none⟩ (.int .u64 (l' : Int))) base bd f m l' gm hm A n c Sa a G gN hN gF hF E fl := by
  have ho := Only.setCell w bd 2 (.int .u64 (l' : Int))
  have hne := h.ne
  have hk : ∀ k ∈ ownB bd gm hm G, k ≠ bd → (w.setCell ⟨bd, 2, none⟩ (.int .u64 (l' : Int))).heap[k]? = w.heap[k]? := fun k h1 h2 => ho.block k (h.lo k h1).2.1 h2
  exact ⟨at_set h.blk 2 _, h.gmv.kept (hk _ own_gm (fun e => hne.1 e.symm)), h.hmv.kept (hk _ own_hm (fun e => hne.2.1 e.symm)), h.row1 ho own_bd, h.al1 ho own_bd, fun x hx => (h.gr x hx).kept (hk _ (own_gb hx) (fun e => (hne.2.2.2.1 x hx).1 e.symm)) (hk _ (own_mb hx) (fun e => (hne.2.2.2.1 x hx).2.1 e.symm)), h.nd, h.lo1 ho.size, h.sr⟩
/-- The groups' map was written to. -/
theorem BP.gput (h : BP w base bd f m last gm hm A n c Sa a G gN hN gF hF E fl) {gN' : Nat} {gF' : Nat → Option Value} (hmv : Mv Try.prog 34 w' gm gN' gF') (ho : Only (fun k => k = gm) w w') : BP w' base bd f m last gm hm A n c Sa a G gN' hN gF' hF E fl := by
  have hne := h.ne
  have hk : ∀ k ∈ ownB bd gm hm G, k ≠ gm → w'.heap[k]? = w.heap[k]? := fun k h1 h2 => ho.block k (h.lo k h1).2.1 h2
  exact ⟨(hk _ own_bd hne.1).trans h.blk, hmv, h.hmv.kept (hk _ own_hm (fun e => hne.2.2.1 e.symm)), h.row1 ho own_gm, h.al1 ho own_gm, fun x hx => (h.gr x hx).kept (hk _ (own_gb hx) (fun e => (hne.2.2.2.1 x hx).2.2.1 e.symm)) (hk _ (own_mb hx) (fun e => (hne.2.2.2.1 x hx).2.2.2.1 e.symm)), h.nd, h.lo1 ho.size, h.sr⟩
/-- The homes' map was written to. -/
theorem BP.hput (h : BP w base bd f m last gm hm A n c Sa a G gN hN gF hF E fl) {hN' : Nat} {hF' : Nat → Option Value} (hmv : Mv Try.prog 34 w' hm hN' hF') (ho : Only (fun k => k = hm) w w') : BP w' base bd f m last gm hm A n c Sa a G gN hN' gF hF' E fl := by
  have hne := h.ne
  have hk : ∀ k ∈ ownB bd gm hm G, k ≠ hm → w'.heap[k]? = w.heap[k]? := fun k h1 h2 => ho.block k (h.lo k h1).2.1 h2
  exact ⟨(hk _ own_bd hne.2.1).trans h.blk, h.gmv.kept (hk _ own_gm hne.2.2.1), hmv, h.row1 ho own_hm, h.al1 ho own_hm, fun x hx => (h.gr x hx).kept (hk _ (own_gb hx) (fun e => (hne.2.2.2.1 x hx).2.2.2.2.1 e.symm)) (hk _ (own_mb hx) (fun e => (hne.2.2.2.1 x hx).2.2.2.2.2 e.symm)), h.nd, h.lo1 ho.size, h.sr⟩
/-- One more group; its blocks were made behind w0. -/
theorem BP.addGroup (h0 : w0.heap.size ≤ g.gb ∧ w0.heap.size ≤ g.mb ∧ g.gb ≠ g.mb) (hz : ∀ k, FtB bd gm hm A Sa G k → k < w0.heap.size) (hbase : base ≤ w0.heap.size) (h : BP w base bd f m last gm hm A n c Sa a G gN hN gF hF E fl) (hg : GAt w g) :
    BP w base bd f m last gm hm A n c Sa a (G ++ [g]) gN hN gF hF E fl := by
  have hp : (ownB bd gm hm (G ++ [g])).Perm (g.gb :: g.mb :: ownB bd gm hm G) := by
    unfold ownB
    rw [List.map_append, List.map_append, List.map_cons, List.map_nil, List.map_cons, List.map_nil]
    refine List.perm_iff_count.2 fun x => ?_
    simp only [List.count_cons, List.count_append, List.count_nil]
    omega
  have hlt : ∀ k ∈ ownB bd gm hm G, k < w0.heap.size := fun k hk => hz k (.inl hk)
  have hown : (Value.slice A n c).ownBlock = (Value.slice A 0 0).ownBlock := own_block A n c 0 0
  refine ⟨h.blk, h.gmv, h.hmv, h.row, h.al, fun x hx => ?_, ?_, fun k hk => ?_, h.sr⟩
  · rcases List.mem_append.1 hx with hx | hx
    · exact h.gr x hx
    · rw [List.mem_singleton] at hx
      rw [hx]
      exact hg
  · rw [hp.nodup_iff, List.nodup_cons, List.nodup_cons]
    refine ⟨fun hk => ?_, fun hk => ?_, h.nd⟩
    · rcases List.mem_cons.1 hk with hk | hk
      · exact h0.2.2 hk
      · have := hlt _ hk; omega
    · have := hlt _ hk; omega
  · rw [hp.mem_iff, List.mem_cons, List.mem_cons] at hk
    rcases hk with rfl | rfl | hk
    · exact ⟨by omega, lt_at hg.blk, fun e => by have := hz _ (.inr (.inr e)); omega, fun e => by have := hz _ (.inr (.inl (e.trans hown))); omega⟩
    · exact ⟨by omega, hg.mv.lt, fun e => by have := hz _ (.inr (.inr e)); omega, fun e => by have := hz _ (.inr (.inl (e.trans hown))); omega⟩
    · exact h.lo k hk
/-- The row was sorted, in place. -/
theorem BP.rowed (h : BP w base bd f m last gm hm A n c Sa a G gN hN gF hF E fl) {fl' : List Nat} (hr : OwnN w' base A n c fl') (hg : w.grownBy w' (Value.slice A n c).ownBlock) : BP w' base bd f m last gm hm A n c Sa a G gN hN gF hF E fl' := by
  have hk : ∀ k ∈ ownB bd gm hm G, w'.heap[k]? = w.heap[k]? := fun k h1 => hg.block k (h.lo k h1).2.1 (h.lo k h1).2.2.2
  have ho : Only (fun k => some k = (Value.slice A n c).ownBlock) w w' := Only.of_grown hg (fun k e => e)
  exact ⟨(hk _ own_bd).trans h.blk, h.gmv.kept (hk _ own_gm), h.hmv.kept (hk _ own_hm), hr, h.al.only ho (fun k _ e => h.sr k e.symm), fun x hx => (h.gr x hx).kept (hk _ (own_gb hx)) (hk _ (own_mb hx)), h.nd, h.lo1 hg.size, h.sr⟩
/-- The row was written anew, and its variable. -/
theorem BP.setRow (h : BP w base bd f m last gm hm A n c Sa a G gN hN gF hF E fl) {fl' : List Nat} {A' : Option Addr} {n' c' : Nat} (hr : OwnN w' base A' n' c' fl') (hg : w.grownBy w' (Value.slice A n c).ownBlock) (hn : Near w A A') :
    BP (w'.setCell ⟨bd, 5, none⟩ (.slice A' n' c')) base bd f m last gm hm A' n' c' Sa a G gN hN gF hF E fl' := by
  have hne := h.ne
  have ho1 : Only (fun k => some k = (Value.slice A n c).ownBlock) w w' := Only.of_grown hg (fun k e => e)
  have ho2 := Only.setCell w' bd 5 (.slice A' n' c')
  have hk1 : ∀ k ∈ ownB bd gm hm G, w'.heap[k]? = w.heap[k]? := fun k h1 => hg.block k (h.lo k h1).2.1 (h.lo k h1).2.2.2
  have hk : ∀ k ∈ ownB bd gm hm G, k ≠ bd → (w'.setCell ⟨bd, 5, none⟩ (.slice A' n' c')).heap[k]? = w.heap[k]? := fun k h1 h2 => (ho2.block k (Nat.lt_of_lt_of_le (h.lo k h1).2.1 hg.size) h2).trans (hk1 k h1)
  have hnew : ∀ b, (Value.slice A' n' c').ownBlock = some b → (Value.slice A n c).ownBlock = some b ∨ w.heap.size ≤ b := fun b hb => by
    rcases hn with rfl | ⟨x, rfl, hx⟩
    · exact .inl (by rw [own_block _ n c n' c']; exact hb)
    · exact .inr (by simp [Value.ownBlock] at hb; omega)
  have hlo : ∀ k ∈ ownB bd gm hm G, some k ≠ (Value.slice A' n' c').ownBlock := fun k hk e => by
    rcases hnew k e.symm with e | e
    · exact (h.lo k hk).2.2.2 e.symm
    · have := (h.lo k hk).2.1; omega
  refine ⟨at_set ((hk1 _ own_bd).trans h.blk) 5 _, h.gmv.kept (hk _ own_gm (fun e => hne.1 e.symm)), h.hmv.kept (hk _ own_hm (fun e => hne.2.1 e.symm)), hr.at_ (fun b hb => ho2.block b (hr.lt b hb).2 (fun e => hlo bd own_bd (by rw [← e, hb]))), (h.al.only ho1 (fun k _ e => h.sr k e.symm)).only ho2 (fun k _ e => by rw [e]; exact (h.lo _ own_bd).2.2.1),
    fun x hx => (h.gr x hx).kept (hk _ (own_gb hx) (fun e => (hne.2.2.2.1 x hx).1 e.symm)) (hk _ (own_mb hx) (fun e => (hne.2.2.2.1 x hx).2.1 e.symm)), h.nd, fun k hk => ⟨(h.lo k hk).1, by rw [World.size_setCell]; exact Nat.lt_of_lt_of_le (h.lo k hk).2.1 hg.size, (h.lo k hk).2.2.1, hlo k hk⟩, fun b hb e => ?_⟩
  rcases hnew b hb with e2 | e2
  · exact h.sr b e2 e
  · have := h.al.sl b e; omega
theorem BP.ft_lt (h : BP w base bd f m last gm hm A n c Sa a G gN hN gF hF E fl) : ∀ k, FtB bd gm hm A Sa G k → k < w.heap.size := by
  rintro k (hk | hk | hk)
  · exact (h.lo k hk).2.1
  · exact (h.row.lt k (by rw [own_block A n c 0 0]; exact hk.symm)).2
  · exact (h.al.sl k hk).2
end
end Go.Proofs.Ytbnhemmklbbnmaa

/-! ## BoardNilC -/
namespace Go.Proofs.Ytbnhemmklbbnmaa
open Go.RowKit Go.Sort Go.Maps

set_option maxRecDepth 100000 in
theorem bclear_nil (w : World) : Calls Try.prog 17 #[.pointer none] w fun e w' => e = .returned (.tuple #[]) ∧ w = w' := by
  go_enter Try.func17, Try.ntmps17
  go_wp2_with fail
  exact bodyPost_ret (v := .tuple #[]) (by simp [results, Try.results17, go_sem]) rfl ⟨rfl, rfl⟩
set_option maxRecDepth 100000 in
theorem bsend_nil (w : World) (now : Int) (A : Option Addr) (n c : Nat) : Calls Try.prog 11 #[.pointer none, .int .i64 now, .slice A n c] w fun e w' => e = .returned (.int .u64 0) ∧ w = w' := by
  go_enter Try.func11, Try.ntmps11
  go_wp2_with fail
  go_ret
  exact ⟨rfl, rfl⟩
set_option maxRecDepth 100000 in
theorem bdue_nil (w : World) (now : Int) : Calls Try.prog 18 #[.pointer none, .int .i64 now] w fun e w' => e = .returned (.slice none 0 0) ∧ w = w' := by
  go_enter Try.func18, Try.ntmps18
  go_wp2_with fail
  go_ret
  exact ⟨rfl, rfl⟩
set_option maxRecDepth 100000 in
theorem btake_nil (w : World) (A : Option Addr) (n c : Nat) : Calls Try.prog 15 #[.pointer none, .agg #[.slice A n c]] w (Ans w (.slice none 0 0)) := by
  go_enter Try.func15, Try.ntmps15
  go_wp2_with fail
  go_ret
  exact ⟨rfl, below_box w _⟩
end Go.Proofs.Ytbnhemmklbbnmaa
