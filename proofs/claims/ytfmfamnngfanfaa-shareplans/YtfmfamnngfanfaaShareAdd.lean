/-
  CONTRACT of share.plan's own function (a line is pushed, if it has one left).
  No statement is proved here.
-/
import Derived.Test.YtfmfamnngfanfaaShareRun
namespace Go.Proofs.Ytfmfamnngfanfaa
open Go.RowKit Go.Sort

theorem frz_block' {w : World} {r i : Nat} {cs : Array Value} {t : TypeId} (h : w.heap[r]? = some (.cells cs t (0, 0))) : w.frozen? ⟨r, i, none⟩ = false := by simp [World.frozen?, h]
def withExc (x : Ln) (e : Int) : Ln := { x with exc := e }
def Added (w : World) (base g : Nat) (A : Option Addr) (n c : Nat) (d : Array Ln) (x : Ln) (e : Ending) (w' : World) : Prop :=
  e = .returned (.tuple #[]) ∧ ∃ A' n' c' d', Hp w' base g A' n' c' d' ∧ Heap lessL d' n' ∧ d'.toList.Perm (if x.n = 0 then d.toList else x :: d.toList) ∧ n' ≤ n + 1 ∧ Near w A A' ∧ Only (Its g A n c) w w'
set_option maxRecDepth 100000 in
set_option maxHeartbeats 4000000 in
theorem add_none (w : World) (base kb wb g : Nat) (A : Option Addr) (n c : Nat) (d : Array Ln) (x : Ln) (e0 : Int) (h : Hp w base g A n c d) (hh : Heap lessL d n) (hx : x.n = 0) :
    Calls Try.prog 77 #[lnv x, .pointer (some ⟨kb, 0, none⟩), .pointer (some ⟨wb, 0, none⟩), .pointer (some ⟨g, 0, none⟩)] w (Added w base g A n c d (withExc x e0)) := by
  obtain ⟨cl, pl, xA, xn, xc, by_, ex⟩ := x
  simp only at hx
  subst hx
  have H := Lib.hid h
  have HH := Lib.hid hh
  clear h hh
  unfold lnv
  simp only
  go_enter Try.func77, Try.ntmps77
  go_wp2
  go_end0
  have hb := below_box w (.cells #[.int .i64 (cl : Int), .int .i64 (pl : Int), .slice xA 0 xc, .int .i64 by_, .int .i64 ex] 152)
  exact ⟨rfl, A, n, c, d, H.out.below hb, HH.out, List.Perm.refl _, Nat.le_succ _, .inl rfl, Only.of_below hb⟩
set_option maxRecDepth 100000 in
set_option maxHeartbeats 4000000 in
theorem add_some (w : World) (base kb wb g : Nat) (A : Option Addr) (n c : Nat) (d : Array Ln) (x : Ln) (cap : Int) (Aw : Option Addr) (nw cw : Nat) (W : List Int)
    (h : Hp w base g A n c d) (hh : Heap lessL d n) (hn : n ≤ 10000) (hx : 0 < x.n) (hk : w.cell? ⟨kb, 0, none⟩ = some (.int .i64 cap)) (hw : w.cell? ⟨wb, 0, none⟩ = some (.slice Aw nw cw)) (hi : Is w w.heap.size Aw nw cw W)
    (hcap : -281474976710656 ≤ cap ∧ cap ≤ 281474976710656) (hb : -281474976710656 ≤ x.byt ∧ x.byt ≤ 281474976710656) :
    Calls Try.prog 77 #[lnv x, .pointer (some ⟨kb, 0, none⟩), .pointer (some ⟨wb, 0, none⟩), .pointer (some ⟨g, 0, none⟩)] w (Added w base g A n c d (withExc x (excW cap W x.cls x.byt))) := by
  obtain ⟨cl, pl, xA, xn, xc, by_, ex⟩ := x
  simp only at hx hb
  have hxI : (0 : Int) < (xn : Int) := by omega
  have H := Lib.hid h
  have HH := Lib.hid hh
  have HI := Lib.hid hi
  have hgz := h.lt
  have hkz := World.block_lt_of_cell? w _ hk
  have hwz := World.block_lt_of_cell? w _ hw
  clear h hh hi
  unfold lnv withExc
  simp only
  obtain ⟨E, HE⟩ : ∃ E, Hid (E = excW cap W cl by_) := ⟨_, rfl⟩
  rw [← HE.out]
  go_enter Try.func77, Try.ntmps77
  go_wp2_with fail
  have hb1 := below_box w (.cells #[.int .i64 (cl : Int), .int .i64 (pl : Int), .slice xA xn xc, .int .i64 by_, .int .i64 ex] 152)
  refine (exc_any _ cap Aw nw cw W cl by_ (HI.out.on hb1 (Nat.le_refl _)) hcap hb).mono ?_
  rintro e w2 ⟨rfl, hb2⟩
  rw [← HE.out]
  have hN : ∀ i u, (#[Value.int .i64 (cl : Int), .int .i64 (pl : Int), .slice xA xn xc, .int .i64 by_, .int .i64 ex] : Array Value)[i]? = some u → w2.cell? ⟨w.heap.size, i, none⟩ = some u := fun i u h =>
    (hb2.cell (p := ⟨w.heap.size, i, none⟩) (by simp)).trans ((cell_last w _ _ _ i rfl).trans h)
  have n0 := hN 0 _ rfl
  have n1 := hN 1 _ rfl
  have n2 := hN 2 _ rfl
  have n3 := hN 3 _ rfl
  have n4 := hN 4 _ rfl
  have nf : w2.frozen? ⟨w.heap.size, 4, none⟩ = false := (hb2.frozen (p := ⟨w.heap.size, 4, none⟩) (by simp)).trans (frz_block' (heap_alloc_new w _))
  have hb3 : RowKit.Below w.heap.size w w2 := hb1.trans (hb2.mono (by simp))
  have HB := Lib.hid (hb3.setCell (p := ⟨w.heap.size, 4, none⟩) (Nat.le_refl _) (.int .i64 E))
  have HO : Hid (Only (Its g A n c) w _) := Only.of_below HB.out
  have HP2 := Lib.hid (H.out.below HB.out)
  clear HB
  obtain ⟨N, HN⟩ : ∃ N, Hid (N = w.heap.size) := ⟨_, rfl⟩
  rw [← HN.out] at n0 n1 n2 n3 n4 nf HO HP2 ⊢
  clear hN hb1 hb2 hb3 hk hw
  go_wp2_with fail
  refine (hpush_any _ base g A n c d ⟨cl, pl, xA, xn, xc, by_, E⟩ HP2.out HH.out (by omega)).mono ?_
  rintro e w5 ⟨rfl, A5, c5, d5, h5, hh5, hp5, hn5, ho5⟩
  have H5 := Lib.hid h5
  have HH5 := Lib.hid hh5
  have HP5 := Lib.hid hp5
  have HN5 := Lib.hid hn5
  have HO5 := Lib.hid ho5
  clear h5 hh5 hp5 hn5 ho5
  go_wp2
  go_end0
  refine ⟨rfl, A5, n + 1, c5, d5, H5.out, HH5.out, ?_, Nat.le_refl _, HN5.out.of HO.out.size, HO.out.trans HO5.out (fun _ _ h => h)⟩
  rw [if_neg (by simp only; omega)]
  exact HP5.out
end Go.Proofs.Ytfmfamnngfanfaa
