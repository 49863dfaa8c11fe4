/-
  A BOARD as the document tells it: groups as numbers, tries and members; its calls over that.
  No statement is proved here.
-/
import Derived.Test.YtbnhemmklbbnmaaBdLot23
namespace Go.Proofs.Ytbnhemmklbbnmaa
open Go.RowKit Go.Sort Go.Maps

/-- A group without its blocks. -/
abbrev Gw := Nat × Nat × List Nat
def gvw (g : Gp) : Gw := (g.num, g.tries, g.mem)
def bumpV (q : Nat) (V : List Gw) : List Gw := V.map fun g => if g.1 = q then (g.1, g.2.1 + 1, g.2.2) else g
def triesV (q : Nat) (V : List Gw) : Nat := ((V.find? (fun g => g.1 == q)).map (·.2.1)).getD 0
def memV (q : Nat) (V : List Gw) : List Nat := ((V.find? (fun g => g.1 == q)).map (·.2.2)).getD []
def takeV (P : Nat → Bool) (V : List Gw) : List Gw := (V.map (fun g => (g.1, g.2.1, g.2.2.filter P))).filter (fun g => !g.2.2.isEmpty)
def takeEV (V : List Gw) (E : List En) : List En := E.filter (fun e => decide (e.1 ∈ V.map (·.1)))
def dueStepV (f m : Nat) (now : Int) (s : List Gw × List En) (q : Nat) : List Gw × List En := (bumpV q s.1, setE q (now + (wt f m (triesV q s.1) : Nat)) s.2)
/-- The tries of k's group; 0 if k isn't on its way. -/
def homeV (k : Nat) (V : List Gw) : Nat := ((V.find? (fun g => decide (k ∈ g.2.2))).map (·.2.1)).getD 0
theorem bump_vw (q : Nat) (G : List Gp) : (bump q G).map gvw = bumpV q (G.map gvw) := by
  unfold bump bumpV
  rw [List.map_map, List.map_map]
  congr 1
  funext g
  show gvw (if g.num = q then { g with tries := g.tries + 1 } else g) = if (gvw g).1 = q then ((gvw g).1, (gvw g).2.1 + 1, (gvw g).2.2) else gvw g
  by_cases e : g.num = q
  · rw [if_pos e, if_pos (show (gvw g).1 = q from e)]
    rfl
  · rw [if_neg e, if_neg (show ¬ (gvw g).1 = q from e)]
theorem find_vw (q : Nat) : ∀ (G : List Gp), (G.map gvw).find? (fun g => g.1 == q) = (G.find? (fun g => g.num == q)).map gvw
  | [] => rfl
  | g :: G => by
    rw [List.map_cons, List.find?_cons, List.find?_cons, find_vw q G]
    show (match g.num == q with | true => _ | false => _) = _
    cases g.num == q <;> rfl
theorem tries_vw (q : Nat) (G : List Gp) : triesV q (G.map gvw) = triesOf q G := by
  unfold triesV triesOf
  rw [find_vw]
  cases G.find? (fun g => g.num == q) <;> rfl
theorem mem_vw (q : Nat) (G : List Gp) : memV q (G.map gvw) = memOf q G := by
  unfold memV memOf
  rw [find_vw]
  cases G.find? (fun g => g.num == q) <;> rfl
theorem take_vw (P : Nat → Bool) : ∀ (G : List Gp), (takeG P G).map gvw = takeV P (G.map gvw)
  | [] => rfl
  | g :: G => by
    rw [takeG_cons]
    unfold takeV
    rw [List.map_cons, List.map_cons, List.filter_cons]
    have ih := take_vw P G
    unfold takeV at ih
    cases h : (g.mem.filter P).isEmpty
    · rw [if_neg (by simp), if_pos (by show (!(g.mem.filter P).isEmpty) = true; rw [h]; rfl), List.map_cons, ih]
      rfl
    · rw [if_pos rfl, if_neg (by show ¬ (!(g.mem.filter P).isEmpty) = true; rw [h]; simp), ih]
theorem nums_vw (G : List Gp) : (G.map gvw).map (·.1) = G.map (·.num) := by rw [List.map_map]; rfl
theorem takeE_vw (G : List Gp) (E : List En) : takeEV (G.map gvw) E = takeE G E := by unfold takeEV takeE; rw [nums_vw]
theorem due_vw (f m : Nat) (now : Int) : ∀ (is : List Nat) (s : List Gp × List En), (is.foldl (dueStep f m now) s).1.map gvw = (is.foldl (dueStepV f m now) (s.1.map gvw, s.2)).1 ∧ (is.foldl (dueStep f m now) s).2 = (is.foldl (dueStepV f m now) (s.1.map gvw, s.2)).2
  | [], _ => ⟨rfl, rfl⟩
  | q :: is, s => by
    have ih := due_vw f m now is (dueStep f m now s q)
    have e : dueStepV f m now (s.1.map gvw, s.2) q = ((dueStep f m now s q).1.map gvw, (dueStep f m now s q).2) := by
      unfold dueStepV dueStep
      rw [bump_vw, tries_vw]
    rw [List.foldl_cons, List.foldl_cons, e]
    exact ih
/-- A board, told: the last group's number, the groups, the times, who is on his way. -/
structure Pb where
  last : Nat
  V : List Gw
  E : List En
  fl : List Nat
structure Bp (w : World) (S : Nat → Prop) (base bd f m : Nat) (p : Pb) : Prop where
  ex : ∃ G, Bd w S base bd f m p.last G p.E p.fl ∧ G.map gvw = p.V
def p0 : Pb := ⟨0, [], [], []⟩
def sendP (f m : Nat) (now : Int) (l : List Nat) (p : Pb) : Pb := if newL p.fl l = [] then p else ⟨p.last + 1, p.V ++ [(p.last + 1, 1, newL p.fl l)], setE (p.last + 1) (now + (wt f m 0 : Nat)) p.E, sortN (p.fl ++ newL p.fl l)⟩
def sentP (l : List Nat) (p : Pb) : Nat := if newL p.fl l = [] then 0 else p.last + 1
def takeP (R : List Rn) (p : Pb) : Pb := ⟨p.last, takeV (fun x => !inR R x) p.V, takeEV (takeV (fun x => !inR R x) p.V) p.E, p.fl.filter (fun x => !inR R x)⟩
def dueP (f m : Nat) (now : Int) (p : Pb) : Pb := ⟨p.last, ((ids (dueE now p.E)).foldl (dueStepV f m now) (p.V, restE now p.E)).1, ((ids (dueE now p.E)).foldl (dueStepV f m now) (p.V, restE now p.E)).2, p.fl⟩
def dueRows (now : Int) (p : Pb) : List (List Nat) := (ids (dueE now p.E)).map (fun q => sortN (memV q p.V))
/-- What holds of a board that is told. -/
structure Pok (p : Pb) : Prop where
  nd : (p.V.map (·.1)).Nodup
  nl : ∀ g ∈ p.V, 1 ≤ g.1 ∧ g.1 ≤ p.last
  hd : ∀ k, k ∈ p.fl ↔ ∃ g ∈ p.V, k ∈ g.2.2
  one : ∀ g ∈ p.V, ∀ g' ∈ p.V, ∀ k, k ∈ g.2.2 → k ∈ g'.2.2 → g = g'
  md : ∀ g ∈ p.V, g.2.2.Nodup
  me : ∀ g ∈ p.V, g.2.2 ≠ []
  inc : Inc p.fl
  dl : ∀ k ∈ p.fl, k < two64
  ie : (ids p.E).Perm (p.V.map (·.1))
  ord : Ord p.E
  gl : p.V.length ≤ p.last
section
variable {w w' : World} {S Q : Nat → Prop} {base bd f m : Nat} {p : Pb}
theorem Bp.ok (h : Bp w S base bd f m p) : Pok p := by
  obtain ⟨G, hb, hV⟩ := h.ex
  obtain ⟨gN, hN, gF, hF, hw⟩ := hb.pure
  have hm : ∀ g ∈ p.V, ∃ z ∈ G, gvw z = g := fun g hg => by rw [← hV] at hg; obtain ⟨z, hz, e⟩ := List.mem_map.1 hg; exact ⟨z, hz, e⟩
  have hr : ∀ z ∈ G, gvw z ∈ p.V := fun z hz => by rw [← hV]; exact List.mem_map.2 ⟨z, hz, rfl⟩
  refine ⟨by rw [← hV, nums_vw]; exact hw.nd, fun g hg => ?_, fun k => ?_, fun g hg g' hg' k h1 h2 => ?_, fun g hg => ?_, fun g hg => ?_, hb.inc, hw.dl, by rw [← hV, nums_vw]; exact hw.ie, hw.ord, ?_⟩
  · obtain ⟨z, hz, rfl⟩ := hm g hg
    exact hw.nl z hz
  · rw [hw.hd]
    constructor
    · rintro ⟨z, hz, hk⟩; exact ⟨gvw z, hr z hz, hk⟩
    · rintro ⟨g, hg, hk⟩
      obtain ⟨z, hz, rfl⟩ := hm g hg
      exact ⟨z, hz, hk⟩
  · obtain ⟨z, hz, rfl⟩ := hm g hg
    obtain ⟨z', hz', rfl⟩ := hm g' hg'
    rw [hw.one hz hz' h1 h2]
  · obtain ⟨z, hz, rfl⟩ := hm g hg
    exact hw.md z hz
  · obtain ⟨z, hz, rfl⟩ := hm g hg
    exact hw.me z hz
  · rw [← hV, List.length_map]; exact hw.gl
theorem Bp.lo (h : Bp w S base bd f m p) : ∀ k, S k → base ≤ k ∧ k < w.heap.size := by
  obtain ⟨G, hb, hV⟩ := h.ex
  exact hb.lo
theorem Bp.bdS (h : Bp w S base bd f m p) : S bd := by
  obtain ⟨G, hb, hV⟩ := h.ex
  exact hb.bdS
theorem Bp.pr (h : Bp w S base bd f m p) : Pr f m := by
  obtain ⟨G, hb, hV⟩ := h.ex
  exact hb.pr
theorem Bp.base_le (h : Bp w S base bd f m p) : base ≤ w.heap.size := by have := h.lo bd h.bdS; omega
theorem Bp.only (h : Bp w S base bd f m p) (ho : Only Q w w') (hq : ∀ k, k < w.heap.size → Q k → ¬ S k) : Bp w' S base bd f m p := by
  obtain ⟨G, hb, hV⟩ := h.ex
  exact ⟨⟨G, hb.only ho hq, hV⟩⟩
theorem Bp.below (h : Bp w S base bd f m p) (hb : RowKit.Below w.heap.size w w') : Bp w' S base bd f m p := h.only (Only.of_below (S := fun _ => False) hb) (fun _ _ k => k.elim)
theorem Bp.toBelow {B : Nat} (h : Bp w S base bd f m p) (ho : Only S w w') (hB : B ≤ base) : RowKit.Below B w w' := ho.toBelow2 (fun k hk => Nat.le_trans hB (h.lo k hk).1) (Nat.le_trans hB h.base_le)
theorem bnewP (w : World) (f m : Nat) (hp : Pr f m) : Calls Try.prog 10 #[prv (f : Int) (m : Int)] w fun e w' => ∃ bd S, e = .returned (.tuple #[.pointer (some ⟨bd, 0, none⟩), .int .i64 0]) ∧ Bp w' S w.heap.size bd f m p0 ∧ RowKit.Below w.heap.size w w' := by
  refine (bnewD w f m hp).mono ?_
  rintro e w' ⟨bd, S, rfl, hb, hbel⟩
  exact ⟨bd, S, rfl, ⟨⟨[], hb, rfl⟩⟩, hbel⟩
def BSendP (w : World) (S : Nat → Prop) (base bd f m : Nat) (r : Nat) (p : Pb) (e : Ending) (w' : World) : Prop :=
  e = .returned (.int .u64 (r : Int)) ∧ ∃ S', Bp w' S' base bd f m p ∧ Only S w w' ∧ ∀ k, S' k → S k ∨ w.heap.size ≤ k
theorem bsendP (h : Bp w S base bd f m p) (A' : Option Addr) (n' c' : Nat) (l : List Nat) (hs : Sn w w.heap.size A' n' c' 1 (nvs l)) (hl : ∀ x ∈ l, x < two64) (now : Int) (hnow : -4611686018427387904 ≤ now ∧ now ≤ 4611686018427387904) (hla : p.last ≤ 90000) (hfl : p.fl.length + n' < 50) :
    Calls Try.prog 11 #[.pointer (some ⟨bd, 0, none⟩), .int .i64 now, .slice A' n' c'] w (BSendP w S base bd f m (sentP l p) (sendP f m now l p)) := by
  obtain ⟨G, hb, hV⟩ := h.ex
  unfold sentP sendP
  by_cases h0 : newL p.fl l = []
  · rw [if_pos h0, if_pos h0]
    refine (bsendD_none hb A' n' c' l hs hl (by omega) h0 now).mono ?_
    rintro e w' ⟨rfl, hbel⟩
    exact ⟨rfl, S, h.below hbel, Only.of_below hbel, fun k hk => .inl hk⟩
  · rw [if_neg h0, if_neg h0]
    refine (bsendD_some hb A' n' c' l hs hl h0 now hnow hla hfl).mono ?_
    rintro e w' ⟨rfl, S', gb, mb, hbd, ho, hk⟩
    exact ⟨rfl, S', ⟨⟨_, hbd, by rw [List.map_append, hV]; rfl⟩⟩, ho, hk⟩
theorem bsendP_none (h : Bp w S base bd f m p) (A' : Option Addr) (n' c' : Nat) (l : List Nat) (hs : Sn w w.heap.size A' n' c' 1 (nvs l)) (hl : ∀ x ∈ l, x < two64) (now : Int) (hn : n' ≤ 100000) (h0 : ∀ x ∈ l, x ∈ p.fl) :
    Calls Try.prog 11 #[.pointer (some ⟨bd, 0, none⟩), .int .i64 now, .slice A' n' c'] w (Ans w (.int .u64 0)) := by
  obtain ⟨G, hb, hV⟩ := h.ex
  refine bsendD_none hb A' n' c' l hs hl hn ?_ now
  exact List.eq_nil_iff_forall_not_mem.2 fun x hx => ((newL_mem p.fl l x).1 hx).2 (h0 x ((newL_mem p.fl l x).1 hx).1)
def BDueP (w : World) (S : Nat → Prop) (base bd f m : Nat) (LL : List (List Nat)) (p : Pb) (e : Ending) (w' : World) : Prop :=
  ∃ (D : Option Addr) (dn dc : Nat) (rows : List Rw) (S' : Nat → Prop), e = .returned (.slice D dn dc) ∧ Bp w' S' base bd f m p ∧ w'.ownsRow w.heap.size 37 1 (.slice D dn dc) dn (rows.map Rw.v) ∧ (∀ r ∈ rows, OwnN w' w.heap.size r.A r.n r.c r.l) ∧ rows.map (·.l) = LL ∧ Only S w w' ∧ ∀ k, S' k → S k ∨ w.heap.size ≤ k
theorem bdueP (h : Bp w S base bd f m p) (hla : p.last ≤ 40000) (hfl : p.fl.length < 50) (htr : ∀ g ∈ p.V, g.2.1 < 4611686018427387904) (now : Int) (hnow : -4611686018427387904 ≤ now ∧ now ≤ 4611686018427387904) :
    Calls Try.prog 18 #[.pointer (some ⟨bd, 0, none⟩), .int .i64 now] w (BDueP w S base bd f m (dueRows now p) (dueP f m now p)) := by
  obtain ⟨G, hb, hV⟩ := h.ex
  refine (bdueD hb hla hfl (fun x hx => htr (gvw x) (by rw [← hV]; exact List.mem_map.2 ⟨x, hx, rfl⟩)) now hnow).mono ?_
  rintro e w' ⟨D, dn, dc, rows, S', rfl, hbd, hdr, hrr, hrw, ho, hk⟩
  have hd := due_vw f m now (ids (dueE now p.E)) (G, restE now p.E)
  simp only at hd
  rw [hV] at hd
  refine ⟨D, dn, dc, rows, S', rfl, ⟨⟨_, ?_, hd.1⟩⟩, hdr, hrr, ?_, ho, hk⟩
  · unfold dueP
    simp only
    rw [← hd.2]
    exact hbd
  · rw [hrw]
    unfold dueRows
    refine List.map_congr_left fun q _ => ?_
    rw [← hV, mem_vw]
def BTakeP (w : World) (S : Nat → Prop) (base bd f m : Nat) (gone : List Nat) (p : Pb) (e : Ending) (w' : World) : Prop :=
  ∃ (gA : Option Addr) (gn gc : Nat) (S' : Nat → Prop), e = .returned (.slice gA gn gc) ∧ OwnN w' w.heap.size gA gn gc gone ∧ Bp w' S' base bd f m p ∧ Only S w w' ∧ ∀ k, S' k → S k
theorem btakeP (h : Bp w S base bd f m p) (hfl : p.fl.length ≤ 1000) (hla : p.last ≤ 90000) (Ar : Option Addr) (rn rc : Nat) (R : List Rn) (hR : St w w.heap.size Ar rn rc R) (hrn : rn ≤ 1000) (hok : Okl R) :
    Calls Try.prog 15 #[.pointer (some ⟨bd, 0, none⟩), .agg #[.slice Ar rn rc]] w (BTakeP w S base bd f m (p.fl.filter (inR R)) (takeP R p)) := by
  obtain ⟨G, hb, hV⟩ := h.ex
  refine (btakeD hb hfl hla Ar rn rc R hR hrn hok).mono ?_
  rintro e w' ⟨gA, gn, gc, S', rfl, hgo, hbd, ho, hk⟩
  refine ⟨gA, gn, gc, S', rfl, hgo, ⟨⟨_, ?_, by rw [take_vw, hV]; rfl⟩⟩, ho, hk⟩
  unfold takeP
  simp only
  rw [← hV, ← take_vw, takeE_vw]
  exact hbd
theorem btriesP_yes (h : Bp w S base bd f m p) {g : Gw} (hg : g ∈ p.V) {k : Nat} (hk : k ∈ g.2.2) :
    Calls Try.prog 21 #[.pointer (some ⟨bd, 0, none⟩), .int .u64 (k : Int)] w fun e w' => e = .returned (.int .i64 (g.2.1 : Int)) ∧ w = w' := by
  obtain ⟨G, hb, hV⟩ := h.ex
  rw [← hV] at hg
  obtain ⟨z, hz, rfl⟩ := List.mem_map.1 hg
  exact btriesD_yes hb hz hk
theorem btriesP_no (h : Bp w S base bd f m p) {k : Nat} (hk : k ∉ p.fl) (hk64 : k < two64) :
    Calls Try.prog 21 #[.pointer (some ⟨bd, 0, none⟩), .int .u64 (k : Int)] w fun e w' => e = .returned (.int .i64 (0 : Int)) ∧ w = w' := by
  obtain ⟨G, hb, hV⟩ := h.ex
  exact btriesD_no hb hk hk64
theorem bcountP (h : Bp w S base bd f m p) : Calls Try.prog 27 #[.pointer (some ⟨bd, 0, none⟩)] w fun e w' => e = .returned (.int .i64 (p.fl.length : Int)) ∧ w = w' := by
  obtain ⟨G, hb, hV⟩ := h.ex
  exact bcountD hb
theorem bflightP (h : Bp w S base bd f m p) (hfl : p.fl.length < 50) : Calls Try.prog 29 #[.pointer (some ⟨bd, 0, none⟩)] w (SaysS w 0 (ofL p.fl)) := by
  obtain ⟨G, hb, hV⟩ := h.ex
  exact bflightD hb hfl
theorem bnextP (h : Bp w S base bd f m p) : Calls Try.prog 30 #[.pointer (some ⟨bd, 0, none⟩)] w fun e w' => e = .returned (nextV p.E) ∧ w = w' := by
  obtain ⟨G, hb, hV⟩ := h.ex
  exact bnextD hb
end
end Go.Proofs.Ytbnhemmklbbnmaa
