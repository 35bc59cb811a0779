/-
  What stands in memory while a drive is drawn: the source, the drive, its files in a row of their own. Condition: the source lies in one block of its own.
-/
import Derived.Test.YtfckgpmphcadeaaZName8
import Derived.Test.YtfckgpmphcadeaaZDrvE
import Derived.Test.YtfckgpmphcadeaaDrvFp
import Derived.Test.YtfckgpmphcadeaaDrvCh
namespace Go.Proofs.Ytfckgpmphcadeaa.draw
open Go.RowKit Go.Joins
open Go.Proofs.Ytfckgpmphcadeaa.base Go.Proofs.Ytfckgpmphcadeaa.blk Go.Proofs.Ytfckgpmphcadeaa.aid Go.Proofs.Ytfckgpmphcadeaa.drv
open Go.Proofs.Ytfckgpmphcadeaa.row (Rd Own OwnV appSem app_fold)
open Go.Proofs.Ytfckgpmphcadeaa.rwStored (cs)
set_option linter.unusedVariables false

/-- a drive is drawn -/
def DrewDrive (w : World) (g : Nat) (e : Ending) (w' : World) : Prop :=
  ∃ (a : Option Addr) (c : Nat) (l : List File) (r : Int), e = .returned (.agg #[.slice a l.length c, .int .i64 r]) ∧ l.length ≤ 100 ∧ Small l ∧ l.length ≤ c ∧ -1000000 ≤ r ∧ r ≤ 1000000 ∧ Rd w' a (cs l) ∧ (∀ b o s, a = some ⟨b, o, s⟩ → w.heap.size ≤ b) ∧ SrcAt w' g ∧ w.grownBy w' (some g)
structure Dv (w : World) (g D : Nat) (l : List File) (r : Int) (a : Option Addr) (c : Nat) (W : World) : Prop where
  src : SrcAt W g
  grown : w.grownBy W (some g)
  b0 : W.heap[w.heap.size]? = some (.cells #[.slice none 0 0, .int .i64 0] 25)
  b1 : W.heap[D]? = some (.cells #[.slice a l.length c, .int .i64 r] 25)
  row : W.ownsRow (D + 1) 39 3 (.slice a l.length c) l.length (cs l)
  hg : g < w.heap.size
  hD : w.heap.size < D
variable {w W W' : World} {g D : Nat} {l : List File} {r : Int} {a : Option Addr} {c : Nat}
theorem Dv.draw (h : Dv w g D l r a c W) (hs : SrcAt W' g) (hg : W.grownBy W' (some g)) : Dv w g D l r a c W' :=
  ⟨hs, grown_trans h.grown hg, (hg.block _ (Array.getElem?_eq_some_iff.1 h.b0).1 (by have := h.hg; simp; omega)).trans h.b0, (hg.block _ (Array.getElem?_eq_some_iff.1 h.b1).1 (by have := h.hg; have := h.hD; simp; omega)).trans h.b1, h.row.kept hg (by
    rcases hq : (Value.slice a l.length c).ownBlock with _ | q
    · exact .inl rfl
    · exact .inr (by have := (h.row.lt q hq).1; have := h.hg; have := h.hD; simp; omega)), h.hg, h.hD⟩
theorem Dv.next (h : Dv w g D l r a c W) (hb : Below W.heap.size W W') : Dv w g D l r a c W' := h.draw (h.src.below hb) (below_grew hb _)
theorem Dv.lt (h : Dv w g D l r a c W) : D < W.heap.size := (Array.getElem?_eq_some_iff.1 h.b1).1
theorem Dv.cap (h : Dv w g D l r a c W) : l.length ≤ c := own_cap h.row
theorem Dv.ownV (h : Dv w g D l r a c W) : OwnV 39 W a (cs l) := by
  obtain ⟨a', c', e, ho, _⟩ := mem.own_of h.row
  simp at e
  obtain ⟨rfl, rfl⟩ := e
  exact ho
theorem Dv.new (h : Dv w g D l r a c W) : ∀ b o s, a = some ⟨b, o, s⟩ → D + 1 ≤ b := by
  obtain ⟨a', c', e, _, hn⟩ := mem.own_of h.row
  simp at e
  obtain ⟨rfl, rfl⟩ := e
  exact hn
/-- other files, in a row of their own, and a room are put into the drive -/
theorem Dv.put (h : Dv w g D l r a c W) {l' : List File} {a' : Option Addr} {c' : Nat} (r' : Int) (hrow : W.ownsRow (D + 1) 39 3 (.slice a' l'.length c') l'.length (cs l')) : Dv w g D l' r' a' c' ((W.setCell ⟨D, 0, none⟩ (.slice a' l'.length c')).setCell ⟨D, 1, none⟩ (.int .i64 r')) := by
  have hg := h.hg
  have hD := h.hD
  refine ⟨src_cell_set (src_cell_set h.src (by omega)) (by omega), grown_cell (grown_cell h.grown (by omega)) (by omega), blk_set (blk_set h.b0 _ _ (by simp; omega)) _ _ (by simp; omega), ?_, ownsRow_setCell_below (ownsRow_setCell_below hrow (by simp) _) (by simp) _, hg, hD⟩
  have h1 := heap_setCell_same _ D 1 _ _ (.int .i64 r') (heap_setCell_same W D 0 _ _ (.slice a' l'.length c') h.b1)
  simpa using h1
theorem Dv.files (h : Dv w g D l r a c W) {l' : List File} {a' : Option Addr} {c' : Nat} (hrow : W.ownsRow (D + 1) 39 3 (.slice a' l'.length c') l'.length (cs l')) : Dv w g D l' r a' c' (W.setCell ⟨D, 0, none⟩ (.slice a' l'.length c')) := by
  have hg := h.hg
  have hD := h.hD
  refine ⟨src_cell_set h.src (by omega), grown_cell h.grown (by omega), blk_set h.b0 _ _ (by simp; omega), ?_, ownsRow_setCell_below hrow (by simp) _, hg, hD⟩
  have h1 := heap_setCell_same W D 0 _ _ (.slice a' l'.length c') h.b1
  simpa using h1
theorem Dv.room (h : Dv w g D l r a c W) (r' : Int) : Dv w g D l r' a c (W.setCell ⟨D, 1, none⟩ (.int .i64 r')) := by
  have hg := h.hg
  have hD := h.hD
  refine ⟨src_cell_set h.src (by omega), grown_cell h.grown (by omega), blk_set h.b0 _ _ (by simp; omega), ?_, ownsRow_setCell_below h.row (by simp) _, hg, hD⟩
  have h1 := heap_setCell_same W D 1 _ _ (.int .i64 r') h.b1
  simpa using h1
/-- a file is appended -/
theorem Dv.app (h : Dv w g D l r a c W) (x0 x1 : ByteArray) (x2 : Int) (hl : l.length ≤ 1000) :
    ∃ q c2 w2, (appSem #[23, 23] 23 #[.slice a l.length c, .slice (some ⟨W.heap.size, 0, none⟩) 1 1]).run Try.prog (W.alloc (.cells #[.string x0, .string x1, .int .i64 x2] 39)) = .ok (.slice (some ⟨q, 0, none⟩) (l.length + 1) c2) w2 ∧ w2.heap[D]? = some (.cells #[.slice a l.length c, .int .i64 r] 25) ∧ Dv w g D (l ++ [(x0, x1, x2)]) r (some ⟨q, 0, none⟩) c2 (w2.setCell ⟨D, 0, none⟩ (.slice (some ⟨q, 0, none⟩) (l.length + 1) c2)) := by
  have hlt := h.lt
  have hg := h.hg
  have hD := h.hD
  obtain ⟨q, c2, w2, h1, h2, h3⟩ := rwStored.app W (D + 1) (.slice a l.length c) l.length l x0 x1 x2 rfl h.row (by omega) (by omega)
  have hbl : Below (D + 1) W w2 := ((Below.refl (D + 1) W).alloc (by omega) _).grown h3 (by simp; omega) (fun x hx => (h.row.lt x hx).1)
  have e : (l ++ [(x0, x1, x2)]).length = l.length + 1 := by simp
  rw [← e] at h1 h2 ⊢
  have hbD : w2.heap[D]? = some (.cells #[.slice a l.length c, .int .i64 r] 25) := (hbl.block D (by omega)).trans h.b1
  refine ⟨q, c2, w2, h1, hbD, src_cell_set (h.src.upto (hbl.mono (by omega))) (by omega), grown_cell (grown_new h.grown (hbl.mono (by omega))) (by omega), blk_set ((hbl.block _ (by omega)).trans h.b0) _ _ (by simp; omega), ?_, ownsRow_setCell_below h2 (by simp) _, hg, hD⟩
  have h4 := heap_setCell_same w2 D 0 _ _ (.slice (some ⟨q, 0, none⟩) (l ++ [(x0, x1, x2)]).length c2) hbD
  simpa using h4
/-- the first file's number is written -/
theorem Dv.first (h : Dv w g D l r a c W) {q : Nat} (ha : a = some ⟨q, 0, none⟩) {f : File} (hf : l[0]? = some f) (x : Int) : Dv w g D (l.set 0 (f.1, f.2.1, x)) r a c (W.setCell ⟨q, 2, none⟩ (.int .i64 x)) := by
  subst ha
  have hg := h.hg
  have hD := h.hD
  have hq := h.new q 0 none rfl
  refine ⟨src_cell_set h.src (by omega), grown_cell h.grown (by omega), blk_set h.b0 _ _ (by simp; omega), ?_, ?_, hg, hD⟩
  · have h1 := blk_set h.b1 ⟨q, 2, none⟩ (.int .i64 x) (by simp; omega)
    simpa using h1
  · have h2 := (h.row.stored 2 (.int .i64 x)).1
    have e := cs_sync l 0 f x hf
    rw [show 0 * 3 + 2 = 2 by omega] at e
    rw [e] at h2
    simpa using h2
theorem Dv.fin (h : Dv w g D l r a c W) (hl : l.length ≤ 100) (hs : Small l) (h0 : -1000000 ≤ r) (h1 : r ≤ 1000000) (x y : Value) : DrewDrive w g (.returned (.agg #[.slice a l.length c, .int .i64 r])) ((W.setCell ⟨w.heap.size, 0, none⟩ x).setCell ⟨w.heap.size, 1, none⟩ y) := by
  have hD := h.hD
  have hn := h.new
  have ho : OwnV 39 ((W.setCell ⟨w.heap.size, 0, none⟩ x).setCell ⟨w.heap.size, 1, none⟩ y) a (cs l) := own_off (p := ⟨w.heap.size, 1, none⟩) (own_off (p := ⟨w.heap.size, 0, none⟩) h.ownV (fun b o s e => by have := hn b o s e; simp; omega)) (fun b o s e => by have := hn b o s e; simp; omega)
  exact ⟨a, c, l, r, rfl, hl, hs, h.cap, h0, h1, ho.rd, fun b o s e => by have := hn b o s e; omega, src_cell_set (src_cell_set h.src h.hg) h.hg, grown_cell (grown_cell h.grown (Nat.le_refl _)) (Nat.le_refl _)⟩

/-- the drive that is drawn, and an answer of DriveDo in a place of its own -/
structure Xs (w : World) (g D : Nat) (l : List File) (r : Int) (a : Option Addr) (c X : Nat) (a5 : Option Addr) (c5 : Nat) (l5 : List File) (r5 q5 : Int) (W : World) : Prop where
  dv : Dv w g D l r a c W
  bx : W.heap[X]? = some (.cells #[.slice a5 l5.length c5, .int .i64 r5, .int .i64 q5] 31)
  row : W.ownsRow (D + 1) 39 3 (.slice a5 l5.length c5) l5.length (cs l5)
  hX : D < X
theorem Dv.same {W' : World} (h : Dv w g D l r a c W) (h1 : W'.os = W.os) (h2 : W'.tape = W.tape) (h3 : W'.output = W.output) (h4 : W'.heap = W.heap) : Dv w g D l r a c W' :=
  h.next ⟨h1, h2, h3, by rw [h4]; exact Nat.le_refl _, fun k hk => by rw [h4]⟩
theorem owns_same {W W' : World} {base n : Nat} {v : Value} {xs : List Value} (h : W.ownsRow base 39 3 v n xs) (h4 : W'.heap = W.heap) : W'.ownsRow base 39 3 v n xs := by
  unfold World.ownsRow at *
  rw [h4]
  exact h
theorem Xs.same {W' : World} {X c5 : Nat} {a5 : Option Addr} {l5 : List File} {r5 q5 : Int} (h : Xs w g D l r a c X a5 c5 l5 r5 q5 W) (h1 : W'.os = W.os) (h2 : W'.tape = W.tape) (h3 : W'.output = W.output) (h4 : W'.heap = W.heap) : Xs w g D l r a c X a5 c5 l5 r5 q5 W' :=
  ⟨h.dv.same h1 h2 h3 h4, by rw [h4]; exact h.bx, owns_same h.row h4, h.hX⟩
/-- another block is written -/
theorem Dv.other (h : Dv w g D l r a c W) {P i : Nat} (hP : D < P) (hne : ∀ b o s, a = some ⟨b, o, s⟩ → b ≠ P) (v : Value) : Dv w g D l r a c (W.setCell ⟨P, i, none⟩ v) := by
  have hg := h.hg
  have hD := h.hD
  refine ⟨src_cell_set h.src (by omega), grown_cell h.grown (by omega), blk_set h.b0 _ _ (by simp; omega), blk_set h.b1 _ _ (by simp; omega), h.row.kept (grew_cell W P i v) ?_, hg, hD⟩
  cases a with
  | none => exact .inl rfl
  | some ad => exact .inr (fun e => by simp [Value.ownBlock] at e; exact hne ad.block ad.off ad.spot rfl e)
theorem owns_other {base n c P i : Nat} {a : Option Addr} {xs : List Value} (h : W.ownsRow base 39 3 (.slice a n c) n xs) (hne : ∀ b o s, a = some ⟨b, o, s⟩ → b ≠ P) (v : Value) : (W.setCell ⟨P, i, none⟩ v).ownsRow base 39 3 (.slice a n c) n xs := by
  refine h.kept (grew_cell W P i v) ?_
  cases a with
  | none => exact .inl rfl
  | some ad => exact .inr (fun e => by simp [Value.ownBlock] at e; exact hne ad.block ad.off ad.spot rfl e)
theorem xs_store {P c5 : Nat} {a5 : Option Addr} {l5 : List File} {r5 q5 : Int} {x y z : Value} (h : Dv w g D l r a c W) (kx : W.heap[P]? = some (.cells #[x, y, z] 31)) (hP : D < P) (hne : ∀ b o s, a = some ⟨b, o, s⟩ → b ≠ P) (h5 : W.ownsRow (D + 1) 39 3 (.slice a5 l5.length c5) l5.length (cs l5)) (hn5 : ∀ b o s, a5 = some ⟨b, o, s⟩ → b ≠ P) :
    Xs w g D l r a c P a5 c5 l5 r5 q5 (((W.setCell ⟨P, 0, none⟩ (.slice a5 l5.length c5)).setCell ⟨P, 1, none⟩ (.int .i64 r5)).setCell ⟨P, 2, none⟩ (.int .i64 q5)) := by
  refine ⟨((h.other hP hne _).other hP hne _).other hP hne _, ?_, owns_other (owns_other (owns_other h5 hn5 _) hn5 _) hn5 _, hP⟩
  have e := heap_setCell_same _ P 2 _ _ (.int .i64 q5) (heap_setCell_same _ P 1 _ _ (.int .i64 r5) (heap_setCell_same W P 0 _ _ (.slice a5 l5.length c5) kx))
  simpa using e
theorem xs_alloc {c5 : Nat} {a5 : Option Addr} {l5 : List File} {r5 q5 : Int} (h : Dv w g D l r a c W) (h5 : W.ownsRow (D + 1) 39 3 (.slice a5 l5.length c5) l5.length (cs l5)) :
    Xs w g D l r a c W.heap.size a5 c5 l5 r5 q5 (W.alloc (.cells #[.slice a5 l5.length c5, .int .i64 r5, .int .i64 q5] 31)) :=
  ⟨h.next (below_alloc1 W _), blk_new W _ _ rfl, h5.alloc _, h.lt⟩
theorem Dv.old (h : Dv w g D l r a c W) : ∀ b o s, a = some ⟨b, o, s⟩ → b < W.heap.size := fun b o s e => (h.row.lt b (by rw [e]; rfl)).2
theorem owns_lt {W : World} {base n c : Nat} {a : Option Addr} {xs : List Value} (h : W.ownsRow base 39 3 (.slice a n c) n xs) : ∀ b o s, a = some ⟨b, o, s⟩ → b < W.heap.size := fun b o s e => (h.lt b (by rw [e]; rfl)).2

/-- what DriveDo makes of a right drive: another code than 0, or a right drive again -/
def DoPost (wx : World) (e : Ending) (w' : World) : Prop :=
  ∃ (a : Option Addr) (c : Nat) (l : List File) (r q : Int), e = .returned (.agg #[.slice a l.length c, .int .i64 r, .int .i64 q]) ∧ (q = 0 → driveB l r = true) ∧ OwnV 39 w' a (cs l) ∧ (∀ b o s, a = some ⟨b, o, s⟩ → wx.heap.size ≤ b) ∧ Below wx.heap.size wx w' ∧ l.length ≤ c ∧ Room w' a c
theorem right_small {l : List File} {r : Int} (h : driveB l r = true) : Small l := fun f hf => by
  have h1 := filesB_all none l (driveB_parts h).2.2.2.1 f hf
  have := name_small h1.1
  exact ⟨by omega, by omega⟩
theorem do_post (a : Option Addr) (c : Nat) (l : List File) (r q : Int) (n t x : ByteArray) (wx : World) (h : driveB l r = true) (hc : l.length ≤ c) (hn : n.size ≤ 20) (ht : t.size ≤ 20) (hx : x.size ≤ 20) (hr : Rd wx a (cs l)) :
    Calls Try.prog 12 #[.agg #[.slice a l.length c, .int .i64 r], .agg #[.int .i64 q, .string n, .string t, .string x]] wx (DoPost wx) := by
  refine (driveDoE_any a c l r q n t x wx (by have := (driveB_parts h).1; omega) (right_small h) hc (by omega) (by omega) (by omega) hr).mono ?_
  rintro e w' ⟨a2, c2, rfl, h1, h2, h3, h4, h5⟩
  refine ⟨a2, c2, _, _, _, rfl, fun hq => ?_, h1, h2, h3, h4, h5⟩
  refine (do_reads (k := q) (n := n) (t := t) (x := x) h ?_).1
  rw [← hq]
end Go.Proofs.Ytfckgpmphcadeaa.draw
