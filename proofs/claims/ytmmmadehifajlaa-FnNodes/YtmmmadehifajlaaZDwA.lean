/-
  What stands in memory while nodes are drawn: the source, the row of nodes, rows of keys of our own, a node that is being drawn. No condition.
  What (*l01Src).l11Nodes answers and leaves. Condition: the source lies in one block of its own, which is new.
  Nodes and texts that are drawn: what spec.DrawNodesBytes and spec.DrawNodesRead answer and leave. Condition: at most 1,048,576 bytes, which lie in memory.
-/
import Derived.Test.YtmmmadehifajlaaZNodA
import Derived.Test.YtmmmadehifajlaaZDrwA
import Derived.Test.YtmmmadehifajlaaZShaB
import Derived.Test.YtmmmadehifajlaaZBytA
import Derived.Deep.RegionHeld3
import Derived.Deep.RegionWith
namespace Go.Proofs.Ytmmmadehifajlaa.nod
open Go.RowKit Go.Joins
open Go.Proofs.Ytmmmadehifajlaa.base Go.Proofs.Ytmmmadehifajlaa.blk Go.Proofs.Ytmmmadehifajlaa.aid
open Go.Proofs.Ytmmmadehifajlaa.row (Rd Own OwnV appSem app_fold)
open Go.Proofs.Ytmmmadehifajlaa.strs (tx)
open Go.Proofs.Ytmmmadehifajlaa.mem (Mem Mine Off)
open Go.Proofs.Ytmmmadehifajlaa.draw (SrcAt)
set_option linter.unusedVariables false
set_option linter.unusedSimpArgs false

/-- none of what holds lies there -/
def FrD (acc : List Nd) (a : Option Addr) (c X : Nat) : Prop := (∀ p ∈ mines acc, Off p.a p.xs X) ∧ (Value.slice a acc.length c).ownBlock ≠ some X
theorem frd_of {w : World} {o : Obj} {g : Nat} {acc : List Nd} {a : Option Addr} {c X : Nat} (h : FrD acc a c X) (hg : w.heap.size ≤ g) (hX : g < X) : Fresh w [(g, o)] acc a c X :=
  ⟨by omega, by intro p hp; simp at hp; subst hp; simp only; omega, h.1, h.2⟩
/-- nodes that are drawn, and the source -/
structure Dn (w : World) (g : Nat) (acc : List Nd) (a : Option Addr) (c : Nat) (W : World) : Prop where
  src : SrcAt W g
  lo : w.heap.size ≤ g
  rn : ∃ o, Rn w [(g, o)] acc a c (g + 1) W
/-- a node that is being drawn -/
structure Dv (w : World) (g : Nat) (acc : List Nd) (a : Option Addr) (c X : Nat) (x0 : ByteArray) (x1 : Bool) (x2 : Int) (ka : Option Addr) (ks : Tx) (kc : Nat) (W : World) : Prop where
  dn : Dn w g acc a c W
  lt : g < X
  var : W.heap[X]? = some (.cells #[.string x0, .bool x1, .int .i64 x2, .slice ka ks.length kc] 59)
  krow : W.ownsRow (X + 1) 9 1 (.slice ka ks.length kc) ks.length (tx ks)
  fresh : ∀ b, X ≤ b → FrD acc a c b
theorem src_obj {W : World} {g : Nat} (h : SrcAt W g) : ∃ o, W.heap[g]? = some o := by
  obtain ⟨a, l, c, p, m, z, hh, _⟩ := h
  exact ⟨_, hh⟩
variable {w W W' : World} {g : Nat} {acc : List Nd} {a : Option Addr} {c X : Nat} {x0 : ByteArray} {x1 : Bool} {x2 : Int} {ka : Option Addr} {ks : Tx} {kc : Nat}
theorem Dn.start (hb : Below w.heap.size w W) (hs : SrcAt W g) (hg : w.heap.size ≤ g) : Dn w g [] (some ⟨W.heap.size, 0, none⟩) 0 (W.alloc (.cells #[] 59)) := by
  obtain ⟨o, ho⟩ := src_obj hs
  have hlt := (Array.getElem?_eq_some_iff.1 ho).1
  have m : Mem w [(g, o)] [] [] W := ⟨hb, by intro p hp; simp at hp; subst hp; exact ho, by simp, by simp, by simp, .nil⟩
  exact ⟨hs.below (below_alloc1 W _), hg, o, m.alloc _, by omega, empty_row W 59 4 (g + 1) hlt, by intro p hp; simp at hp; subst hp; simp only; omega⟩
theorem Dn.draw (h : Dn w g acc a c W) (hs : SrcAt W' g) (hg : W.grownBy W' (some g)) : Dn w g acc a c W' := by
  obtain ⟨o, hr⟩ := h.rn
  obtain ⟨o', ho'⟩ := src_obj hs
  exact ⟨hs, h.lo, o', hr.turn hg ho' h.lo⟩
theorem Dn.next (h : Dn w g acc a c W) (hb : Below W.heap.size W W') : Dn w g acc a c W' := by
  obtain ⟨o, hr⟩ := h.rn
  exact ⟨h.src.below hb, h.lo, o, hr.next hb⟩
theorem Dn.grow {r : Option Nat} (h : Dn w g acc a c W) (hg : W.grownBy W' r) (hs : SrcAt W' g) (hr : ∀ b, r = some b → FrD acc a c b ∧ g < b) : Dn w g acc a c W' := by
  obtain ⟨o, h1⟩ := h.rn
  exact ⟨hs, h.lo, o, h1.grow hg (fun b e => frd_of (hr b e).1 h.lo (hr b e).2)⟩
theorem src_grew {r : Option Nat} (hs : SrcAt W g) (hg : W.grownBy W' r) (hr : ∀ b, r = some b → g < b) : SrcAt W' g :=
  hs.upto ⟨hg.os, hg.tape, hg.output, hg.size, fun k hk => hg.block k (by have := hs.lt; omega) (fun e => by have := hr k e.symm; omega)⟩
theorem Dv.start (h : Dn w g acc a c W) (x0 : ByteArray) (x1 : Bool) : Dv w g acc a c W.heap.size x0 x1 0 none [] 0 (W.alloc (.cells #[.string x0, .bool x1, .int .i64 0, .slice none 0 0] 59)) := by
  obtain ⟨o, hr⟩ := h.rn
  exact ⟨h.next (below_alloc1 W _), h.src.lt, blk_new W _ _ rfl, World.ownsRow_nil _ _ _ _, fun b hb => ⟨(hr.fresh b hb).2.2.1, (hr.fresh b hb).2.2.2⟩⟩
theorem Dv.draw (h : Dv w g acc a c X x0 x1 x2 ka ks kc W) (hs : SrcAt W' g) (hg : W.grownBy W' (some g)) : Dv w g acc a c X x0 x1 x2 ka ks kc W' :=
  ⟨h.dn.draw hs hg, h.lt, (hg.block X (Array.getElem?_eq_some_iff.1 h.var).1 (fun e => by have := h.lt; simp at e; omega)).trans h.var, row_keep h.krow hg (fun q hq e => by
    have := (h.krow.lt q hq).1
    have := h.lt
    simp at e
    omega), h.fresh⟩
theorem Dv.next (h : Dv w g acc a c X x0 x1 x2 ka ks kc W) (hb : Below W.heap.size W W') : Dv w g acc a c X x0 x1 x2 ka ks kc W' :=
  ⟨h.dn.next hb, h.lt, blk_below h.var hb, row_keep h.krow (below_grew hb none) (fun q hq e => by cases e), h.fresh⟩
theorem Dv.set (h : Dv w g acc a c X x0 x1 x2 ka ks kc W) (i : Nat) (v : Value) {y0 : ByteArray} {y1 : Bool} {y2 : Int} (hv : (#[.string x0, .bool x1, .int .i64 x2, .slice ka ks.length kc] : Array Value).setIfInBounds i v = #[.string y0, .bool y1, .int .i64 y2, .slice ka ks.length kc]) : Dv w g acc a c X y0 y1 y2 ka ks kc (W.setCell ⟨X, i, none⟩ v) :=
  ⟨h.dn.grow (grew_cell W X i v) (src_grew h.dn.src (grew_cell W X i v) (fun b e => by cases e; exact h.lt)) (fun b e => by cases e; exact ⟨h.fresh X (Nat.le_refl _), h.lt⟩), h.lt, by rw [heap_setCell_same W X i _ _ v h.var, hv], row_keep h.krow (grew_cell W X i v) (fun q hq e => by
    have := (h.krow.lt q hq).1
    simp at e
    omega), h.fresh⟩
theorem Dv.cells (h : Dv w g acc a c X x0 x1 x2 ka ks kc W) : W.cell? ⟨X, 0, none⟩ = some (.string x0) ∧ W.cell? ⟨X, 1, none⟩ = some (.bool x1) ∧ W.cell? ⟨X, 2, none⟩ = some (.int .i64 x2) ∧ W.cell? ⟨X, 3, none⟩ = some (.slice ka ks.length kc) := aid.cel4 h.var
/-- one key, in a row that is new -/
theorem Dv.one (h : Dv w g acc a c X x0 x1 x2 ka ks kc W) (t : ByteArray) : Dv w g acc a c X x0 x1 x2 (some ⟨W.heap.size, 0, none⟩) [t] 1 ((W.alloc (.cells #[.string t] 9)).setCell ⟨X, 3, none⟩ (.slice (some ⟨W.heap.size, 0, none⟩) 1 1)) := by
  have hXW := (Array.getElem?_eq_some_iff.1 h.var).1
  have h1 := h.next (below_alloc1 W (.cells #[.string t] 9))
  have ho : (W.alloc (.cells #[.string t] 9)).ownsRow (X + 1) 9 1 (.slice (some ⟨W.heap.size, 0, none⟩) 1 1) 1 (tx [t]) :=
    ⟨by simp [tx], .inr ⟨W.heap.size, 1, #[.string t], rfl, by omega, blk_new W _ _ rfl, Nat.le_refl _, by unfold maxLen; omega, by simp, by simp [tx, strs.strV]⟩⟩
  refine ⟨h1.dn.grow (grew_cell _ X 3 _) (src_grew h1.dn.src (grew_cell _ X 3 _) (fun b e => by cases e; exact h.lt)) (fun b e => by cases e; exact ⟨h.fresh X (Nat.le_refl _), h.lt⟩), h.lt, ?_, ?_, h.fresh⟩
  · rw [heap_setCell_same _ X 3 _ _ _ h1.var]
    rfl
  · exact row_keep ho (grew_cell _ X 3 _) (fun q hq e => by
      have := (ho.lt q hq).1
      simp at e
      omega)
/-- one more key -/
theorem Dv.app (h : Dv w g acc a c X x0 x1 x2 ka ks kc W) (t : ByteArray) (hl : ks.length ≤ 1048576) :
    ∃ g' c' w2, (appSem #[57, 57] 57 #[.slice ka ks.length kc, .slice (some ⟨W.heap.size, 0, none⟩) 1 1]).run Try.prog (W.alloc (.cells #[.string t] 9)) = .ok (.slice (some ⟨g', 0, none⟩) (ks.length + 1) c') w2 ∧ w2.heap[X]? = some (.cells #[.string x0, .bool x1, .int .i64 x2, .slice ka ks.length kc] 59) ∧ Dv w g acc a c X x0 x1 x2 (some ⟨g', 0, none⟩) (ks ++ [t]) c' (w2.setCell ⟨X, 3, none⟩ (.slice (some ⟨g', 0, none⟩) (ks.length + 1) c')) := by
  have hXW := (Array.getElem?_eq_some_iff.1 h.var).1
  obtain ⟨g', c', w2, happ, hown, hg⟩ := appK W (X + 1) (.slice ka ks.length kc) ks.length ks t rfl h.krow (by omega) hl
  have hlen : (ks ++ [t]).length = ks.length + 1 := by simp
  have hv1 : (W.alloc (.cells #[.string t] 9)).heap[X]? = some (.cells #[.string x0, .bool x1, .int .i64 x2, .slice ka ks.length kc] 59) := blk_old h.var _
  have hv2 : w2.heap[X]? = some (.cells #[.string x0, .bool x1, .int .i64 x2, .slice ka ks.length kc] 59) := (hg.block X (Array.getElem?_eq_some_iff.1 hv1).1 (fun e => by have := (h.krow.lt X e.symm).1; omega)).trans hv1
  have d1 := h.dn.next (below_alloc1 W (.cells #[.string t] 9))
  have hgt : ∀ b, (Value.slice ka ks.length kc).ownBlock = some b → g < b := fun b e => by have := (h.krow.lt b e).1; have := h.lt; omega
  have r1 : Dn w g acc a c w2 := d1.grow hg (src_grew d1.src hg hgt) (fun b e => ⟨h.fresh b (by have := (h.krow.lt b e).1; omega), hgt b e⟩)
  refine ⟨g', c', w2, happ, hv2, ?_⟩
  refine ⟨r1.grow (grew_cell w2 X 3 _) (src_grew r1.src (grew_cell w2 X 3 _) (fun b e => by cases e; exact h.lt)) (fun b e => by cases e; exact ⟨h.fresh X (Nat.le_refl _), h.lt⟩), h.lt, ?_, ?_, h.fresh⟩
  · rw [heap_setCell_same w2 X 3 _ _ _ hv2, hlen]
    rfl
  · rw [hlen]
    exact row_keep hown (grew_cell w2 X 3 _) (fun q hgg e => by
      have := (hown.lt q hgg).1
      simp at e
      omega)
/-- the node put behind the others -/
theorem Dv.push (h : Dv w g acc a c X x0 x1 x2 ka ks kc W) (hl : acc.length ≤ 1048576) :
    ∃ g' c' w2, (appSem #[23, 23] 23 #[.slice a acc.length c, .slice (some ⟨W.heap.size, 0, none⟩) 1 1]).run Try.prog (W.alloc (.cells #[.string x0, .bool x1, .int .i64 x2, .slice ka ks.length kc] 59)) = .ok (.slice (some ⟨g', 0, none⟩) (acc.length + 1) c') w2 ∧ Dn w g (acc ++ [(x0, x1, x2, ka, kc, ks)]) (some ⟨g', 0, none⟩) c' w2 := by
  obtain ⟨o, hr⟩ := h.dn.rn
  have hsl := h.dn.src.lt
  obtain ⟨g', c', w2, happ, hown, hg⟩ := appN W (g + 1) (.slice a acc.length c) acc.length acc (x0, x1, x2, ka, kc, ks) rfl hr.row hsl hl
  have hlt := h.lt
  have hlo := h.dn.lo
  have d1 := h.dn.next (below_alloc1 W (.cells #[.string x0, .bool x1, .int .i64 x2, .slice ka ks.length kc] 59))
  exact ⟨g', c', w2, happ, src_grew d1.src hg (fun b e => by have := (hr.row.lt b e).1; omega), hlo, o, hr.push (X := X) h.krow (by omega) (fun b hb => frd_of (h.fresh b (by omega)) hlo (by omega)) hown hg⟩
/-- the texts are small, and there is room -/
def Sd (l : List Nd) : Prop := ∀ d ∈ l, d.1.size ≤ 1000 ∧ d.2.2.2.2.2.length ≤ 10 ∧ (∀ t ∈ d.2.2.2.2.2, t.size ≤ 1000) ∧ d.2.2.2.2.2.length ≤ d.2.2.2.2.1
theorem Dv.cap (h : Dv w g acc a c X x0 x1 x2 ka ks kc W) : ks.length ≤ kc := (cap_of h.krow).2
theorem sd_push {l : List Nd} {d : Nd} (h : Sd l) (hd : d.1.size ≤ 1000 ∧ d.2.2.2.2.2.length ≤ 10 ∧ (∀ t ∈ d.2.2.2.2.2, t.size ≤ 1000) ∧ d.2.2.2.2.2.length ≤ d.2.2.2.2.1) : Sd (l ++ [d]) := by
  intro x hx
  rcases List.mem_append.1 hx with hx | hx
  · exact h x hx
  · simp at hx
    subst hx
    exact hd
/-- what l11Nodes answers and leaves -/
def DNodes (w : World) (g : Nat) (e : Ending) (w' : World) : Prop :=
  ∃ (a : Option Addr) (c : Nat) (ds : List Nd), e = .returned (.slice a ds.length c) ∧ ds.length ≤ 4 ∧ Sd ds ∧ Dn w g ds a c w'
end Go.Proofs.Ytmmmadehifajlaa.nod
namespace Go.Proofs.Ytmmmadehifajlaa.nod
open Go.RowKit Go.Joins
open Go.Proofs.Ytmmmadehifajlaa.base Go.Proofs.Ytmmmadehifajlaa.blk Go.Proofs.Ytmmmadehifajlaa.aid
open Go.Proofs.Ytmmmadehifajlaa.row (Rd Own OwnV appSem app_fold)
open Go.Proofs.Ytmmmadehifajlaa.strs (tx RdT)
open Go.Proofs.Ytmmmadehifajlaa.mem (Mem Mine Off)
open Go.Proofs.Ytmmmadehifajlaa.draw (SrcAt Drew DrewBool DrewText DecPost n_any one_any pick_any dec_any rdT_lit)
set_option linter.unusedVariables false
set_option linter.unusedSimpArgs false
attribute [local go_sem ↓] app_fold

theorem grew_re {w0 W w6 : World} {r : Option Nat} (h : w0.grownBy w6 r) (h1 : w0.os = W.os) (h2 : w0.tape = W.tape) (h3 : w0.output = W.output) (h4 : w0.heap = W.heap) : W.grownBy w6 r := grew_from h h1 h2 h3 h4
theorem below_re {w0 W w6 : World} (h : Below w0.heap.size w0 w6) (h1 : w0.os = W.os) (h2 : w0.tape = W.tape) (h3 : w0.output = W.output) (h4 : w0.heap = W.heap) : Below W.heap.size W w6 := by
  rw [← h4]
  exact ⟨h.os.trans h1, h.tape.trans h2, h.output.trans h3, by rw [← h4]; exact h.size, fun k hk => by rw [← h4]; exact h.block k hk⟩
theorem cell_old2 {W : World} {o : Obj} {p : Addr} {v : Value} (h : W.cell? p = some v) : (W.alloc o).cell? p = some v := (World.cell?_of_block (w := W) (Below.heap_alloc W o p.block (World.block_lt_of_cell? W _ h))).trans h
theorem Dv.start2 {w W : World} {g : Nat} {acc : List Nd} {a : Option Addr} {c : Nat} (h : Dn w g acc a c W) (X : Nat) (x0 : ByteArray) (x1 : Bool) (hX : X = W.heap.size) : Dv w g acc a c X x0 x1 0 none [] 0 (W.alloc (.cells #[.string x0, .bool x1, .int .i64 0, .slice none 0 0] 59)) := by
  subst hX
  exact Dv.start h x0 x1
theorem lit_cell {W : World} {L k : Nat} {cs : Array Value} {t : TypeId} {v : Value} (h : W.heap[L]? = some (.cells cs t)) (hk : cs[k]? = some v) : W.cell? ⟨L, k, none⟩ = some v := by rw [cell_of_row _ _ k _ _ _ h]; exact hk
theorem lit_name (k : Nat) (hk : k < 4) : ∃ nm : ByteArray, (#[.string ⟨#[97]⟩, .string ⟨#[98, 45, 50]⟩, .string ⟨#[99]⟩, .string ⟨#[100, 100]⟩] : Array Value)[k]? = some (.string nm) ∧ nm.size ≤ 10 := by
  rcases (show k = 0 ∨ k = 1 ∨ k = 2 ∨ k = 3 by omega) with rfl | rfl | rfl | rfl
  · exact ⟨_, rfl, by decide⟩
  · exact ⟨_, rfl, by decide⟩
  · exact ⟨_, rfl, by decide⟩
  · exact ⟨_, rfl, by decide⟩
set_option maxRecDepth 100000 in
set_option maxHeartbeats 8000000 in
theorem l11N_any (w : World) (g : Nat) (W : World) (hb : Below w.heap.size w W) (hs : SrcAt W g) (hg : w.heap.size ≤ g) :
    Calls Try.prog 28 #[.pointer (some ⟨g, 0, none⟩)] W (DNodes w g) := by
  have HN : Hid (∀ wx (m : Int), m ≤ 9223372036854775807 → SrcAt wx g → Calls Try.prog 38 #[.pointer (some ⟨g, 0, none⟩), .int .i64 m] wx fun e w' => Drew wx g m e w') := mkHid (fun wx m h1 h2 => n_any g m wx h1 h2)
  have HO : Hid (∀ wx (n : Int), n ≤ 9223372036854775807 → SrcAt wx g → Calls Try.prog 57 #[.pointer (some ⟨g, 0, none⟩), .int .i64 n] wx fun e w' => DrewBool wx g e w') := mkHid (fun wx n h1 h2 => one_any g n wx h1 h2)
  have HD : Hid (∀ wx (n : Nat), n ≤ 100 → Calls Try.prog 59 #[.int .i64 n] wx fun e w' => DecPost wx e w') := mkHid (fun wx n h1 => dec_any n wx h1)
  have HG : Hid (∀ wx (t : ByteArray), t.size ≤ 1048576 → Calls Try.prog 58 #[.string t] wx fun e w' => e = .returned (.string (sha.digest t)) ∧ Below wx.heap.size wx w') := mkHid (fun wx t h1 => sha.digest_any t wx h1)
  have K0 := mkHid (Dn.start hb hs hg)
  clear hb hs hg
  go_enter Try.func28, Try.ntmps28
  go_wp2_with fail
  go_loopw [3, 4] (fun v i wr => ∃ (k : Nat) (acc : List Nd) (a : Option Addr) (c : Nat), i = .int .i64 k ∧ v = .slice a acc.length c ∧ k ≤ 4 ∧ acc.length ≤ k ∧ Hid (Sd acc) ∧ Hid (Dn w g acc a c wr))
    (fun _ i _ => 4 - (intOf i).toNat)
  case atStart => exact ⟨0, [], _, _, rfl, rfl, by omega, by simp, mkHid (by intro d hd; simp at hd), K0⟩
  case round =>
    clear K0
    obtain ⟨k, acc, a, c, rfl, rfl, hk4, hal, HSd, K⟩ := hrel
    by_cases hk : k < 4
    · have hki : (k : Int) < 4 := by omega
      obtain ⟨nm, hnm, hnl⟩ := lit_name k hk
      have hnm2 : ∀ (h : k < ([.string ⟨#[97]⟩, .string ⟨#[98, 45, 50]⟩, .string ⟨#[99]⟩, .string ⟨#[100, 100]⟩] : List Value).length), ([.string ⟨#[97]⟩, .string ⟨#[98, 45, 50]⟩, .string ⟨#[99]⟩, .string ⟨#[100, 100]⟩] : List Value)[k]'h = .string nm := fun h => by
        have := hnm
        rw [List.getElem?_toArray] at this
        exact (List.getElem?_eq_some_iff.1 this).2
      go_wp2_with fail
      refine (HO.out _ 2 (by omega) K.out.src).mono ?_
      rintro e w1 ⟨b1, rfl, hs1, hg1⟩
      have K1 := mkHid (K.out.draw hs1 hg1)
      clear hs1 hg1 K
      cases b1 with
      | true =>
        go_wp2
        exact ⟨⟨k + 1, acc, a, c, by go_num, rfl, by omega, by omega, HSd, K1⟩, by simp [intOf]; omega⟩
      | false =>
        go_upto_region 6 with fail
        go_cut [5] from 14 to 20 (fun v wx => ∃ (X : Nat) (b : Bool), v = .pointer (some ⟨X, 0, none⟩) ∧ Hid (Dv w g acc a c X nm b 0 none [] 0 wx))
        case first =>
          refine wp_region_held_drew (S := fun _ => True) (by kernel_rfl) (by exact trivial) (fun hHeld => ?_)
          refine wpAnyH_take (i := 1) (oi := Oper.mk _ _ _ _ _ _) (v := ?_) rfl (by kernel_rfl) (by kernel_rfl) (by kernel_rfl) (fun _ _ _ h => h) (Or.inl ⟨by rfl, ?_⟩) (by assumption) ?_
          rotate_left
          · intro w hSw
            try dsimp only at hSw
            go_simp
            all_goals with_reducible rfl
          try simp only [Act.put, List.setIfInBounds_toArray, List.set_cons_zero, List.set_cons_succ]
          refine wpAnyH_take (i := 4) (oi := Oper.mk _ _ _ _ _ _) (v := ?_) rfl (by kernel_rfl) (by kernel_rfl) (by kernel_rfl) (fun _ _ _ h => h) (Or.inl ⟨by rfl, ?_⟩) (by assumption) ?_
          rotate_left
          · intro w hSw
            try dsimp only at hSw
            go_simp
            all_goals with_reducible rfl
          try simp only [Act.put, List.setIfInBounds_toArray, List.set_cons_zero, List.set_cons_succ]
          refine wpAnyH_ready (rs := [0, 5, 7]) (by kernel_rfl) (by simp) ?_
          refine AllReadyH.cons (o := Oper.mk _ _ _ _ _ _) rfl (fun K hK => ?_) ?_
          · skip
            have M0 := mkHid (K1.out.next (below_alloc1 _ (.cells #[.string ⟨#[97]⟩, .string ⟨#[98, 45, 50]⟩, .string ⟨#[99]⟩, .string ⟨#[100, 100]⟩] 9)))
            have L0 := blk_new (w1) (.cells #[.string ⟨#[97]⟩, .string ⟨#[98, 45, 50]⟩, .string ⟨#[99]⟩, .string ⟨#[100, 100]⟩] 9) (w1.heap.size) (by simp)
            go_simp
            refine hK.out _ _ trivial (fun hHeld => ?_)
            clear hK K
            try simp only [Act.put, List.setIfInBounds_toArray, List.set_cons_zero, List.set_cons_succ]
            refine wpAnyH_take (i := 2) (oi := Oper.mk _ _ _ _ _ _) (v := ?_) rfl (by kernel_rfl) (by kernel_rfl) (by kernel_rfl) (fun _ _ _ h => h) (Or.inl ⟨by rfl, ?_⟩) (by assumption) ?_
            rotate_left
            · intro w hSw
              try dsimp only at hSw
              go_simp
              all_goals with_reducible rfl
            try simp only [Act.put, List.setIfInBounds_toArray, List.set_cons_zero, List.set_cons_succ]
            refine wpAnyH_ready (rs := [3, 5, 7]) (by kernel_rfl) (by simp) ?_
            refine AllReadyH.cons (o := Oper.mk _ _ _ _ _ _) rfl (fun K hK => ?_) ?_
            · skip
              have lc := lit_cell L0 hnm
              go_simp
              refine hK.out _ _ trivial (fun hHeld => ?_)
              clear hK K
              try simp only [Act.put, List.setIfInBounds_toArray, List.set_cons_zero, List.set_cons_succ]
              refine wpAnyH_ready (rs := [5, 7]) (by kernel_rfl) (by simp) ?_
              refine AllReadyH.cons (o := Oper.mk _ _ _ _ _ _) rfl (fun K hK => ?_) ?_
              · skip
                go_simp
                refine Calls.mono (HO.out _ 3 (by omega) (by exact M0.out.src)) ?_
                rintro e w2 ⟨b, rfl, hs2, hg2⟩
                have hg3 := grew_re (W := (w1).alloc (.cells #[.string ⟨#[97]⟩, .string ⟨#[98, 45, 50]⟩, .string ⟨#[99]⟩, .string ⟨#[100, 100]⟩] 9)) hg2 rfl rfl rfl rfl
                have M05 := mkHid (M0.out.draw hs2 hg3)
                have L05 := (hg3.block _ (Array.getElem?_eq_some_iff.1 L0).1 (by have := K1.out.src.lt; simp; omega)).trans L0
                clear hs2 hg2 hg3
                show K _ _
                refine hK.out _ _ trivial (fun hHeld => ?_)
                clear hK K
                try simp only [Act.put, List.setIfInBounds_toArray, List.set_cons_zero, List.set_cons_succ]
                refine wpAnyH_take (i := 6) (oi := Oper.mk _ _ _ _ _ _) (v := ?_) rfl (by kernel_rfl) (by kernel_rfl) (by kernel_rfl) (fun _ _ _ h => h) (Or.inl ⟨by rfl, ?_⟩) (by assumption) ?_
                rotate_left
                · intro w hSw
                  try dsimp only at hSw
                  go_simp
                  all_goals with_reducible rfl
                try simp only [Act.put, List.setIfInBounds_toArray, List.set_cons_zero, List.set_cons_succ]
                refine wpAnyH_ready (rs := [7]) (by kernel_rfl) (by simp) ?_
                refine AllReadyH.cons (o := Oper.mk _ _ _ _ _ _) rfl (fun K hK => ?_) AllReadyH.nil
                have M057 := mkHid (Dv.start2 M05.out (w2.heap.size) ⟨#[]⟩ false (by simp))
                have L057 := blk_old L05 (.cells #[.string ⟨#[]⟩, .bool false, .int .i64 0, .slice none 0 0] 59)
                go_simp
                refine hK.out _ _ trivial (fun hHeld => ?_)
                clear hK K
                try simp only [Act.put, List.setIfInBounds_toArray, List.set_cons_zero, List.set_cons_succ]
                refine wpAnyH_ready (rs := [8]) (by kernel_rfl) (by simp) ?_
                refine AllReadyH.cons (o := Oper.mk _ _ _ _ _ _) rfl (fun K hK => ?_) AllReadyH.nil
                go_simp
                refine hK.out _ _ trivial (fun hHeld => ?_)
                clear hK K
                try simp only [Act.put, List.setIfInBounds_toArray, List.set_cons_zero, List.set_cons_succ]
                refine wpAnyH_done (by kernel_rfl) ?_ _
                have F0 := mkHid (Dv.start2 M05.out (w2.heap.size) nm b (by simp))
                go_wp2
                go_meet
                exact ⟨_, b, by first | rfl | simp, by first | exact F0 | (simpa using F0)⟩
              refine AllReadyH.cons (o := Oper.mk _ _ _ _ _ _) rfl (fun K hK => ?_) AllReadyH.nil
              have M07 := mkHid (Dv.start2 M0.out (w1.heap.size + 1) ⟨#[]⟩ false (by simp))
              have L07 := blk_old L0 (.cells #[.string ⟨#[]⟩, .bool false, .int .i64 0, .slice none 0 0] 59)
              go_simp
              refine hK.out _ _ trivial (fun hHeld => ?_)
              clear hK K
              try simp only [Act.put, List.setIfInBounds_toArray, List.set_cons_zero, List.set_cons_succ]
              refine wpAnyH_ready (rs := [5]) (by kernel_rfl) (by simp) ?_
              refine AllReadyH.cons (o := Oper.mk _ _ _ _ _ _) rfl (fun K hK => ?_) AllReadyH.nil
              go_simp
              refine Calls.mono (HO.out _ 3 (by omega) (by exact M07.out.dn.src)) ?_
              rintro e w2 ⟨b, rfl, hs2, hg2⟩
              have hg3 := grew_re (W := ((w1).alloc (.cells #[.string ⟨#[97]⟩, .string ⟨#[98, 45, 50]⟩, .string ⟨#[99]⟩, .string ⟨#[100, 100]⟩] 9)).alloc (.cells #[.string ⟨#[]⟩, .bool false, .int .i64 0, .slice none 0 0] 59)) hg2 rfl rfl rfl rfl
              have M075 := mkHid (M07.out.draw hs2 hg3)
              have L075 := (hg3.block _ (Array.getElem?_eq_some_iff.1 L07).1 (by have := K1.out.src.lt; simp; omega)).trans L07
              clear hs2 hg2 hg3
              show K _ _
              refine hK.out _ _ trivial (fun hHeld => ?_)
              clear hK K
              try simp only [Act.put, List.setIfInBounds_toArray, List.set_cons_zero, List.set_cons_succ]
              refine wpAnyH_take (i := 6) (oi := Oper.mk _ _ _ _ _ _) (v := ?_) rfl (by kernel_rfl) (by kernel_rfl) (by kernel_rfl) (fun _ _ _ h => h) (Or.inl ⟨by rfl, ?_⟩) (by assumption) ?_
              rotate_left
              · intro w hSw
                try dsimp only at hSw
                go_simp
                all_goals with_reducible rfl
              try simp only [Act.put, List.setIfInBounds_toArray, List.set_cons_zero, List.set_cons_succ]
              refine wpAnyH_ready (rs := [8]) (by kernel_rfl) (by simp) ?_
              refine AllReadyH.cons (o := Oper.mk _ _ _ _ _ _) rfl (fun K hK => ?_) AllReadyH.nil
              obtain ⟨n0, n1, n2, n3⟩ := M075.out.cells
              have uf := unfrozen M075.out.var
              go_simp
              refine hK.out _ _ trivial (fun hHeld => ?_)
              clear hK K
              try simp only [Act.put, List.setIfInBounds_toArray, List.set_cons_zero, List.set_cons_succ]
              refine wpAnyH_done (by kernel_rfl) ?_ _
              have G0 := mkHid ((((M075.out.set 0 (.string nm) (y0 := nm) (y1 := false) (y2 := 0) rfl).set 1 (.bool b) (y0 := nm) (y1 := b) (y2 := 0) rfl).set 2 (.int .i64 0) (y0 := nm) (y1 := b) (y2 := 0) rfl).set 3 (.slice none 0 0) (y0 := nm) (y1 := b) (y2 := 0) rfl)
              go_wp2
              go_meet
              exact ⟨_, b, by first | rfl | simp, by first | exact G0 | (simpa using G0)⟩
            refine AllReadyH.cons (o := Oper.mk _ _ _ _ _ _) rfl (fun K hK => ?_) ?_
            · skip
              go_simp
              refine Calls.mono (HO.out _ 3 (by omega) (by exact M0.out.src)) ?_
              rintro e w2 ⟨b, rfl, hs2, hg2⟩
              have hg3 := grew_re (W := (w1).alloc (.cells #[.string ⟨#[97]⟩, .string ⟨#[98, 45, 50]⟩, .string ⟨#[99]⟩, .string ⟨#[100, 100]⟩] 9)) hg2 rfl rfl rfl rfl
              have M05 := mkHid (M0.out.draw hs2 hg3)
              have L05 := (hg3.block _ (Array.getElem?_eq_some_iff.1 L0).1 (by have := K1.out.src.lt; simp; omega)).trans L0
              clear hs2 hg2 hg3
              show K _ _
              refine hK.out _ _ trivial (fun hHeld => ?_)
              clear hK K
              try simp only [Act.put, List.setIfInBounds_toArray, List.set_cons_zero, List.set_cons_succ]
              refine wpAnyH_ready (rs := [3, 7]) (by kernel_rfl) (by simp) ?_
              refine AllReadyH.cons (o := Oper.mk _ _ _ _ _ _) rfl (fun K hK => ?_) ?_
              · skip
                have lc := lit_cell L05 hnm
                go_simp
                refine hK.out _ _ trivial (fun hHeld => ?_)
                clear hK K
                try simp only [Act.put, List.setIfInBounds_toArray, List.set_cons_zero, List.set_cons_succ]
                refine wpAnyH_take (i := 6) (oi := Oper.mk _ _ _ _ _ _) (v := ?_) rfl (by kernel_rfl) (by kernel_rfl) (by kernel_rfl) (fun _ _ _ h => h) (Or.inl ⟨by rfl, ?_⟩) (by assumption) ?_
                rotate_left
                · intro w hSw
                  try dsimp only at hSw
                  go_simp
                  all_goals with_reducible rfl
                try simp only [Act.put, List.setIfInBounds_toArray, List.set_cons_zero, List.set_cons_succ]
                refine wpAnyH_ready (rs := [7]) (by kernel_rfl) (by simp) ?_
                refine AllReadyH.cons (o := Oper.mk _ _ _ _ _ _) rfl (fun K hK => ?_) AllReadyH.nil
                have M057 := mkHid (Dv.start2 M05.out (w2.heap.size) ⟨#[]⟩ false (by simp))
                have L057 := blk_old L05 (.cells #[.string ⟨#[]⟩, .bool false, .int .i64 0, .slice none 0 0] 59)
                go_simp
                refine hK.out _ _ trivial (fun hHeld => ?_)
                clear hK K
                try simp only [Act.put, List.setIfInBounds_toArray, List.set_cons_zero, List.set_cons_succ]
                refine wpAnyH_ready (rs := [8]) (by kernel_rfl) (by simp) ?_
                refine AllReadyH.cons (o := Oper.mk _ _ _ _ _ _) rfl (fun K hK => ?_) AllReadyH.nil
                go_simp
                refine hK.out _ _ trivial (fun hHeld => ?_)
                clear hK K
                try simp only [Act.put, List.setIfInBounds_toArray, List.set_cons_zero, List.set_cons_succ]
                refine wpAnyH_done (by kernel_rfl) ?_ _
                have F0 := mkHid (Dv.start2 M05.out (w2.heap.size) nm b (by simp))
                go_wp2
                go_meet
                exact ⟨_, b, by first | rfl | simp, by first | exact F0 | (simpa using F0)⟩
              refine AllReadyH.cons (o := Oper.mk _ _ _ _ _ _) rfl (fun K hK => ?_) AllReadyH.nil
              have M057 := mkHid (Dv.start2 M05.out (w2.heap.size) ⟨#[]⟩ false (by simp))
              have L057 := blk_old L05 (.cells #[.string ⟨#[]⟩, .bool false, .int .i64 0, .slice none 0 0] 59)
              go_simp
              refine hK.out _ _ trivial (fun hHeld => ?_)
              clear hK K
              try simp only [Act.put, List.setIfInBounds_toArray, List.set_cons_zero, List.set_cons_succ]
              refine wpAnyH_ready (rs := [3]) (by kernel_rfl) (by simp) ?_
              refine AllReadyH.cons (o := Oper.mk _ _ _ _ _ _) rfl (fun K hK => ?_) AllReadyH.nil
              have lc := lit_cell L057 hnm
              go_simp
              refine hK.out _ _ trivial (fun hHeld => ?_)
              clear hK K
              try simp only [Act.put, List.setIfInBounds_toArray, List.set_cons_zero, List.set_cons_succ]
              refine wpAnyH_take (i := 6) (oi := Oper.mk _ _ _ _ _ _) (v := ?_) rfl (by kernel_rfl) (by kernel_rfl) (by kernel_rfl) (fun _ _ _ h => h) (Or.inl ⟨by rfl, ?_⟩) (by assumption) ?_
              rotate_left
              · intro w hSw
                try dsimp only at hSw
                go_simp
                all_goals with_reducible rfl
              try simp only [Act.put, List.setIfInBounds_toArray, List.set_cons_zero, List.set_cons_succ]
              refine wpAnyH_ready (rs := [8]) (by kernel_rfl) (by simp) ?_
              refine AllReadyH.cons (o := Oper.mk _ _ _ _ _ _) rfl (fun K hK => ?_) AllReadyH.nil
              go_simp
              refine hK.out _ _ trivial (fun hHeld => ?_)
              clear hK K
              try simp only [Act.put, List.setIfInBounds_toArray, List.set_cons_zero, List.set_cons_succ]
              refine wpAnyH_done (by kernel_rfl) ?_ _
              have F0 := mkHid (Dv.start2 M05.out (w2.heap.size) nm b (by simp))
              go_wp2
              go_meet
              exact ⟨_, b, by first | rfl | simp, by first | exact F0 | (simpa using F0)⟩
            refine AllReadyH.cons (o := Oper.mk _ _ _ _ _ _) rfl (fun K hK => ?_) AllReadyH.nil
            have M07 := mkHid (Dv.start2 M0.out (w1.heap.size + 1) ⟨#[]⟩ false (by simp))
            have L07 := blk_old L0 (.cells #[.string ⟨#[]⟩, .bool false, .int .i64 0, .slice none 0 0] 59)
            go_simp
            refine hK.out _ _ trivial (fun hHeld => ?_)
            clear hK K
            try simp only [Act.put, List.setIfInBounds_toArray, List.set_cons_zero, List.set_cons_succ]
            refine wpAnyH_ready (rs := [3, 5]) (by kernel_rfl) (by simp) ?_
            refine AllReadyH.cons (o := Oper.mk _ _ _ _ _ _) rfl (fun K hK => ?_) ?_
            · skip
              have lc := lit_cell L07 hnm
              go_simp
              refine hK.out _ _ trivial (fun hHeld => ?_)
              clear hK K
              try simp only [Act.put, List.setIfInBounds_toArray, List.set_cons_zero, List.set_cons_succ]
              refine wpAnyH_ready (rs := [5]) (by kernel_rfl) (by simp) ?_
              refine AllReadyH.cons (o := Oper.mk _ _ _ _ _ _) rfl (fun K hK => ?_) AllReadyH.nil
              go_simp
              refine Calls.mono (HO.out _ 3 (by omega) (by exact M07.out.dn.src)) ?_
              rintro e w2 ⟨b, rfl, hs2, hg2⟩
              have hg3 := grew_re (W := ((w1).alloc (.cells #[.string ⟨#[97]⟩, .string ⟨#[98, 45, 50]⟩, .string ⟨#[99]⟩, .string ⟨#[100, 100]⟩] 9)).alloc (.cells #[.string ⟨#[]⟩, .bool false, .int .i64 0, .slice none 0 0] 59)) hg2 rfl rfl rfl rfl
              have M075 := mkHid (M07.out.draw hs2 hg3)
              have L075 := (hg3.block _ (Array.getElem?_eq_some_iff.1 L07).1 (by have := K1.out.src.lt; simp; omega)).trans L07
              clear hs2 hg2 hg3
              show K _ _
              refine hK.out _ _ trivial (fun hHeld => ?_)
              clear hK K
              try simp only [Act.put, List.setIfInBounds_toArray, List.set_cons_zero, List.set_cons_succ]
              refine wpAnyH_take (i := 6) (oi := Oper.mk _ _ _ _ _ _) (v := ?_) rfl (by kernel_rfl) (by kernel_rfl) (by kernel_rfl) (fun _ _ _ h => h) (Or.inl ⟨by rfl, ?_⟩) (by assumption) ?_
              rotate_left
              · intro w hSw
                try dsimp only at hSw
                go_simp
                all_goals with_reducible rfl
              try simp only [Act.put, List.setIfInBounds_toArray, List.set_cons_zero, List.set_cons_succ]
              refine wpAnyH_ready (rs := [8]) (by kernel_rfl) (by simp) ?_
              refine AllReadyH.cons (o := Oper.mk _ _ _ _ _ _) rfl (fun K hK => ?_) AllReadyH.nil
              obtain ⟨n0, n1, n2, n3⟩ := M075.out.cells
              have uf := unfrozen M075.out.var
              go_simp
              refine hK.out _ _ trivial (fun hHeld => ?_)
              clear hK K
              try simp only [Act.put, List.setIfInBounds_toArray, List.set_cons_zero, List.set_cons_succ]
              refine wpAnyH_done (by kernel_rfl) ?_ _
              have G0 := mkHid ((((M075.out.set 0 (.string nm) (y0 := nm) (y1 := false) (y2 := 0) rfl).set 1 (.bool b) (y0 := nm) (y1 := b) (y2 := 0) rfl).set 2 (.int .i64 0) (y0 := nm) (y1 := b) (y2 := 0) rfl).set 3 (.slice none 0 0) (y0 := nm) (y1 := b) (y2 := 0) rfl)
              go_wp2
              go_meet
              exact ⟨_, b, by first | rfl | simp, by first | exact G0 | (simpa using G0)⟩
            refine AllReadyH.cons (o := Oper.mk _ _ _ _ _ _) rfl (fun K hK => ?_) AllReadyH.nil
            go_simp
            refine Calls.mono (HO.out _ 3 (by omega) (by exact M07.out.dn.src)) ?_
            rintro e w2 ⟨b, rfl, hs2, hg2⟩
            have hg3 := grew_re (W := ((w1).alloc (.cells #[.string ⟨#[97]⟩, .string ⟨#[98, 45, 50]⟩, .string ⟨#[99]⟩, .string ⟨#[100, 100]⟩] 9)).alloc (.cells #[.string ⟨#[]⟩, .bool false, .int .i64 0, .slice none 0 0] 59)) hg2 rfl rfl rfl rfl
            have M075 := mkHid (M07.out.draw hs2 hg3)
            have L075 := (hg3.block _ (Array.getElem?_eq_some_iff.1 L07).1 (by have := K1.out.src.lt; simp; omega)).trans L07
            clear hs2 hg2 hg3
            show K _ _
            refine hK.out _ _ trivial (fun hHeld => ?_)
            clear hK K
            try simp only [Act.put, List.setIfInBounds_toArray, List.set_cons_zero, List.set_cons_succ]
            refine wpAnyH_ready (rs := [3]) (by kernel_rfl) (by simp) ?_
            refine AllReadyH.cons (o := Oper.mk _ _ _ _ _ _) rfl (fun K hK => ?_) AllReadyH.nil
            have lc := lit_cell L075 hnm
            go_simp
            refine hK.out _ _ trivial (fun hHeld => ?_)
            clear hK K
            try simp only [Act.put, List.setIfInBounds_toArray, List.set_cons_zero, List.set_cons_succ]
            refine wpAnyH_take (i := 6) (oi := Oper.mk _ _ _ _ _ _) (v := ?_) rfl (by kernel_rfl) (by kernel_rfl) (by kernel_rfl) (fun _ _ _ h => h) (Or.inl ⟨by rfl, ?_⟩) (by assumption) ?_
            rotate_left
            · intro w hSw
              try dsimp only at hSw
              go_simp
              all_goals with_reducible rfl
            try simp only [Act.put, List.setIfInBounds_toArray, List.set_cons_zero, List.set_cons_succ]
            refine wpAnyH_ready (rs := [8]) (by kernel_rfl) (by simp) ?_
            refine AllReadyH.cons (o := Oper.mk _ _ _ _ _ _) rfl (fun K hK => ?_) AllReadyH.nil
            obtain ⟨n0, n1, n2, n3⟩ := M075.out.cells
            have uf := unfrozen M075.out.var
            go_simp
            refine hK.out _ _ trivial (fun hHeld => ?_)
            clear hK K
            try simp only [Act.put, List.setIfInBounds_toArray, List.set_cons_zero, List.set_cons_succ]
            refine wpAnyH_done (by kernel_rfl) ?_ _
            have G0 := mkHid ((((M075.out.set 0 (.string nm) (y0 := nm) (y1 := false) (y2 := 0) rfl).set 1 (.bool b) (y0 := nm) (y1 := b) (y2 := 0) rfl).set 2 (.int .i64 0) (y0 := nm) (y1 := b) (y2 := 0) rfl).set 3 (.slice none 0 0) (y0 := nm) (y1 := b) (y2 := 0) rfl)
            go_wp2
            go_meet
            exact ⟨_, b, by first | rfl | simp, by first | exact G0 | (simpa using G0)⟩
          refine AllReadyH.cons (o := Oper.mk _ _ _ _ _ _) rfl (fun K hK => ?_) ?_
          · skip
            go_simp
            refine Calls.mono (HO.out _ 3 (by omega) (by exact K1.out.src)) ?_
            rintro e w2 ⟨b, rfl, hs2, hg2⟩
            have hg3 := grew_re (W := w1) hg2 rfl rfl rfl rfl
            have M5 := mkHid (K1.out.draw hs2 hg3)
            clear hs2 hg2 hg3
            show K _ _
            refine hK.out _ _ trivial (fun hHeld => ?_)
            clear hK K
            try simp only [Act.put, List.setIfInBounds_toArray, List.set_cons_zero, List.set_cons_succ]
            refine wpAnyH_ready (rs := [0, 7]) (by kernel_rfl) (by simp) ?_
            refine AllReadyH.cons (o := Oper.mk _ _ _ _ _ _) rfl (fun K hK => ?_) ?_
            · skip
              have M50 := mkHid (M5.out.next (below_alloc1 _ (.cells #[.string ⟨#[97]⟩, .string ⟨#[98, 45, 50]⟩, .string ⟨#[99]⟩, .string ⟨#[100, 100]⟩] 9)))
              have L50 := blk_new (w2) (.cells #[.string ⟨#[97]⟩, .string ⟨#[98, 45, 50]⟩, .string ⟨#[99]⟩, .string ⟨#[100, 100]⟩] 9) (w2.heap.size) (by simp)
              go_simp
              refine hK.out _ _ trivial (fun hHeld => ?_)
              clear hK K
              try simp only [Act.put, List.setIfInBounds_toArray, List.set_cons_zero, List.set_cons_succ]
              refine wpAnyH_take (i := 2) (oi := Oper.mk _ _ _ _ _ _) (v := ?_) rfl (by kernel_rfl) (by kernel_rfl) (by kernel_rfl) (fun _ _ _ h => h) (Or.inl ⟨by rfl, ?_⟩) (by assumption) ?_
              rotate_left
              · intro w hSw
                try dsimp only at hSw
                go_simp
                all_goals with_reducible rfl
              try simp only [Act.put, List.setIfInBounds_toArray, List.set_cons_zero, List.set_cons_succ]
              refine wpAnyH_ready (rs := [3, 7]) (by kernel_rfl) (by simp) ?_
              refine AllReadyH.cons (o := Oper.mk _ _ _ _ _ _) rfl (fun K hK => ?_) ?_
              · skip
                have lc := lit_cell L50 hnm
                go_simp
                refine hK.out _ _ trivial (fun hHeld => ?_)
                clear hK K
                try simp only [Act.put, List.setIfInBounds_toArray, List.set_cons_zero, List.set_cons_succ]
                refine wpAnyH_take (i := 6) (oi := Oper.mk _ _ _ _ _ _) (v := ?_) rfl (by kernel_rfl) (by kernel_rfl) (by kernel_rfl) (fun _ _ _ h => h) (Or.inl ⟨by rfl, ?_⟩) (by assumption) ?_
                rotate_left
                · intro w hSw
                  try dsimp only at hSw
                  go_simp
                  all_goals with_reducible rfl
                try simp only [Act.put, List.setIfInBounds_toArray, List.set_cons_zero, List.set_cons_succ]
                refine wpAnyH_ready (rs := [7]) (by kernel_rfl) (by simp) ?_
                refine AllReadyH.cons (o := Oper.mk _ _ _ _ _ _) rfl (fun K hK => ?_) AllReadyH.nil
                have M507 := mkHid (Dv.start2 M50.out (w2.heap.size + 1) ⟨#[]⟩ false (by simp))
                have L507 := blk_old L50 (.cells #[.string ⟨#[]⟩, .bool false, .int .i64 0, .slice none 0 0] 59)
                go_simp
                refine hK.out _ _ trivial (fun hHeld => ?_)
                clear hK K
                try simp only [Act.put, List.setIfInBounds_toArray, List.set_cons_zero, List.set_cons_succ]
                refine wpAnyH_ready (rs := [8]) (by kernel_rfl) (by simp) ?_
                refine AllReadyH.cons (o := Oper.mk _ _ _ _ _ _) rfl (fun K hK => ?_) AllReadyH.nil
                go_simp
                refine hK.out _ _ trivial (fun hHeld => ?_)
                clear hK K
                try simp only [Act.put, List.setIfInBounds_toArray, List.set_cons_zero, List.set_cons_succ]
                refine wpAnyH_done (by kernel_rfl) ?_ _
                have F0 := mkHid (M5.out.next (below_alloc1 _ (.cells #[.string ⟨#[97]⟩, .string ⟨#[98, 45, 50]⟩, .string ⟨#[99]⟩, .string ⟨#[100, 100]⟩] 9)))
                have F1 := mkHid (Dv.start2 F0.out (w2.heap.size + 1) nm b (by simp))
                go_wp2
                go_meet
                exact ⟨_, b, by first | rfl | simp, by first | exact F1 | (simpa using F1)⟩
              refine AllReadyH.cons (o := Oper.mk _ _ _ _ _ _) rfl (fun K hK => ?_) AllReadyH.nil
              have M507 := mkHid (Dv.start2 M50.out (w2.heap.size + 1) ⟨#[]⟩ false (by simp))
              have L507 := blk_old L50 (.cells #[.string ⟨#[]⟩, .bool false, .int .i64 0, .slice none 0 0] 59)
              go_simp
              refine hK.out _ _ trivial (fun hHeld => ?_)
              clear hK K
              try simp only [Act.put, List.setIfInBounds_toArray, List.set_cons_zero, List.set_cons_succ]
              refine wpAnyH_ready (rs := [3]) (by kernel_rfl) (by simp) ?_
              refine AllReadyH.cons (o := Oper.mk _ _ _ _ _ _) rfl (fun K hK => ?_) AllReadyH.nil
              have lc := lit_cell L507 hnm
              go_simp
              refine hK.out _ _ trivial (fun hHeld => ?_)
              clear hK K
              try simp only [Act.put, List.setIfInBounds_toArray, List.set_cons_zero, List.set_cons_succ]
              refine wpAnyH_take (i := 6) (oi := Oper.mk _ _ _ _ _ _) (v := ?_) rfl (by kernel_rfl) (by kernel_rfl) (by kernel_rfl) (fun _ _ _ h => h) (Or.inl ⟨by rfl, ?_⟩) (by assumption) ?_
              rotate_left
              · intro w hSw
                try dsimp only at hSw
                go_simp
                all_goals with_reducible rfl
              try simp only [Act.put, List.setIfInBounds_toArray, List.set_cons_zero, List.set_cons_succ]
              refine wpAnyH_ready (rs := [8]) (by kernel_rfl) (by simp) ?_
              refine AllReadyH.cons (o := Oper.mk _ _ _ _ _ _) rfl (fun K hK => ?_) AllReadyH.nil
              go_simp
              refine hK.out _ _ trivial (fun hHeld => ?_)
              clear hK K
              try simp only [Act.put, List.setIfInBounds_toArray, List.set_cons_zero, List.set_cons_succ]
              refine wpAnyH_done (by kernel_rfl) ?_ _
              have F0 := mkHid (M5.out.next (below_alloc1 _ (.cells #[.string ⟨#[97]⟩, .string ⟨#[98, 45, 50]⟩, .string ⟨#[99]⟩, .string ⟨#[100, 100]⟩] 9)))
              have F1 := mkHid (Dv.start2 F0.out (w2.heap.size + 1) nm b (by simp))
              go_wp2
              go_meet
              exact ⟨_, b, by first | rfl | simp, by first | exact F1 | (simpa using F1)⟩
            refine AllReadyH.cons (o := Oper.mk _ _ _ _ _ _) rfl (fun K hK => ?_) AllReadyH.nil
            have M57 := mkHid (Dv.start2 M5.out (w2.heap.size) ⟨#[]⟩ false (by simp))
            go_simp
            refine hK.out _ _ trivial (fun hHeld => ?_)
            clear hK K
            try simp only [Act.put, List.setIfInBounds_toArray, List.set_cons_zero, List.set_cons_succ]
            refine wpAnyH_ready (rs := [0]) (by kernel_rfl) (by simp) ?_
            refine AllReadyH.cons (o := Oper.mk _ _ _ _ _ _) rfl (fun K hK => ?_) AllReadyH.nil
            have M570 := mkHid (M57.out.next (below_alloc1 _ (.cells #[.string ⟨#[97]⟩, .string ⟨#[98, 45, 50]⟩, .string ⟨#[99]⟩, .string ⟨#[100, 100]⟩] 9)))
            have L570 := blk_new ((w2).alloc (.cells #[.string ⟨#[]⟩, .bool false, .int .i64 0, .slice none 0 0] 59)) (.cells #[.string ⟨#[97]⟩, .string ⟨#[98, 45, 50]⟩, .string ⟨#[99]⟩, .string ⟨#[100, 100]⟩] 9) (w2.heap.size + 1) (by simp)
            go_simp
            refine hK.out _ _ trivial (fun hHeld => ?_)
            clear hK K
            try simp only [Act.put, List.setIfInBounds_toArray, List.set_cons_zero, List.set_cons_succ]
            refine wpAnyH_take (i := 2) (oi := Oper.mk _ _ _ _ _ _) (v := ?_) rfl (by kernel_rfl) (by kernel_rfl) (by kernel_rfl) (fun _ _ _ h => h) (Or.inl ⟨by rfl, ?_⟩) (by assumption) ?_
            rotate_left
            · intro w hSw
              try dsimp only at hSw
              go_simp
              all_goals with_reducible rfl
            try simp only [Act.put, List.setIfInBounds_toArray, List.set_cons_zero, List.set_cons_succ]
            refine wpAnyH_ready (rs := [3]) (by kernel_rfl) (by simp) ?_
            refine AllReadyH.cons (o := Oper.mk _ _ _ _ _ _) rfl (fun K hK => ?_) AllReadyH.nil
            have lc := lit_cell L570 hnm
            go_simp
            refine hK.out _ _ trivial (fun hHeld => ?_)
            clear hK K
            try simp only [Act.put, List.setIfInBounds_toArray, List.set_cons_zero, List.set_cons_succ]
            refine wpAnyH_take (i := 6) (oi := Oper.mk _ _ _ _ _ _) (v := ?_) rfl (by kernel_rfl) (by kernel_rfl) (by kernel_rfl) (fun _ _ _ h => h) (Or.inl ⟨by rfl, ?_⟩) (by assumption) ?_
            rotate_left
            · intro w hSw
              try dsimp only at hSw
              go_simp
              all_goals with_reducible rfl
            try simp only [Act.put, List.setIfInBounds_toArray, List.set_cons_zero, List.set_cons_succ]
            refine wpAnyH_ready (rs := [8]) (by kernel_rfl) (by simp) ?_
            refine AllReadyH.cons (o := Oper.mk _ _ _ _ _ _) rfl (fun K hK => ?_) AllReadyH.nil
            go_simp
            refine hK.out _ _ trivial (fun hHeld => ?_)
            clear hK K
            try simp only [Act.put, List.setIfInBounds_toArray, List.set_cons_zero, List.set_cons_succ]
            refine wpAnyH_done (by kernel_rfl) ?_ _
            have F0 := mkHid (Dv.start2 M5.out (w2.heap.size) nm b (by simp))
            have F1 := mkHid (F0.out.next (below_alloc1 _ (.cells #[.string ⟨#[97]⟩, .string ⟨#[98, 45, 50]⟩, .string ⟨#[99]⟩, .string ⟨#[100, 100]⟩] 9)))
            go_wp2
            go_meet
            exact ⟨_, b, by first | rfl | simp, by first | exact F1 | (simpa using F1)⟩
          refine AllReadyH.cons (o := Oper.mk _ _ _ _ _ _) rfl (fun K hK => ?_) AllReadyH.nil
          have M7 := mkHid (Dv.start2 K1.out (w1.heap.size) ⟨#[]⟩ false (by simp))
          go_simp
          refine hK.out _ _ trivial (fun hHeld => ?_)
          clear hK K
          try simp only [Act.put, List.setIfInBounds_toArray, List.set_cons_zero, List.set_cons_succ]
          refine wpAnyH_ready (rs := [0, 5]) (by kernel_rfl) (by simp) ?_
          refine AllReadyH.cons (o := Oper.mk _ _ _ _ _ _) rfl (fun K hK => ?_) ?_
          · skip
            have M70 := mkHid (M7.out.next (below_alloc1 _ (.cells #[.string ⟨#[97]⟩, .string ⟨#[98, 45, 50]⟩, .string ⟨#[99]⟩, .string ⟨#[100, 100]⟩] 9)))
            have L70 := blk_new ((w1).alloc (.cells #[.string ⟨#[]⟩, .bool false, .int .i64 0, .slice none 0 0] 59)) (.cells #[.string ⟨#[97]⟩, .string ⟨#[98, 45, 50]⟩, .string ⟨#[99]⟩, .string ⟨#[100, 100]⟩] 9) (w1.heap.size + 1) (by simp)
            go_simp
            refine hK.out _ _ trivial (fun hHeld => ?_)
            clear hK K
            try simp only [Act.put, List.setIfInBounds_toArray, List.set_cons_zero, List.set_cons_succ]
            refine wpAnyH_take (i := 2) (oi := Oper.mk _ _ _ _ _ _) (v := ?_) rfl (by kernel_rfl) (by kernel_rfl) (by kernel_rfl) (fun _ _ _ h => h) (Or.inl ⟨by rfl, ?_⟩) (by assumption) ?_
            rotate_left
            · intro w hSw
              try dsimp only at hSw
              go_simp
              all_goals with_reducible rfl
            try simp only [Act.put, List.setIfInBounds_toArray, List.set_cons_zero, List.set_cons_succ]
            refine wpAnyH_ready (rs := [3, 5]) (by kernel_rfl) (by simp) ?_
            refine AllReadyH.cons (o := Oper.mk _ _ _ _ _ _) rfl (fun K hK => ?_) ?_
            · skip
              have lc := lit_cell L70 hnm
              go_simp
              refine hK.out _ _ trivial (fun hHeld => ?_)
              clear hK K
              try simp only [Act.put, List.setIfInBounds_toArray, List.set_cons_zero, List.set_cons_succ]
              refine wpAnyH_ready (rs := [5]) (by kernel_rfl) (by simp) ?_
              refine AllReadyH.cons (o := Oper.mk _ _ _ _ _ _) rfl (fun K hK => ?_) AllReadyH.nil
              go_simp
              refine Calls.mono (HO.out _ 3 (by omega) (by exact M70.out.dn.src)) ?_
              rintro e w2 ⟨b, rfl, hs2, hg2⟩
              have hg3 := grew_re (W := ((w1).alloc (.cells #[.string ⟨#[]⟩, .bool false, .int .i64 0, .slice none 0 0] 59)).alloc (.cells #[.string ⟨#[97]⟩, .string ⟨#[98, 45, 50]⟩, .string ⟨#[99]⟩, .string ⟨#[100, 100]⟩] 9)) hg2 rfl rfl rfl rfl
              have M705 := mkHid (M70.out.draw hs2 hg3)
              have L705 := (hg3.block _ (Array.getElem?_eq_some_iff.1 L70).1 (by have := K1.out.src.lt; simp; omega)).trans L70
              clear hs2 hg2 hg3
              show K _ _
              refine hK.out _ _ trivial (fun hHeld => ?_)
              clear hK K
              try simp only [Act.put, List.setIfInBounds_toArray, List.set_cons_zero, List.set_cons_succ]
              refine wpAnyH_take (i := 6) (oi := Oper.mk _ _ _ _ _ _) (v := ?_) rfl (by kernel_rfl) (by kernel_rfl) (by kernel_rfl) (fun _ _ _ h => h) (Or.inl ⟨by rfl, ?_⟩) (by assumption) ?_
              rotate_left
              · intro w hSw
                try dsimp only at hSw
                go_simp
                all_goals with_reducible rfl
              try simp only [Act.put, List.setIfInBounds_toArray, List.set_cons_zero, List.set_cons_succ]
              refine wpAnyH_ready (rs := [8]) (by kernel_rfl) (by simp) ?_
              refine AllReadyH.cons (o := Oper.mk _ _ _ _ _ _) rfl (fun K hK => ?_) AllReadyH.nil
              obtain ⟨n0, n1, n2, n3⟩ := M705.out.cells
              have uf := unfrozen M705.out.var
              go_simp
              refine hK.out _ _ trivial (fun hHeld => ?_)
              clear hK K
              try simp only [Act.put, List.setIfInBounds_toArray, List.set_cons_zero, List.set_cons_succ]
              refine wpAnyH_done (by kernel_rfl) ?_ _
              have G0 := mkHid ((((M705.out.set 0 (.string nm) (y0 := nm) (y1 := false) (y2 := 0) rfl).set 1 (.bool b) (y0 := nm) (y1 := b) (y2 := 0) rfl).set 2 (.int .i64 0) (y0 := nm) (y1 := b) (y2 := 0) rfl).set 3 (.slice none 0 0) (y0 := nm) (y1 := b) (y2 := 0) rfl)
              go_wp2
              go_meet
              exact ⟨_, b, by first | rfl | simp, by first | exact G0 | (simpa using G0)⟩
            refine AllReadyH.cons (o := Oper.mk _ _ _ _ _ _) rfl (fun K hK => ?_) AllReadyH.nil
            go_simp
            refine Calls.mono (HO.out _ 3 (by omega) (by exact M70.out.dn.src)) ?_
            rintro e w2 ⟨b, rfl, hs2, hg2⟩
            have hg3 := grew_re (W := ((w1).alloc (.cells #[.string ⟨#[]⟩, .bool false, .int .i64 0, .slice none 0 0] 59)).alloc (.cells #[.string ⟨#[97]⟩, .string ⟨#[98, 45, 50]⟩, .string ⟨#[99]⟩, .string ⟨#[100, 100]⟩] 9)) hg2 rfl rfl rfl rfl
            have M705 := mkHid (M70.out.draw hs2 hg3)
            have L705 := (hg3.block _ (Array.getElem?_eq_some_iff.1 L70).1 (by have := K1.out.src.lt; simp; omega)).trans L70
            clear hs2 hg2 hg3
            show K _ _
            refine hK.out _ _ trivial (fun hHeld => ?_)
            clear hK K
            try simp only [Act.put, List.setIfInBounds_toArray, List.set_cons_zero, List.set_cons_succ]
            refine wpAnyH_ready (rs := [3]) (by kernel_rfl) (by simp) ?_
            refine AllReadyH.cons (o := Oper.mk _ _ _ _ _ _) rfl (fun K hK => ?_) AllReadyH.nil
            have lc := lit_cell L705 hnm
            go_simp
            refine hK.out _ _ trivial (fun hHeld => ?_)
            clear hK K
            try simp only [Act.put, List.setIfInBounds_toArray, List.set_cons_zero, List.set_cons_succ]
            refine wpAnyH_take (i := 6) (oi := Oper.mk _ _ _ _ _ _) (v := ?_) rfl (by kernel_rfl) (by kernel_rfl) (by kernel_rfl) (fun _ _ _ h => h) (Or.inl ⟨by rfl, ?_⟩) (by assumption) ?_
            rotate_left
            · intro w hSw
              try dsimp only at hSw
              go_simp
              all_goals with_reducible rfl
            try simp only [Act.put, List.setIfInBounds_toArray, List.set_cons_zero, List.set_cons_succ]
            refine wpAnyH_ready (rs := [8]) (by kernel_rfl) (by simp) ?_
            refine AllReadyH.cons (o := Oper.mk _ _ _ _ _ _) rfl (fun K hK => ?_) AllReadyH.nil
            obtain ⟨n0, n1, n2, n3⟩ := M705.out.cells
            have uf := unfrozen M705.out.var
            go_simp
            refine hK.out _ _ trivial (fun hHeld => ?_)
            clear hK K
            try simp only [Act.put, List.setIfInBounds_toArray, List.set_cons_zero, List.set_cons_succ]
            refine wpAnyH_done (by kernel_rfl) ?_ _
            have G0 := mkHid ((((M705.out.set 0 (.string nm) (y0 := nm) (y1 := false) (y2 := 0) rfl).set 1 (.bool b) (y0 := nm) (y1 := b) (y2 := 0) rfl).set 2 (.int .i64 0) (y0 := nm) (y1 := b) (y2 := 0) rfl).set 3 (.slice none 0 0) (y0 := nm) (y1 := b) (y2 := 0) rfl)
            go_wp2
            go_meet
            exact ⟨_, b, by first | rfl | simp, by first | exact G0 | (simpa using G0)⟩
          refine AllReadyH.cons (o := Oper.mk _ _ _ _ _ _) rfl (fun K hK => ?_) AllReadyH.nil
          go_simp
          refine Calls.mono (HO.out _ 3 (by omega) (by exact M7.out.dn.src)) ?_
          rintro e w2 ⟨b, rfl, hs2, hg2⟩
          have hg3 := grew_re (W := (w1).alloc (.cells #[.string ⟨#[]⟩, .bool false, .int .i64 0, .slice none 0 0] 59)) hg2 rfl rfl rfl rfl
          have M75 := mkHid (M7.out.draw hs2 hg3)
          clear hs2 hg2 hg3
          show K _ _
          refine hK.out _ _ trivial (fun hHeld => ?_)
          clear hK K
          try simp only [Act.put, List.setIfInBounds_toArray, List.set_cons_zero, List.set_cons_succ]
          refine wpAnyH_ready (rs := [0]) (by kernel_rfl) (by simp) ?_
          refine AllReadyH.cons (o := Oper.mk _ _ _ _ _ _) rfl (fun K hK => ?_) AllReadyH.nil
          have M750 := mkHid (M75.out.next (below_alloc1 _ (.cells #[.string ⟨#[97]⟩, .string ⟨#[98, 45, 50]⟩, .string ⟨#[99]⟩, .string ⟨#[100, 100]⟩] 9)))
          have L750 := blk_new (w2) (.cells #[.string ⟨#[97]⟩, .string ⟨#[98, 45, 50]⟩, .string ⟨#[99]⟩, .string ⟨#[100, 100]⟩] 9) (w2.heap.size) (by simp)
          go_simp
          refine hK.out _ _ trivial (fun hHeld => ?_)
          clear hK K
          try simp only [Act.put, List.setIfInBounds_toArray, List.set_cons_zero, List.set_cons_succ]
          refine wpAnyH_take (i := 2) (oi := Oper.mk _ _ _ _ _ _) (v := ?_) rfl (by kernel_rfl) (by kernel_rfl) (by kernel_rfl) (fun _ _ _ h => h) (Or.inl ⟨by rfl, ?_⟩) (by assumption) ?_
          rotate_left
          · intro w hSw
            try dsimp only at hSw
            go_simp
            all_goals with_reducible rfl
          try simp only [Act.put, List.setIfInBounds_toArray, List.set_cons_zero, List.set_cons_succ]
          refine wpAnyH_ready (rs := [3]) (by kernel_rfl) (by simp) ?_
          refine AllReadyH.cons (o := Oper.mk _ _ _ _ _ _) rfl (fun K hK => ?_) AllReadyH.nil
          have lc := lit_cell L750 hnm
          go_simp
          refine hK.out _ _ trivial (fun hHeld => ?_)
          clear hK K
          try simp only [Act.put, List.setIfInBounds_toArray, List.set_cons_zero, List.set_cons_succ]
          refine wpAnyH_take (i := 6) (oi := Oper.mk _ _ _ _ _ _) (v := ?_) rfl (by kernel_rfl) (by kernel_rfl) (by kernel_rfl) (fun _ _ _ h => h) (Or.inl ⟨by rfl, ?_⟩) (by assumption) ?_
          rotate_left
          · intro w hSw
            try dsimp only at hSw
            go_simp
            all_goals with_reducible rfl
          try simp only [Act.put, List.setIfInBounds_toArray, List.set_cons_zero, List.set_cons_succ]
          refine wpAnyH_ready (rs := [8]) (by kernel_rfl) (by simp) ?_
          refine AllReadyH.cons (o := Oper.mk _ _ _ _ _ _) rfl (fun K hK => ?_) AllReadyH.nil
          obtain ⟨n0, n1, n2, n3⟩ := M750.out.cells
          have uf := unfrozen M750.out.var
          go_simp
          refine hK.out _ _ trivial (fun hHeld => ?_)
          clear hK K
          try simp only [Act.put, List.setIfInBounds_toArray, List.set_cons_zero, List.set_cons_succ]
          refine wpAnyH_done (by kernel_rfl) ?_ _
          have G0 := mkHid ((((M750.out.set 0 (.string nm) (y0 := nm) (y1 := false) (y2 := 0) rfl).set 1 (.bool b) (y0 := nm) (y1 := b) (y2 := 0) rfl).set 2 (.int .i64 0) (y0 := nm) (y1 := b) (y2 := 0) rfl).set 3 (.slice none 0 0) (y0 := nm) (y1 := b) (y2 := 0) rfl)
          go_wp2
          go_meet
          exact ⟨_, b, by first | rfl | simp, by first | exact G0 | (simpa using G0)⟩
        case rest =>
        obtain ⟨X, b, rfl, Z⟩ := hcut
        clear K1 hnm hnm2
        generalize nm = x0 at *
        have hx0 : (x0.size : Int) ≤ 10 := by omega
        obtain ⟨g0, g1, g2, g3⟩ := Z.out.cells
        have uf := unfrozen Z.out.var
        go_upto_if 22 with fail
        go_cut [6] from 23 to 44 (fun v wx => ∃ (x2 : Int) (ka : Option Addr) (ks : Tx) (kc : Nat), Hid (Dv w g acc a c X x0 b x2 ka ks kc wx) ∧ ks.length ≤ 3 ∧ Hid (∀ t ∈ ks, t.size ≤ 1000))
        case first =>
          cases b with
          | true =>
            go_wp2_with fail
            clear g0 g1 g2 g3 uf
            refine (HG.out _ x0 (by omega)).mono ?_
            rintro e w3 ⟨rfl, hb3⟩
            have Z1 := mkHid (Z.out.next hb3)
            have hdl := sha.digest_le x0
            have Z2 := mkHid (Z1.out.one (sha.digest x0))
            obtain ⟨g0, g1, g2, g3⟩ := Z1.out.cells
            have uf := unfrozen Z1.out.var
            have uf2 := unfrozen (blk_old Z1.out.var (.cells #[.string (sha.digest x0)] 9))
            obtain ⟨p0, p1, p2, p3⟩ := aid.cel4 (blk_old Z1.out.var (.cells #[.string (sha.digest x0)] 9))
            generalize sha.digest x0 = td at *
            have HT : Hid (∀ t ∈ [td], t.size ≤ 1000) := mkHid (by intro t ht; simp at ht; subst ht; omega)
            clear hb3 Z
            go_wp2
            go_meet
            exact ⟨0, _, [td], 1, Z2, by simp, HT⟩
          | false =>
            go_wp2_with fail
            clear g0 g1 g2 g3 uf
            refine (HN.out _ 1501 (by omega) Z.out.dn.src).mono ?_
            rintro e w3 ⟨r, rfl, hr0, hr1, _, hs3, hg3⟩
            have Z1 := mkHid (Z.out.draw hs3 hg3)
            have Z2 := mkHid (Z1.out.set 2 (.int .i64 r) (y0 := x0) (y1 := false) (y2 := r) rfl)
            obtain ⟨g0, g1, g2, g3⟩ := Z1.out.cells
            have uf := unfrozen Z1.out.var
            clear hs3 hg3 Z hr1
            go_wp2_with fail
            clear g0 g1 g2 g3 uf
            generalize w3.setCell ⟨X, 2, none⟩ (.int .i64 r) = W3 at *
            refine (HN.out _ 3 (by omega) Z2.out.dn.src).mono ?_
            rintro e w4 ⟨m, rfl, hm0, hm1, _, hs4, hg4⟩
            have hm1' := hm1 (by omega)
            obtain ⟨m0, rfl⟩ := Int.eq_ofNat_of_zero_le hm0
            have Z3 := mkHid (Z2.out.draw hs4 hg4)
            have hm2 : m0 ≤ 2 := by omega
            clear hs4 hg4 hm1 hm0 hm1' Z1 Z2
            go_wp2_with fail
            go_loopw [6] (fun j wr2 => ∃ (n : Nat) (ka : Option Addr) (ks : Tx) (kc : Nat), j = .int .i64 n ∧ ks.length + n ≤ 2 ∧ Hid (Dv w g acc a c X x0 false r ka ks kc wr2) ∧ Hid (∀ t ∈ ks, t.size ≤ 1000))
              (fun j _ => (intOf j).toNat)
            case atStart => exact ⟨m0, none, [], 0, rfl, by simpa using hm2, Z3, mkHid (by simp)⟩
            case round =>
              clear Z3
              obtain ⟨n, ka, ks, kc, rfl, hle, Z4, HKS⟩ := hrel
              by_cases hn0 : 0 < n
              · have hni : 0 < (n : Int) := by omega
                have hni2 : (n : Int) ≤ 2 := by omega
                obtain ⟨g0, g1, g2, g3⟩ := Z4.out.cells
                have uf := unfrozen Z4.out.var
                go_wp2_with fail
                refine wp_region_held_drew (S := fun _ => True) (by kernel_rfl) (by exact trivial) (fun hHeld => ?_)
                refine wpAnyH_take (i := 0) (oi := Oper.mk _ _ _ _ _ _) (v := ?_) rfl (by kernel_rfl) (by kernel_rfl) (by kernel_rfl) (fun _ _ _ h => h) (Or.inl ⟨by rfl, ?_⟩) (by assumption) ?_
                rotate_left
                · intro w hSw
                  try dsimp only at hSw
                  go_simp
                  all_goals with_reducible rfl
                try simp only [Act.put, List.setIfInBounds_toArray, List.set_cons_zero, List.set_cons_succ]
                refine wpAnyH_take (i := 2) (oi := Oper.mk _ _ _ _ _ _) (v := ?_) rfl (by kernel_rfl) (by kernel_rfl) (by kernel_rfl) (fun _ _ _ h => h) (Or.inl ⟨by rfl, ?_⟩) (by assumption) ?_
                rotate_left
                · intro w hSw
                  try dsimp only at hSw
                  go_simp
                  all_goals with_reducible rfl
                try simp only [Act.put, List.setIfInBounds_toArray, List.set_cons_zero, List.set_cons_succ]
                refine wpAnyH_ready (rs := [1, 3]) (by kernel_rfl) (by simp) ?_
                refine AllReadyH.cons (o := Oper.mk _ _ _ _ _ _) rfl (fun K hK => ?_) ?_
                · skip
                  have lc := Z4.out.cells.2.2.2
                  go_simp
                  refine hK.out _ _ trivial (fun hHeld => ?_)
                  clear hK K
                  try simp only [Act.put, List.setIfInBounds_toArray, List.set_cons_zero, List.set_cons_succ]
                  refine wpAnyH_ready (rs := [3]) (by kernel_rfl) (by simp) ?_
                  refine AllReadyH.cons (o := Oper.mk _ _ _ _ _ _) rfl (fun K hK => ?_) AllReadyH.nil
                  go_simp
                  refine Calls.mono (HD.out _ n (by omega)) ?_
                  rintro e w6 ⟨t6, rfl, ht6, hb6⟩
                  have Z9 := mkHid (Z4.out.next (below_re hb6 rfl rfl rfl rfl))
                  clear hb6
                  show K _ _
                  refine hK.out _ _ trivial (fun hHeld => ?_)
                  clear hK K
                  try simp only [Act.put, List.setIfInBounds_toArray, List.set_cons_zero, List.set_cons_succ]
                  refine wpAnyH_ready (rs := [4]) (by kernel_rfl) (by simp) ?_
                  refine AllReadyH.cons (o := Oper.mk _ _ _ _ _ _) rfl (fun K hK => ?_) AllReadyH.nil
                  go_simp
                  refine Calls.mono (HG.out _ t6 (by omega)) ?_
                  rintro e w7 ⟨rfl, hb7⟩
                  have Z10 := mkHid (Z9.out.next hb7)
                  have hdl := sha.digest_le t6
                  generalize sha.digest t6 = td at *
                  obtain ⟨g', c', w8, happ, hvar, hZ⟩ := Z10.out.app td (by omega)
                  have Z11 := mkHid hZ
                  have hl3 : (ks ++ [td]).length = ks.length + 1 := by simp
                  clear hb7 hZ
                  show K _ _
                  refine hK.out _ _ trivial (fun hHeld => ?_)
                  clear hK K
                  try simp only [Act.put, List.setIfInBounds_toArray, List.set_cons_zero, List.set_cons_succ]
                  refine wpAnyH_ready (rs := [5]) (by kernel_rfl) (by simp) ?_
                  refine AllReadyH.cons (o := Oper.mk _ _ _ _ _ _) rfl (fun K hK => ?_) AllReadyH.nil
                  go_simp
                  refine hK.out _ _ trivial (fun hHeld => ?_)
                  clear hK K
                  try simp only [Act.put, List.setIfInBounds_toArray, List.set_cons_zero, List.set_cons_succ]
                  refine wpAnyH_ready (rs := [6]) (by kernel_rfl) (by simp) ?_
                  refine AllReadyH.cons (o := Oper.mk _ _ _ _ _ _) rfl (fun K hK => ?_) AllReadyH.nil
                  go_simp
                  refine hK.out _ _ trivial (fun hHeld => ?_)
                  clear hK K
                  try simp only [Act.put, List.setIfInBounds_toArray, List.set_cons_zero, List.set_cons_succ]
                  refine wpAnyH_take (i := 7) (oi := Oper.mk _ _ _ _ _ _) (v := ?_) rfl (by kernel_rfl) (by kernel_rfl) (by kernel_rfl) (fun _ _ _ h => h) (Or.inl ⟨by rfl, ?_⟩) (by assumption) ?_
                  rotate_left
                  · intro w hSw
                    try dsimp only at hSw
                    go_simp
                    all_goals with_reducible rfl
                  try simp only [Act.put, List.setIfInBounds_toArray, List.set_cons_zero, List.set_cons_succ]
                  refine wpAnyH_ready (rs := [8]) (by kernel_rfl) (by simp) ?_
                  refine AllReadyH.cons (o := Oper.mk _ _ _ _ _ _) rfl (fun K hK => ?_) AllReadyH.nil
                  have cf8 := unfrozen hvar
                  obtain ⟨m0, m1, m2, m3⟩ := aid.cel4 hvar
                  go_simp
                  refine hK.out _ _ trivial (fun hHeld => ?_)
                  clear hK K
                  try simp only [Act.put, List.setIfInBounds_toArray, List.set_cons_zero, List.set_cons_succ]
                  refine wpAnyH_done (by kernel_rfl) ?_ _
                  have HKS3 : Hid (∀ t ∈ ks ++ [td], t.size ≤ 1000) := mkHid (by
                    intro t ht
                    rcases List.mem_append.1 ht with ht | ht
                    · exact HKS.out t ht
                    · simp at ht
                      subst ht
                      omega)
                  clear g0 g1 g2 g3 uf happ hvar Z4 Z9 Z10 lc
                  go_wp2
                  exact ⟨⟨n - 1, some ⟨g', 0, none⟩, ks ++ [td], c', by go_num, by rw [hl3]; omega, Z11, HKS3⟩, by simp [intOf]; omega⟩
                refine AllReadyH.cons (o := Oper.mk _ _ _ _ _ _) rfl (fun K hK => ?_) AllReadyH.nil
                go_simp
                refine Calls.mono (HD.out _ n (by omega)) ?_
                rintro e w6 ⟨t6, rfl, ht6, hb6⟩
                have Z9 := mkHid (Z4.out.next (below_re hb6 rfl rfl rfl rfl))
                clear hb6
                show K _ _
                refine hK.out _ _ trivial (fun hHeld => ?_)
                clear hK K
                try simp only [Act.put, List.setIfInBounds_toArray, List.set_cons_zero, List.set_cons_succ]
                refine wpAnyH_ready (rs := [1, 4]) (by kernel_rfl) (by simp) ?_
                refine AllReadyH.cons (o := Oper.mk _ _ _ _ _ _) rfl (fun K hK => ?_) ?_
                · skip
                  have lc := Z9.out.cells.2.2.2
                  go_simp
                  refine hK.out _ _ trivial (fun hHeld => ?_)
                  clear hK K
                  try simp only [Act.put, List.setIfInBounds_toArray, List.set_cons_zero, List.set_cons_succ]
                  refine wpAnyH_ready (rs := [4]) (by kernel_rfl) (by simp) ?_
                  refine AllReadyH.cons (o := Oper.mk _ _ _ _ _ _) rfl (fun K hK => ?_) AllReadyH.nil
                  go_simp
                  refine Calls.mono (HG.out _ t6 (by omega)) ?_
                  rintro e w7 ⟨rfl, hb7⟩
                  have Z10 := mkHid (Z9.out.next hb7)
                  have hdl := sha.digest_le t6
                  generalize sha.digest t6 = td at *
                  obtain ⟨g', c', w8, happ, hvar, hZ⟩ := Z10.out.app td (by omega)
                  have Z11 := mkHid hZ
                  have hl3 : (ks ++ [td]).length = ks.length + 1 := by simp
                  clear hb7 hZ
                  show K _ _
                  refine hK.out _ _ trivial (fun hHeld => ?_)
                  clear hK K
                  try simp only [Act.put, List.setIfInBounds_toArray, List.set_cons_zero, List.set_cons_succ]
                  refine wpAnyH_ready (rs := [5]) (by kernel_rfl) (by simp) ?_
                  refine AllReadyH.cons (o := Oper.mk _ _ _ _ _ _) rfl (fun K hK => ?_) AllReadyH.nil
                  go_simp
                  refine hK.out _ _ trivial (fun hHeld => ?_)
                  clear hK K
                  try simp only [Act.put, List.setIfInBounds_toArray, List.set_cons_zero, List.set_cons_succ]
                  refine wpAnyH_ready (rs := [6]) (by kernel_rfl) (by simp) ?_
                  refine AllReadyH.cons (o := Oper.mk _ _ _ _ _ _) rfl (fun K hK => ?_) AllReadyH.nil
                  go_simp
                  refine hK.out _ _ trivial (fun hHeld => ?_)
                  clear hK K
                  try simp only [Act.put, List.setIfInBounds_toArray, List.set_cons_zero, List.set_cons_succ]
                  refine wpAnyH_take (i := 7) (oi := Oper.mk _ _ _ _ _ _) (v := ?_) rfl (by kernel_rfl) (by kernel_rfl) (by kernel_rfl) (fun _ _ _ h => h) (Or.inl ⟨by rfl, ?_⟩) (by assumption) ?_
                  rotate_left
                  · intro w hSw
                    try dsimp only at hSw
                    go_simp
                    all_goals with_reducible rfl
                  try simp only [Act.put, List.setIfInBounds_toArray, List.set_cons_zero, List.set_cons_succ]
                  refine wpAnyH_ready (rs := [8]) (by kernel_rfl) (by simp) ?_
                  refine AllReadyH.cons (o := Oper.mk _ _ _ _ _ _) rfl (fun K hK => ?_) AllReadyH.nil
                  have cf8 := unfrozen hvar
                  obtain ⟨m0, m1, m2, m3⟩ := aid.cel4 hvar
                  go_simp
                  refine hK.out _ _ trivial (fun hHeld => ?_)
                  clear hK K
                  try simp only [Act.put, List.setIfInBounds_toArray, List.set_cons_zero, List.set_cons_succ]
                  refine wpAnyH_done (by kernel_rfl) ?_ _
                  have HKS3 : Hid (∀ t ∈ ks ++ [td], t.size ≤ 1000) := mkHid (by
                    intro t ht
                    rcases List.mem_append.1 ht with ht | ht
                    · exact HKS.out t ht
                    · simp at ht
                      subst ht
                      omega)
                  clear g0 g1 g2 g3 uf happ hvar Z4 Z9 Z10 lc
                  go_wp2
                  exact ⟨⟨n - 1, some ⟨g', 0, none⟩, ks ++ [td], c', by go_num, by rw [hl3]; omega, Z11, HKS3⟩, by simp [intOf]; omega⟩
                refine AllReadyH.cons (o := Oper.mk _ _ _ _ _ _) rfl (fun K hK => ?_) AllReadyH.nil
                go_simp
                refine Calls.mono (HG.out _ t6 (by omega)) ?_
                rintro e w7 ⟨rfl, hb7⟩
                have Z10 := mkHid (Z9.out.next hb7)
                have hdl := sha.digest_le t6
                generalize sha.digest t6 = td at *
                obtain ⟨g', c', w8, happ, hvar, hZ⟩ := Z10.out.app td (by omega)
                have Z11 := mkHid hZ
                have hl3 : (ks ++ [td]).length = ks.length + 1 := by simp
                clear hb7 hZ
                show K _ _
                refine hK.out _ _ trivial (fun hHeld => ?_)
                clear hK K
                try simp only [Act.put, List.setIfInBounds_toArray, List.set_cons_zero, List.set_cons_succ]
                refine wpAnyH_ready (rs := [1, 5]) (by kernel_rfl) (by simp) ?_
                refine AllReadyH.cons (o := Oper.mk _ _ _ _ _ _) rfl (fun K hK => ?_) ?_
                · skip
                  have lc := Z10.out.cells.2.2.2
                  go_simp
                  refine hK.out _ _ trivial (fun hHeld => ?_)
                  clear hK K
                  try simp only [Act.put, List.setIfInBounds_toArray, List.set_cons_zero, List.set_cons_succ]
                  refine wpAnyH_ready (rs := [5]) (by kernel_rfl) (by simp) ?_
                  refine AllReadyH.cons (o := Oper.mk _ _ _ _ _ _) rfl (fun K hK => ?_) AllReadyH.nil
                  go_simp
                  refine hK.out _ _ trivial (fun hHeld => ?_)
                  clear hK K
                  try simp only [Act.put, List.setIfInBounds_toArray, List.set_cons_zero, List.set_cons_succ]
                  refine wpAnyH_ready (rs := [6]) (by kernel_rfl) (by simp) ?_
                  refine AllReadyH.cons (o := Oper.mk _ _ _ _ _ _) rfl (fun K hK => ?_) AllReadyH.nil
                  go_simp
                  refine hK.out _ _ trivial (fun hHeld => ?_)
                  clear hK K
                  try simp only [Act.put, List.setIfInBounds_toArray, List.set_cons_zero, List.set_cons_succ]
                  refine wpAnyH_take (i := 7) (oi := Oper.mk _ _ _ _ _ _) (v := ?_) rfl (by kernel_rfl) (by kernel_rfl) (by kernel_rfl) (fun _ _ _ h => h) (Or.inl ⟨by rfl, ?_⟩) (by assumption) ?_
                  rotate_left
                  · intro w hSw
                    try dsimp only at hSw
                    go_simp
                    all_goals with_reducible rfl
                  try simp only [Act.put, List.setIfInBounds_toArray, List.set_cons_zero, List.set_cons_succ]
                  refine wpAnyH_ready (rs := [8]) (by kernel_rfl) (by simp) ?_
                  refine AllReadyH.cons (o := Oper.mk _ _ _ _ _ _) rfl (fun K hK => ?_) AllReadyH.nil
                  have cf8 := unfrozen hvar
                  obtain ⟨m0, m1, m2, m3⟩ := aid.cel4 hvar
                  go_simp
                  refine hK.out _ _ trivial (fun hHeld => ?_)
                  clear hK K
                  try simp only [Act.put, List.setIfInBounds_toArray, List.set_cons_zero, List.set_cons_succ]
                  refine wpAnyH_done (by kernel_rfl) ?_ _
                  have HKS3 : Hid (∀ t ∈ ks ++ [td], t.size ≤ 1000) := mkHid (by
                    intro t ht
                    rcases List.mem_append.1 ht with ht | ht
                    · exact HKS.out t ht
                    · simp at ht
                      subst ht
                      omega)
                  clear g0 g1 g2 g3 uf happ hvar Z4 Z9 Z10 lc
                  go_wp2
                  exact ⟨⟨n - 1, some ⟨g', 0, none⟩, ks ++ [td], c', by go_num, by rw [hl3]; omega, Z11, HKS3⟩, by simp [intOf]; omega⟩
                refine AllReadyH.cons (o := Oper.mk _ _ _ _ _ _) rfl (fun K hK => ?_) AllReadyH.nil
                go_simp
                refine hK.out _ _ trivial (fun hHeld => ?_)
                clear hK K
                try simp only [Act.put, List.setIfInBounds_toArray, List.set_cons_zero, List.set_cons_succ]
                refine wpAnyH_ready (rs := [1]) (by kernel_rfl) (by simp) ?_
                refine AllReadyH.cons (o := Oper.mk _ _ _ _ _ _) rfl (fun K hK => ?_) AllReadyH.nil
                have lc := cell_old2 (W := w7) (o := .cells #[.string td] 9) Z10.out.cells.2.2.2
                go_simp
                refine hK.out _ _ trivial (fun hHeld => ?_)
                clear hK K
                try simp only [Act.put, List.setIfInBounds_toArray, List.set_cons_zero, List.set_cons_succ]
                refine wpAnyH_ready (rs := [6]) (by kernel_rfl) (by simp) ?_
                refine AllReadyH.cons (o := Oper.mk _ _ _ _ _ _) rfl (fun K hK => ?_) AllReadyH.nil
                go_simp
                refine hK.out _ _ trivial (fun hHeld => ?_)
                clear hK K
                try simp only [Act.put, List.setIfInBounds_toArray, List.set_cons_zero, List.set_cons_succ]
                refine wpAnyH_take (i := 7) (oi := Oper.mk _ _ _ _ _ _) (v := ?_) rfl (by kernel_rfl) (by kernel_rfl) (by kernel_rfl) (fun _ _ _ h => h) (Or.inl ⟨by rfl, ?_⟩) (by assumption) ?_
                rotate_left
                · intro w hSw
                  try dsimp only at hSw
                  go_simp
                  all_goals with_reducible rfl
                try simp only [Act.put, List.setIfInBounds_toArray, List.set_cons_zero, List.set_cons_succ]
                refine wpAnyH_ready (rs := [8]) (by kernel_rfl) (by simp) ?_
                refine AllReadyH.cons (o := Oper.mk _ _ _ _ _ _) rfl (fun K hK => ?_) AllReadyH.nil
                have cf8 := unfrozen hvar
                obtain ⟨m0, m1, m2, m3⟩ := aid.cel4 hvar
                go_simp
                refine hK.out _ _ trivial (fun hHeld => ?_)
                clear hK K
                try simp only [Act.put, List.setIfInBounds_toArray, List.set_cons_zero, List.set_cons_succ]
                refine wpAnyH_done (by kernel_rfl) ?_ _
                have HKS3 : Hid (∀ t ∈ ks ++ [td], t.size ≤ 1000) := mkHid (by
                  intro t ht
                  rcases List.mem_append.1 ht with ht | ht
                  · exact HKS.out t ht
                  · simp at ht
                    subst ht
                    omega)
                clear g0 g1 g2 g3 uf happ hvar Z4 Z9 Z10 lc
                go_wp2
                exact ⟨⟨n - 1, some ⟨g', 0, none⟩, ks ++ [td], c', by go_num, by rw [hl3]; omega, Z11, HKS3⟩, by simp [intOf]; omega⟩
              · obtain rfl : n = 0 := by omega
                go_wp2
                go_meet
                exact ⟨r, ka, ks, kc, Z4, by omega, HKS⟩
        case rest =>
        obtain ⟨x2, ka, ks, kc, Z5, hkl, HKS⟩ := hcut
        clear Z g0 g1 g2 g3 uf
        go_wp2_with fail
        refine (HO.out _ 25 (by omega) Z5.out.dn.src).mono ?_
        rintro e w5 ⟨b5, rfl, hs5, hg5⟩
        have Z6 := mkHid (Z5.out.draw hs5 hg5)
        clear hs5 hg5 Z5
        cases b5 with
        | false =>
          obtain ⟨g', c', w8, happ, hDn⟩ := Z6.out.push (by omega)
          obtain ⟨g0, g1, g2, g3⟩ := Z6.out.cells
          have N1 := mkHid hDn
          have N2 := mkHid (sd_push HSd.out (d := (x0, b, x2, ka, kc, ks)) ⟨by simp only; omega, by simp only; omega, HKS.out, Z6.out.cap⟩)
          have hal8 : (acc ++ [(x0, b, x2, ka, kc, ks)]).length = acc.length + 1 := by simp
          clear hDn Z6
          go_wp2
          exact ⟨⟨k + 1, _, some ⟨g', 0, none⟩, c', by go_num, by rw [hal8], by omega, by rw [hal8]; omega, N2, N1⟩, by simp [intOf]; omega⟩
        | true =>
          go_wp2_with fail
          refine (HN.out _ 3 (by omega) Z6.out.dn.src).mono ?_
          rintro e w6 ⟨r6, rfl, hr0, hr1, _, hs6, hg6⟩
          have hr6 := hr1 (by omega)
          have Z7 := mkHid (Z6.out.draw hs6 hg6)
          clear hs6 hg6 Z6 hr1
          rcases (show r6 = 0 ∨ r6 = 1 ∨ r6 = 2 by omega) with rfl | rfl | rfl
          · have LB := blk_new w6 (.cells #[.int .i64 (-1), .int .i64 1501, .int .i64 1] 2) _ rfl
            have Z8 := mkHid (Z7.out.next (below_alloc1 w6 (.cells #[.int .i64 (-1), .int .i64 1501, .int .i64 1] 2)))
            go_wp2_with fail
            refine (HN.out _ 3 (by omega) Z8.out.dn.src).mono ?_
            rintro e w7 ⟨r7, rfl, hr70, hr71, _, hs7, hg7⟩
            have hr7 := hr71 (by omega)
            obtain ⟨q, rfl⟩ := Int.eq_ofNat_of_zero_le hr70
            obtain ⟨v7, hv7⟩ : ∃ v7 : Int, (#[.int .i64 (-1), .int .i64 1501, .int .i64 1] : Array Value)[q]? = some (.int .i64 v7) := by
              rcases (show q = 0 ∨ q = 1 ∨ q = 2 by omega) with rfl | rfl | rfl
              · exact ⟨_, rfl⟩
              · exact ⟨_, rfl⟩
              · exact ⟨_, rfl⟩
            have lc := lit_cell ((hg7.block _ (Array.getElem?_eq_some_iff.1 LB).1 (by have := Z7.out.dn.src.lt; simp; omega)).trans LB) hv7
            have Z9 := mkHid (Z8.out.draw hs7 hg7)
            have Z10 := mkHid (Z9.out.set 2 (.int .i64 v7) (y0 := x0) (y1 := b) (y2 := v7) rfl)
            obtain ⟨e0, e1, e2, e3⟩ := Z9.out.cells
            have uf := unfrozen Z9.out.var
            have hq3 : (q : Int) < 3 := by omega
            clear hs7 hg7 hr71 LB Z8 Z7 Z9 hv7
            obtain ⟨g', c', w8, happ, hDn⟩ := Z10.out.push (by omega)
            rw [show (w7.setCell ⟨X, 2, none⟩ (.int .i64 v7)).heap.size = w7.heap.size from by simp] at happ
            obtain ⟨g0, g1, g2, g3⟩ := Z10.out.cells
            have N1 := mkHid hDn
            have N2 := mkHid (sd_push HSd.out (d := (x0, b, v7, ka, kc, ks)) ⟨by simp only; omega, by simp only; omega, HKS.out, Z10.out.cap⟩)
            have hal8 : (acc ++ [(x0, b, v7, ka, kc, ks)]).length = acc.length + 1 := by simp
            clear hDn Z10
            go_wp2
            exact ⟨⟨k + 1, _, some ⟨g', 0, none⟩, c', by go_num, by rw [hal8], by omega, by rw [hal8]; omega, N2, N1⟩, by simp [intOf]; omega⟩
          · have uf := unfrozen Z7.out.var
            obtain ⟨e0, e1, e2, e3⟩ := Z7.out.cells
            obtain ⟨g5, c5, w7, happ5, hvar5, hZ5⟩ := Z7.out.app ⟨#[115, 104, 111, 114, 116]⟩ (by omega)
            have Z8 := mkHid hZ5
            obtain ⟨f0, f1, f2, f3⟩ := aid.cel4 hvar5
            have uf5 := unfrozen hvar5
            have hl5 : (ks ++ [(⟨#[115, 104, 111, 114, 116]⟩ : ByteArray)]).length = ks.length + 1 := by simp
            have HKS5 : Hid (∀ t ∈ ks ++ [(⟨#[115, 104, 111, 114, 116]⟩ : ByteArray)], t.size ≤ 1000) := mkHid (by
              intro t ht
              rcases List.mem_append.1 ht with ht | ht
              · exact HKS.out t ht
              · simp at ht
                subst ht
                decide)
            clear hZ5 Z7 hvar5
            obtain ⟨g', c', w8, happ, hDn⟩ := Z8.out.push (by omega)
            rw [show (w7.setCell ⟨X, 3, none⟩ (.slice (some ⟨g5, 0, none⟩) (ks.length + 1) c5)).heap.size = w7.heap.size from by simp, hl5] at happ
            obtain ⟨g0, g1, g2, g3⟩ := Z8.out.cells
            have N1 := mkHid hDn
            have N2 := mkHid (sd_push HSd.out (d := (x0, b, x2, (some ⟨g5, 0, none⟩), c5, (ks ++ [(⟨#[115, 104, 111, 114, 116]⟩ : ByteArray)]))) ⟨by simp only; omega, by simp only [hl5]; omega, HKS5.out, Z8.out.cap⟩)
            have hal8 : (acc ++ [(x0, b, x2, (some (⟨g5, 0, none⟩ : Addr)), c5, (ks ++ [(⟨#[115, 104, 111, 114, 116]⟩ : ByteArray)]))]).length = acc.length + 1 := by simp
            clear hDn Z8
            rw [hl5] at g3
            go_wp2
            exact ⟨⟨k + 1, _, some ⟨g', 0, none⟩, c', by go_num, by rw [hal8], by omega, by rw [hal8]; omega, N2, N1⟩, by simp [intOf]; omega⟩
          · have HR := mkHid (rdT_lit w6 [⟨#[]⟩, ⟨#[97]⟩, ⟨#[65]⟩] #[.string ⟨#[]⟩, .string ⟨#[97]⟩, .string ⟨#[65]⟩] rfl)
            have Z8 := mkHid (Z7.out.next (below_alloc1 w6 (.cells #[.string ⟨#[]⟩, .string ⟨#[97]⟩, .string ⟨#[65]⟩] 9)))
            go_wp2_with fail
            refine (pick_any g _ 3 3 1 [⟨#[]⟩, ⟨#[97]⟩, ⟨#[65]⟩] _ Z8.out.dn.src HR.out rfl (by omega) (by omega) (by intro t ht; simp at ht; rcases ht with rfl | rfl | rfl <;> decide) (by intro b o s e; simp at e; have := Z7.out.dn.src.lt; omega)).mono ?_
            rintro e w7 ⟨t7, rfl, ht7, hs7, hg7⟩
            have Z9 := mkHid (Z8.out.draw hs7 hg7)
            have Z10 := mkHid (Z9.out.set 0 (.string t7) (y0 := t7) (y1 := b) (y2 := x2) rfl)
            obtain ⟨e0, e1, e2, e3⟩ := Z9.out.cells
            have uf := unfrozen Z9.out.var
            clear hs7 hg7 HR Z8 Z7 Z9
            obtain ⟨g', c', w8, happ, hDn⟩ := Z10.out.push (by omega)
            rw [show (w7.setCell ⟨X, 0, none⟩ (.string t7)).heap.size = w7.heap.size from by simp] at happ
            obtain ⟨g0, g1, g2, g3⟩ := Z10.out.cells
            have N1 := mkHid hDn
            have N2 := mkHid (sd_push HSd.out (d := (t7, b, x2, ka, kc, ks)) ⟨by simp only; omega, by simp only; omega, HKS.out, Z10.out.cap⟩)
            have hal8 : (acc ++ [(t7, b, x2, ka, kc, ks)]).length = acc.length + 1 := by simp
            clear hDn Z10
            go_wp2
            exact ⟨⟨k + 1, _, some ⟨g', 0, none⟩, c', by go_num, by rw [hal8], by omega, by rw [hal8]; omega, N2, N1⟩, by simp [intOf]; omega⟩
    · obtain rfl : k = 4 := by omega
      have F : Hid (DNodes w g (.returned (.slice a acc.length c)) wr) := mkHid ⟨a, c, acc, rfl, by omega, HSd.out, K.out⟩
      clear K HSd
      go_wp2
      go_ret
      exact F.out
end Go.Proofs.Ytmmmadehifajlaa.nod
namespace Go.Proofs.Ytmmmadehifajlaa.nod
open Go.RowKit Go.Joins
open Go.Proofs.Ytmmmadehifajlaa.base Go.Proofs.Ytmmmadehifajlaa.blk Go.Proofs.Ytmmmadehifajlaa.aid
open Go.Proofs.Ytmmmadehifajlaa.row (Rd Own OwnV)
open Go.Proofs.Ytmmmadehifajlaa.strs (tx)
open Go.Proofs.Ytmmmadehifajlaa.mem (Mem Mine Off)
open Go.Proofs.Ytmmmadehifajlaa.draw (SrcAt Drew DrewText n_any spoil_any source_any Row)
set_option linter.unusedVariables false
set_option linter.unusedSimpArgs false

theorem sd_small {l : List Nd} (h : Sd l) : SmallN l := fun d hd => by
  obtain ⟨h1, h2, h3, _⟩ := h d hd
  exact ⟨by omega, by omega, fun t ht => by have := h3 t ht; omega⟩
theorem sd_cap {l : List Nd} (h : Sd l) : CapN l := fun d hd => (h d hd).2.2.2
theorem Dn.done {w W : World} {g : Nat} {acc : List Nd} {a : Option Addr} {c : Nat} (h : Dn w g acc a c W) : Mem w [] [] (⟨59, a, ncs acc⟩ :: mines acc) W := by
  obtain ⟨o, h1⟩ := h.rn
  exact h1.done
theorem rdN_own {W wx : World} {a : Option Addr} {ds : List Nd} (h : Mem W [] [] (⟨59, a, ncs ds⟩ :: mines ds) wx) : RdN wx a ds :=
  ⟨h.o0.rd, fun d hd => (h.o ⟨9, d.2.2.2.1, tx d.2.2.2.2.2⟩ (.tail _ (List.mem_map.2 ⟨d, hd, rfl⟩))).rd⟩
theorem bytesN_le (l : List Vn) : (bytesN l).size ≤ 70000 := by
  unfold bytesN
  split
  · rename_i h
    obtain ⟨h1, h2⟩ := nodesB_parts h
    have h3 := recsN_len l h2
    have h4 := nbk.numB_len (k := (l.length : Int)) (by omega)
    show (bytesL l).toArray.size ≤ 70000
    unfold bytesL
    rw [List.size_toArray, List.length_append, len_list]
    omega
  · show 0 ≤ 70000
    omega
theorem bytesN_four {l : List Vn} (h4 : l.length ≤ 4) : (bytesN l).size ≤ 20000 := by
  unfold bytesN
  split
  · rename_i h
    obtain ⟨h1, h2⟩ := nodesB_parts h
    have h3 := recsN_len l h2
    have h4 := nbk.numB_len (k := (l.length : Int)) (by omega)
    show (bytesL l).toArray.size ≤ 20000
    unfold bytesL
    rw [List.size_toArray, List.length_append, len_list]
    omega
  · show 0 ≤ 20000
    omega
theorem bytesN_pos {l : List Vn} (h : nodesB l = true) : ¬ bytesN l = ⟨#[]⟩ := by
  intro e
  have h1 := nbk.num_pos (2 * ((l.length : Int)).toNat)
  have h2 := congrArg ByteArray.size e
  unfold bytesN at h2
  rw [if_pos h] at h2
  have h3 : (bytesL l).toArray.size = 0 := h2
  unfold bytesL nbk.numB at h3
  rw [List.size_toArray, List.length_append] at h3
  have h4 : ∀ (x : List UInt8), ((⟨x.toArray⟩ : ByteArray).data.toList).length = x.length := fun x => by simp
  rw [h4] at h3
  omega
set_option maxRecDepth 100000 in
theorem drawB_any (a : Option Addr) (len cap : Nat) (w : World) (hl : len ≤ 1048576) (hr : Row w a len) :
    Calls Try.prog 8 #[.slice a len cap] w fun e w' => ∃ (a' : Option Addr) (c' : Nat) (ds : List Nd), e = .returned (.slice a' ds.length c') ∧ ds.length ≤ 4 ∧ Sd ds ∧ Mem w [] [] (⟨59, a', ncs ds⟩ :: mines ds) w' := by
  have HS := mkHid (source_any a len cap w hl hr)
  clear hr
  go_enter Try.func8, Try.ntmps8
  go_wp2_with fail
  refine HS.out.mono ?_
  rintro e w1 ⟨rfl, hs1, hb1⟩
  have HL := mkHid (l11N_any w w.heap.size w1 hb1 hs1 (Nat.le_refl _))
  unfold DNodes at HL
  clear HS hs1 hb1
  go_wp2_with fail
  refine HL.out.mono ?_
  rintro e w2 ⟨a2, c2, ds, rfl, hl4, hsd, hD⟩
  have F := mkHid (And.intro hl4 (And.intro hsd hD.done))
  clear HL hl4 hsd hD
  go_wp2
  go_ret
  exact ⟨a2, c2, ds, rfl, F.out.1, F.out.2.1, F.out.2.2⟩
set_option maxRecDepth 100000 in
set_option maxHeartbeats 1000000 in
theorem drawR_any (a : Option Addr) (len cap : Nat) (w : World) (hl : len ≤ 1048576) (hr : Row w a len) :
    Calls Try.prog 13 #[.slice a len cap] w fun e w' => ∃ t : ByteArray, e = .returned (.string t) ∧ t.size ≤ 100000 ∧ Below w.heap.size w w' := by
  have HS := mkHid (source_any a len cap w hl hr)
  clear hr
  go_enter Try.func13, Try.ntmps13
  go_wp2_with fail
  refine HS.out.mono ?_
  rintro e w1 ⟨rfl, hs1, hb1⟩
  have HL := mkHid (l11N_any w w.heap.size w1 hb1 hs1 (Nat.le_refl _))
  unfold DNodes at HL
  clear HS hs1 hb1
  go_wp2_with fail
  refine HL.out.mono ?_
  rintro e w2 ⟨a2, c2, ds, rfl, hl4, hsd, hD⟩
  have HB := mkHid (bytesS_any a2 c2 ds w2 (by omega) (sd_small hsd) (rdN_own hD.done))
  have K := mkHid hD
  have htl := bytesN_le (ds.map val)
  generalize bytesN (ds.map val) = t at *
  clear HL hsd hD
  go_wp2_with fail
  refine HB.out.mono ?_
  rintro e w3 ⟨rfl, hb3⟩
  have K1 := mkHid (K.out.next hb3)
  clear hb3 K HB
  go_wp2_with fail
  refine (n_any _ 5 w3 (by omega) K1.out.src).mono ?_
  rintro e w4 ⟨r, rfl, hr0, hr1, _, hs4, hg4⟩
  have K2 := mkHid (K1.out.draw hs4 hg4)
  clear hs4 hg4 K1 hr1
  have hti : (t.size : Int) ≤ 70000 := by omega
  by_cases h0 : r = 0
  · subst h0
    go_wp2_with fail
    refine (spoil_any _ t w4 (by omega) K2.out.src).mono ?_
    rintro e w5 ⟨t5, rfl, ht5, hs5, hg5⟩
    have K3 := mkHid (K2.out.draw hs5 hg5)
    clear hs5 hg5 K2
    go_wp2
    go_ret
    exact ⟨t5, rfl, by omega, K3.out.done.below⟩
  · have h0b : (r == 0) = false := by simpa using h0
    by_cases h1 : r = 1
    · subst h1
      go_wp2_with fail
      refine (n_any _ _ w4 (by omega) K2.out.src).mono ?_
      rintro e w5 ⟨q, rfl, hq0, hq1, hq2, hs5, hg5⟩
      obtain ⟨q', rfl⟩ := Int.eq_ofNat_of_zero_le hq0
      have hqs : q' ≤ t.size := by
        rcases Nat.eq_zero_or_pos t.size with h | h
        · have := hq2 (by omega); omega
        · have := hq1 (by omega); omega
      have hqi : (q' : Int) ≤ (t.size : Int) := by omega
      have K3 := mkHid (K2.out.draw hs5 hg5)
      clear hs5 hg5 K2 hq1 hq2
      go_wp2
      go_ret
      exact ⟨_, rfl, by simp only [ByteArray.size_extract]; omega, K3.out.done.below⟩
    · have h1b : (r == 1) = false := by simpa using h1
      go_wp2
      go_ret
      exact ⟨t, rfl, by omega, K2.out.done.below⟩
end Go.Proofs.Ytmmmadehifajlaa.nod
