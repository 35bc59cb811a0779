/-
  A cutting that is drawn: (*l01Src).l06Cutting: what it answers and leaves. Condition: the source lies in one block of its own.
-/
import Derived.Test.YtbdkpcgmnppkgaaTextsB
import Derived.Test.YtbdkpcgmnppkgaaOne
import Derived.Test.YtbdkpcgmnppkgaaCutS
import Derived.Deep.RegionHeld3
import Derived.Deep.RegionWith
namespace Go.Proofs.Ytbdkpcgmnppkgaa.draw
open Go.RowKit Go.Joins
open Go.Proofs.Ytbdkpcgmnppkgaa.base Go.Proofs.Ytbdkpcgmnppkgaa.blk
open Go.Proofs.Ytbdkpcgmnppkgaa.fing (cutV)
set_option linter.unusedVariables false

/-- a small number -/
def Sm (x : Int) : Prop := -10 ≤ x ∧ x ≤ 3000
/-- a cutting is drawn -/
def DrewCut (w : World) (g : Nat) (e : Ending) (w' : World) : Prop :=
  ∃ mn bs mx : Int, e = .returned (cutV mn bs mx) ∧ Sm mn ∧ Sm bs ∧ Sm mx ∧ SrcAt w' g ∧ w.grownBy w' (some g)

def cells3 (a b c : Int) : Obj := .cells #[.int .i64 a, .int .i64 b, .int .i64 c] 29
theorem blk_grown {w w' : World} {j g : Nat} {o : Obj} (h : w.heap[j]? = some o) (hg : w.grownBy w' (some g)) (hne : j ≠ g) : w'.heap[j]? = some o :=
  (hg.block j (Array.getElem?_eq_some_iff.1 h).1 (by simpa using hne)).trans h
/-- what stands in memory while a cutting is drawn -/
structure Cd (w : World) (g C : Nat) (mn bs mx : Int) (wr : World) : Prop where
  src : SrcAt wr g
  grown : w.grownBy wr (some g)
  res : wr.heap[w.heap.size]? = some (cells3 0 0 0)
  box : wr.heap[C]? = some (cells3 mn bs mx)
  hC : w.heap.size < C
  hg : g < w.heap.size
theorem Cd.draw {w wr w' : World} {g C : Nat} {mn bs mx : Int} (h : Cd w g C mn bs mx wr) (hs : SrcAt w' g) (hg : wr.grownBy w' (some g)) : Cd w g C mn bs mx w' :=
  ⟨hs, grown_trans h.grown hg, blk_grown h.res hg (by have := h.hg; omega), blk_grown h.box hg (by have := h.hg; have := h.hC; omega), h.hC, h.hg⟩
theorem Cd.alloc {w wr : World} {g C : Nat} {mn bs mx : Int} (h : Cd w g C mn bs mx wr) (o : Obj) : Cd w g C mn bs mx (wr.alloc o) :=
  ⟨h.src.below ((Below.refl _ _).alloc (Nat.le_refl _) _), grown_trans h.grown (World.grownBy_alloc wr o _), blk_old h.res o, blk_old h.box o, h.hC, h.hg⟩
theorem Cd.drew {w wr : World} {g C : Nat} {mn bs mx : Int} (h : Cd w g C mn bs mx wr) : Cd w g C mn bs mx wr.drew := ⟨h.src, ⟨h.grown.os, h.grown.tape, h.grown.output, h.grown.size, h.grown.block⟩, h.res, h.box, h.hC, h.hg⟩
theorem src_set {wr : World} {g : Nat} (h : SrcAt wr g) (p : Addr) (v : Value) (hp : g < p.block) : SrcAt (wr.setCell p v) g :=
  h.upto ((Below.refl (g + 1) wr).setCell hp v)
theorem Cd.setAny {w wr : World} {g C : Nat} {mn bs mx : Int} (h : Cd w g C mn bs mx wr) (j : Nat) (v : Value) (mn' bs' mx' : Int) (e : (#[.int .i64 mn, .int .i64 bs, .int .i64 mx] : Array Value).setIfInBounds j v = #[.int .i64 mn', .int .i64 bs', .int .i64 mx']) : Cd w g C mn' bs' mx' (wr.setCell ⟨C, j, none⟩ v) := by
  have h1 := h.hC
  have h2 := h.hg
  refine ⟨src_set h.src _ _ (by simp; omega), ⟨h.grown.os, h.grown.tape, h.grown.output, by simpa using h.grown.size, fun k hk hne => ?_⟩, blk_set h.res _ _ (by simp; omega), ?_, h1, h2⟩
  · rw [Below.heap_setCell _ _ _ _ (by simp; omega)]
    exact h.grown.block k hk hne
  · have k := block_setCell (i := j) h.box v
    rw [k, e]
    rfl

theorem drewCut_alloc {w w' : World} {g : Nat} {e : Ending} (h : DrewCut w g e w') (o : Obj) : DrewCut w g e (w'.alloc o) := by
  obtain ⟨mn, bs, mx, rfl, h1, h2, h3, h4, h5⟩ := h
  exact ⟨mn, bs, mx, rfl, h1, h2, h3, h4.below (below_alloc1 _ _), grown_trans h5 (World.grownBy_alloc _ _ _)⟩

set_option maxRecDepth 100000 in
set_option maxHeartbeats 8000000 in
theorem cutting_any (g : Nat) (w : World) (h : SrcAt w g) :
    Calls Try.prog 48 #[.pointer (some ⟨g, 0, none⟩)] w fun e w' => DrewCut w g e w' := by
  have hgl := h.lt
  have HN : Hid (∀ wx (m : Int), m ≤ 9223372036854775807 → SrcAt wx g → Calls Try.prog 32 #[.pointer (some ⟨g, 0, none⟩), .int .i64 m] wx fun e w' => Drew wx g m e w') := mkHid (fun wx m h1 h2 => n_any g m wx h1 h2)
  go_enter Try.func48, Try.ntmps48
  go_wp2_with fail
  have S0 := mkHid (And.intro (h.below (below_alloc1 w (cells3 0 0 0))) (And.intro (World.grownBy_alloc w (cells3 0 0 0) (some g)) (blk_new w (cells3 0 0 0) _ rfl)))
  clear h
  refine (HN.out _ 8 (by omega) S0.out.1).mono ?_
  rintro e w1 ⟨r1, rfl, hr0, hr1, _, hs1, hg1⟩
  have hr1' := hr1 (by omega)
  have S1 := mkHid (And.intro hs1 (And.intro (grown_trans S0.out.2.1 hg1) (blk_grown S0.out.2.2 hg1 (by omega))))
  clear S0 hs1 hg1 hr1
  go_wp2_with fail
  refine (HN.out _ 3 (by omega) S1.out.1).mono ?_
  rintro e w2 ⟨r2, rfl, hq0, hq1, _, hs2, hg2⟩
  have hq1' := hq1 (by omega)
  have k2 := blk_grown S1.out.2.2 hg2 (by omega)
  have hC2 : w.heap.size < w2.heap.size := (Array.getElem?_eq_some_iff.1 k2).1
  have S2 : Hid (Cd w g w2.heap.size (16 + r1) (2 + r2) 0 (w2.alloc (cells3 (16 + r1) (2 + r2) 0))) := mkHid ⟨hs2.below (below_alloc1 w2 _), grown_trans (grown_trans S1.out.2.1 hg2) (World.grownBy_alloc w2 _ _), blk_old k2 _, blk_new w2 _ _ rfl, hC2, hgl⟩
  clear S1 hs2 hg2 k2 hq1
  go_wp2_with fail
  unfold cells3 at S2
  generalize w2.alloc (.cells #[.int .i64 (16 + r1), .int .i64 (2 + r2), .int .i64 0] 29) = W at *
  have S2' : Hid (Cd w g w2.heap.size (16 + r1) (2 + r2) 0 W) := S2
  clear S2
  generalize w2.heap.size = C at *
  obtain ⟨mn, hmn⟩ : ∃ x, x = 16 + r1 := ⟨_, rfl⟩
  obtain ⟨bs, hbs⟩ : ∃ x, x = 2 + r2 := ⟨_, rfl⟩
  rw [← hmn, ← hbs] at S2'
  rw [← hmn, ← hbs]
  have hmn0 : 16 ≤ mn := by omega
  have hmn1 : mn ≤ 24 := by omega
  have hbsS : Sm bs := ⟨by omega, by omega⟩
  have HB := mkHid hbsS
  clear hmn hbs hbsS
  have c0 : W.cell? ⟨C, 0, none⟩ = some (.int .i64 mn) := cell_of_block S2'.out.box 0
  go_region_held3 (fun w' => w'.cell? ⟨C, 0, none⟩ = some (.int .i64 mn)) (first | (go_keep; done) | exact (World.cell?_setCell_other _ _ _ _ (fun e => by injection e; omega)).trans d0)
    ((first | (go_at_call 32; refine Calls.mono (HN.out _ 40 (by omega) (by first | exact S2'.out.src | exact S2'.out.drew.src)) ?_; rintro e w3 ⟨r3, rfl, ht0, ht1, _, hs3, hg3⟩; have ht1' := ht1 (by omega); have S3 := mkHid (S2'.out.drew.draw hs3 ⟨hg3.os, hg3.tape, hg3.output, hg3.size, hg3.block⟩); have d0 : w3.cell? ⟨C, 0, none⟩ = some (.int .i64 mn) := cell_of_block S3.out.box 0; have d2 : w3.cell? ⟨C, 2, none⟩ = some (.int .i64 0) := cell_of_block S3.out.box 2; have df : w3.frozen? ⟨C, 2, none⟩ = false := unfrozen_of_block S3.out.box 2; have hwr : IntKind.i64.wrap (mn + r3) = mn + r3 := (by simp [IntKind.wrap, IntKind.bits, IntKind.signed]; omega); clear hs3 hg3 ht1)))
  have S4 := mkHid (S3.out.setAny 2 (.int .i64 (mn + r3)) mn bs (mn + r3) rfl)
  clear S3 d0 d2 df hwr c0 S2'
  generalize w3.setCell ⟨C, 2, none⟩ (.int .i64 (mn + r3)) = W4 at *
  obtain ⟨mx, hmx⟩ : ∃ x, x = mn + r3 := ⟨_, rfl⟩
  rw [← hmx] at S4
  rw [← hmx]
  have hmx0 : 0 ≤ mx := by omega
  have hmx1 : mx ≤ 70 := by omega
  clear hmx
  -- the end: what is in the box is told
  have HEnd : Hid (∀ (a b c : Int) (wr : World), Cd w g C a b c wr → Sm a → Sm b → Sm c → DrewCut w g (.returned (cutV a b c)) (((wr.setCell ⟨w.heap.size, 0, none⟩ (.int .i64 a)).setCell ⟨w.heap.size, 1, none⟩ (.int .i64 b)).setCell ⟨w.heap.size, 2, none⟩ (.int .i64 c))) := mkHid (fun a b c wr h ha hb hc => by
    have h2 := h.hg
    refine ⟨a, b, c, rfl, ha, hb, hc, src_set (src_set (src_set h.src _ _ (by simpa using h2)) _ _ (by simpa using h2)) _ _ (by simpa using h2), ⟨h.grown.os, h.grown.tape, h.grown.output, by simpa using h.grown.size, fun k hk hne => ?_⟩⟩
    rw [Below.heap_setCell _ _ _ _ (by simp; omega), Below.heap_setCell _ _ _ _ (by simp; omega), Below.heap_setCell _ _ _ _ (by simp; omega)]
    exact h.grown.block k hk hne)
  have HO : Hid (∀ wx, SrcAt wx g → Calls Try.prog 55 #[.pointer (some ⟨g, 0, none⟩), .int .i64 15] wx fun e w' => DrewBool wx g e w') := mkHid (fun wx h2 => one_any g 15 wx (by omega) h2)
  go_wp2_with fail
  refine (HO.out _ S4.out.src).mono ?_
  rintro e w5 ⟨b, rfl, hs5, hg5⟩
  have S5 := mkHid (S4.out.draw hs5 hg5)
  clear hs5 hg5 S4 HO
  cases b with
  | false =>
    have e0 : w5.cell? ⟨C, 0, none⟩ = some (.int .i64 mn) := cell_of_block S5.out.box 0
    have e1 : w5.cell? ⟨C, 1, none⟩ = some (.int .i64 bs) := cell_of_block S5.out.box 1
    have e2 : w5.cell? ⟨C, 2, none⟩ = some (.int .i64 mx) := cell_of_block S5.out.box 2
    have f0 : w5.cell? ⟨w.heap.size, 0, none⟩ = some (.int .i64 0) := cell_of_block S5.out.res 0
    have f1 : w5.cell? ⟨w.heap.size, 1, none⟩ = some (.int .i64 0) := cell_of_block S5.out.res 1
    have f2 : w5.cell? ⟨w.heap.size, 2, none⟩ = some (.int .i64 0) := cell_of_block S5.out.res 2
    have ff : ∀ j, w5.frozen? ⟨w.heap.size, j, none⟩ = false := unfrozen_of_block S5.out.res
    go_wp2
    exact bodyPost_ret (v := cutV mn bs mx) (by simp [results, Try.results48, go_sem, f0, f1, f2, cutV]) rfl (HEnd.out mn bs mx w5 S5.out ⟨by omega, by omega⟩ HB.out ⟨by omega, by omega⟩)
  | true =>
    go_wp2_with fail
    refine (HN.out _ 3 (by omega) S5.out.src).mono ?_
    rintro e w6 ⟨r, rfl, hr0, hr1, _, hs6, hg6⟩
    have hr1' := hr1 (by omega)
    have S6 := mkHid (S5.out.draw hs6 hg6)
    clear hs6 hg6 S5 hr1
    rcases (show r = 0 ∨ r = 1 ∨ r = 2 by omega) with rfl | rfl | rfl
    · go_wp2_with fail
      have S6a := mkHid (S6.out.alloc (.cells #[.int .i64 (15), .int .i64 (16), .int .i64 (1000), .int .i64 (1001)] 2))
      refine (HN.out _ 4 (by omega) S6a.out.src).mono ?_
      rintro e w7 ⟨r4, rfl, hu0, hu1, _, hs7, hg7⟩
      have hu1' := hu1 (by omega)
      have S7 := mkHid (S6a.out.draw hs7 hg7)
      have kr := blk_grown (blk_new w6 (.cells #[.int .i64 (15), .int .i64 (16), .int .i64 (1000), .int .i64 (1001)] 2) _ rfl) hg7 (by have := S6.out.src.lt; omega)
      have q0 : w7.cell? ⟨w6.heap.size, 0, none⟩ = some (.int .i64 (15)) := cell_of_block kr 0
      have q1 : w7.cell? ⟨w6.heap.size, 1, none⟩ = some (.int .i64 (16)) := cell_of_block kr 1
      have q2 : w7.cell? ⟨w6.heap.size, 2, none⟩ = some (.int .i64 (1000)) := cell_of_block kr 2
      have q3 : w7.cell? ⟨w6.heap.size, 3, none⟩ = some (.int .i64 (1001)) := cell_of_block kr 3
      have e0 : w7.cell? ⟨C, 0, none⟩ = some (.int .i64 mn) := cell_of_block S7.out.box 0
      have e1 : w7.cell? ⟨C, 1, none⟩ = some (.int .i64 bs) := cell_of_block S7.out.box 1
      have e2 : w7.cell? ⟨C, 2, none⟩ = some (.int .i64 mx) := cell_of_block S7.out.box 2
      have f0 : w7.cell? ⟨w.heap.size, 0, none⟩ = some (.int .i64 0) := cell_of_block S7.out.res 0
      have f1 : w7.cell? ⟨w.heap.size, 1, none⟩ = some (.int .i64 0) := cell_of_block S7.out.res 1
      have f2 : w7.cell? ⟨w.heap.size, 2, none⟩ = some (.int .i64 0) := cell_of_block S7.out.res 2
      have ff : ∀ j, w7.frozen? ⟨w.heap.size, j, none⟩ = false := unfrozen_of_block S7.out.res
      have fc : ∀ j, w7.frozen? ⟨C, j, none⟩ = false := unfrozen_of_block S7.out.box
      have hne : ¬ C = w.heap.size := by have := S7.out.hC; omega
      have hne' : ¬ w.heap.size = C := by have := S7.out.hC; omega
      clear hs7 hg7 kr S6a S6 hu1
      rcases (show r4 = 0 ∨ r4 = 1 ∨ r4 = 2 ∨ r4 = 3 by omega) with rfl | rfl | rfl | rfl
      · go_wp2
        exact bodyPost_ret (v := cutV (15) (bs) (mx)) (by simp [results, Try.results48, go_sem, f0, f1, f2, cutV]) rfl (HEnd.out (15) (bs) (mx) _ (S7.out.setAny 0 (.int .i64 (15)) _ _ _ rfl) ⟨by omega, by omega⟩ HB.out ⟨by omega, by omega⟩)
      · go_wp2
        exact bodyPost_ret (v := cutV (16) (bs) (mx)) (by simp [results, Try.results48, go_sem, f0, f1, f2, cutV]) rfl (HEnd.out (16) (bs) (mx) _ (S7.out.setAny 0 (.int .i64 (16)) _ _ _ rfl) ⟨by omega, by omega⟩ HB.out ⟨by omega, by omega⟩)
      · go_wp2
        exact bodyPost_ret (v := cutV (1000) (bs) (mx)) (by simp [results, Try.results48, go_sem, f0, f1, f2, cutV]) rfl (HEnd.out (1000) (bs) (mx) _ (S7.out.setAny 0 (.int .i64 (1000)) _ _ _ rfl) ⟨by omega, by omega⟩ HB.out ⟨by omega, by omega⟩)
      · go_wp2
        exact bodyPost_ret (v := cutV (1001) (bs) (mx)) (by simp [results, Try.results48, go_sem, f0, f1, f2, cutV]) rfl (HEnd.out (1001) (bs) (mx) _ (S7.out.setAny 0 (.int .i64 (1001)) _ _ _ rfl) ⟨by omega, by omega⟩ HB.out ⟨by omega, by omega⟩)
    · go_wp2_with fail
      have S6a := mkHid (S6.out.alloc (.cells #[.int .i64 (-1), .int .i64 (0), .int .i64 (12), .int .i64 (13)] 2))
      refine (HN.out _ 4 (by omega) S6a.out.src).mono ?_
      rintro e w7 ⟨r4, rfl, hu0, hu1, _, hs7, hg7⟩
      have hu1' := hu1 (by omega)
      have S7 := mkHid (S6a.out.draw hs7 hg7)
      have kr := blk_grown (blk_new w6 (.cells #[.int .i64 (-1), .int .i64 (0), .int .i64 (12), .int .i64 (13)] 2) _ rfl) hg7 (by have := S6.out.src.lt; omega)
      have q0 : w7.cell? ⟨w6.heap.size, 0, none⟩ = some (.int .i64 (-1)) := cell_of_block kr 0
      have q1 : w7.cell? ⟨w6.heap.size, 1, none⟩ = some (.int .i64 (0)) := cell_of_block kr 1
      have q2 : w7.cell? ⟨w6.heap.size, 2, none⟩ = some (.int .i64 (12)) := cell_of_block kr 2
      have q3 : w7.cell? ⟨w6.heap.size, 3, none⟩ = some (.int .i64 (13)) := cell_of_block kr 3
      have e0 : w7.cell? ⟨C, 0, none⟩ = some (.int .i64 mn) := cell_of_block S7.out.box 0
      have e1 : w7.cell? ⟨C, 1, none⟩ = some (.int .i64 bs) := cell_of_block S7.out.box 1
      have e2 : w7.cell? ⟨C, 2, none⟩ = some (.int .i64 mx) := cell_of_block S7.out.box 2
      have f0 : w7.cell? ⟨w.heap.size, 0, none⟩ = some (.int .i64 0) := cell_of_block S7.out.res 0
      have f1 : w7.cell? ⟨w.heap.size, 1, none⟩ = some (.int .i64 0) := cell_of_block S7.out.res 1
      have f2 : w7.cell? ⟨w.heap.size, 2, none⟩ = some (.int .i64 0) := cell_of_block S7.out.res 2
      have ff : ∀ j, w7.frozen? ⟨w.heap.size, j, none⟩ = false := unfrozen_of_block S7.out.res
      have fc : ∀ j, w7.frozen? ⟨C, j, none⟩ = false := unfrozen_of_block S7.out.box
      have hne : ¬ C = w.heap.size := by have := S7.out.hC; omega
      have hne' : ¬ w.heap.size = C := by have := S7.out.hC; omega
      clear hs7 hg7 kr S6a S6 hu1
      rcases (show r4 = 0 ∨ r4 = 1 ∨ r4 = 2 ∨ r4 = 3 by omega) with rfl | rfl | rfl | rfl
      · go_wp2
        exact bodyPost_ret (v := cutV (mn) (-1) (mx)) (by simp [results, Try.results48, go_sem, f0, f1, f2, cutV]) rfl (HEnd.out (mn) (-1) (mx) _ (S7.out.setAny 1 (.int .i64 (-1)) _ _ _ rfl) ⟨by omega, by omega⟩ ⟨by omega, by omega⟩ ⟨by omega, by omega⟩)
      · go_wp2
        exact bodyPost_ret (v := cutV (mn) (0) (mx)) (by simp [results, Try.results48, go_sem, f0, f1, f2, cutV]) rfl (HEnd.out (mn) (0) (mx) _ (S7.out.setAny 1 (.int .i64 (0)) _ _ _ rfl) ⟨by omega, by omega⟩ ⟨by omega, by omega⟩ ⟨by omega, by omega⟩)
      · go_wp2
        exact bodyPost_ret (v := cutV (mn) (12) (mx)) (by simp [results, Try.results48, go_sem, f0, f1, f2, cutV]) rfl (HEnd.out (mn) (12) (mx) _ (S7.out.setAny 1 (.int .i64 (12)) _ _ _ rfl) ⟨by omega, by omega⟩ ⟨by omega, by omega⟩ ⟨by omega, by omega⟩)
      · go_wp2
        exact bodyPost_ret (v := cutV (mn) (13) (mx)) (by simp [results, Try.results48, go_sem, f0, f1, f2, cutV]) rfl (HEnd.out (mn) (13) (mx) _ (S7.out.setAny 1 (.int .i64 (13)) _ _ _ rfl) ⟨by omega, by omega⟩ ⟨by omega, by omega⟩ ⟨by omega, by omega⟩)
    · have e0 : w6.cell? ⟨C, 0, none⟩ = some (.int .i64 mn) := cell_of_block S6.out.box 0
      have hw1 : IntKind.i64.wrap (mn - 1) = mn - 1 := by simp [IntKind.wrap, IntKind.bits, IntKind.signed]; omega
      have hC6 : C < w6.heap.size := (Array.getElem?_eq_some_iff.1 S6.out.box).1
      have hg6 : g < w6.heap.size := by have := S6.out.hC; omega
      have ROW : ∀ n4 : Nat, n4 < 4 → ∃ v4, Sm v4 ∧ (#[.int .i64 (mn - 1), .int .i64 mn, .int .i64 2000, .int .i64 2001] : Array Value)[n4]? = some (.int .i64 v4) := by
        intro n4 h4
        match n4, h4 with
        | 0, _ => exact ⟨mn - 1, ⟨by omega, by omega⟩, rfl⟩
        | 1, _ => exact ⟨mn, ⟨by omega, by omega⟩, rfl⟩
        | 2, _ => exact ⟨2000, ⟨by omega, by omega⟩, rfl⟩
        | 3, _ => exact ⟨2001, ⟨by omega, by omega⟩, rfl⟩
      have HRow := mkHid ROW
      clear ROW
      go_wp2_with fail
      have hne : ¬ C = w.heap.size := by have := S6.out.hC; omega
      have hne' : ¬ w.heap.size = C := by have := S6.out.hC; omega
      go_region_with
        ((first
          | (go_at_call 32; refine Calls.mono (HN.out _ 4 (by omega) (by first | exact (S6.out.alloc _).src | exact (S6.out.alloc _).drew.src | exact (S6.out.drew.alloc _).src)) ?_; rintro e w7 ⟨r4, rfl, hu0, hu1, _, hs7, hg7⟩; have hu1' := hu1 (by omega); obtain ⟨n4, rfl⟩ := Int.eq_ofNat_of_zero_le hu0; obtain ⟨v4, hv4, hrow4⟩ := HRow.out n4 (by omega); have HV := mkHid hv4;  have S7 := mkHid ((S6.out.alloc (.cells #[.int .i64 (mn - 1), .int .i64 mn, .int .i64 2000, .int .i64 2001] 2)).draw hs7 ⟨hg7.os, hg7.tape, hg7.output, hg7.size, hg7.block⟩); have kr := blk_grown (blk_new w6 (.cells #[.int .i64 (mn - 1), .int .i64 mn, .int .i64 2000, .int .i64 2001] 2) _ rfl) (⟨hg7.os, hg7.tape, hg7.output, hg7.size, hg7.block⟩ : (w6.alloc (.cells #[.int .i64 (mn - 1), .int .i64 mn, .int .i64 2000, .int .i64 2001] 2)).grownBy w7 (some g)) (by omega); have q4 : w7.cell? ⟨w6.heap.size, n4, none⟩ = some (.int .i64 v4) := (cell_of_block kr n4).trans hrow4; have e0' : w7.cell? ⟨C, 0, none⟩ = some (.int .i64 mn) := cell_of_block S7.out.box 0; have e1' : w7.cell? ⟨C, 1, none⟩ = some (.int .i64 bs) := cell_of_block S7.out.box 1; have e2' : w7.cell? ⟨C, 2, none⟩ = some (.int .i64 mx) := cell_of_block S7.out.box 2; have f0 : w7.cell? ⟨w.heap.size, 0, none⟩ = some (.int .i64 0) := cell_of_block S7.out.res 0; have f1 : w7.cell? ⟨w.heap.size, 1, none⟩ = some (.int .i64 0) := cell_of_block S7.out.res 1; have f2 : w7.cell? ⟨w.heap.size, 2, none⟩ = some (.int .i64 0) := cell_of_block S7.out.res 2; have ff : ∀ j, w7.frozen? ⟨w.heap.size, j, none⟩ = false := unfrozen_of_block S7.out.res; have fc : ∀ j, w7.frozen? ⟨C, j, none⟩ = false := unfrozen_of_block S7.out.box; have hC7 : C < w7.heap.size := (Array.getElem?_eq_some_iff.1 S7.out.box).1; have hw7 : w.heap.size < w7.heap.size := (Array.getElem?_eq_some_iff.1 S7.out.res).1;  clear hs7 hg7 kr hu1 hv4)
          | (go_at_call 32; refine Calls.mono (HN.out _ 4 (by omega) (by first | exact S6.out.src | exact S6.out.drew.src)) ?_; rintro e w7 ⟨r4, rfl, hu0, hu1, _, hs7, hg7⟩; have hu1' := hu1 (by omega); obtain ⟨n4, rfl⟩ := Int.eq_ofNat_of_zero_le hu0; obtain ⟨v4, hv4, hrow4⟩ := HRow.out n4 (by omega); have HV := mkHid hv4;  have S7 := mkHid (S6.out.drew.draw hs7 ⟨hg7.os, hg7.tape, hg7.output, hg7.size, hg7.block⟩); have e0' : w7.cell? ⟨C, 0, none⟩ = some (.int .i64 mn) := cell_of_block S7.out.box 0; have e1' : w7.cell? ⟨C, 1, none⟩ = some (.int .i64 bs) := cell_of_block S7.out.box 1; have e2' : w7.cell? ⟨C, 2, none⟩ = some (.int .i64 mx) := cell_of_block S7.out.box 2; have f0 : w7.cell? ⟨w.heap.size, 0, none⟩ = some (.int .i64 0) := cell_of_block S7.out.res 0; have f1 : w7.cell? ⟨w.heap.size, 1, none⟩ = some (.int .i64 0) := cell_of_block S7.out.res 1; have f2 : w7.cell? ⟨w.heap.size, 2, none⟩ = some (.int .i64 0) := cell_of_block S7.out.res 2; have ff : ∀ j, w7.frozen? ⟨w.heap.size, j, none⟩ = false := unfrozen_of_block S7.out.res; have fc : ∀ j, w7.frozen? ⟨C, j, none⟩ = false := unfrozen_of_block S7.out.box; have hC7 : C < w7.heap.size := (Array.getElem?_eq_some_iff.1 S7.out.box).1; have hw7 : w.heap.size < w7.heap.size := (Array.getElem?_eq_some_iff.1 S7.out.res).1;  clear hs7 hg7 hu1 hv4)))
      all_goals go_wp2
      all_goals refine bodyPost_ret (v := cutV mn bs v4) (by simp [results, Try.results48, go_sem, f0, f1, f2, cutV, hw7]) rfl ?_
      all_goals try (with_reducible refine drewCut_alloc ?_ _)
      all_goals exact HEnd.out mn bs v4 _ (S7.out.setAny 2 (.int .i64 v4) _ _ _ rfl) ⟨by omega, by omega⟩ HB.out HV.out
end Go.Proofs.Ytbdkpcgmnppkgaa.draw
