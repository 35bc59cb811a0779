/-
  A text in which parts come again, and a cutting beside it, that are drawn: (*l01Src).l06Text, spec.DrawCutAt, DrawPieces: what they answer and leave. Conditions: the bytes lie in memory and are at most 1,048,576.
-/
import Derived.Test.YtbdkpcgmnppkgaaCutDraw
namespace Go.Proofs.Ytbdkpcgmnppkgaa.draw
open Go.RowKit Go.Joins
open Go.Proofs.Ytbdkpcgmnppkgaa.base Go.Proofs.Ytbdkpcgmnppkgaa.blk
open Go.Proofs.Ytbdkpcgmnppkgaa.fing (cutV)
set_option linter.unusedVariables false

def again : ByteArray := ⟨#[116, 104, 101, 32, 115, 97, 109, 101, 32, 119, 111, 114, 100, 115, 32, 97, 103, 97, 105, 110, 44, 32, 97, 110, 100, 32, 97, 103, 97, 105, 110, 59, 32]⟩
/-- the words of a text -/
def wordsV (a b c : ByteArray) : Array Value := #[.string a, .string b, .string again, .string c]
theorem words_at {a b c : ByteArray} (ha : a.size ≤ 45) (hb : b.size ≤ 45) (hc : c.size ≤ 45) (n : Nat) (h : n < 4) : ∃ x : ByteArray, x.size ≤ 45 ∧ (wordsV a b c)[n]? = some (.string x) := by
  match n, h with
  | 0, _ => exact ⟨a, ha, rfl⟩
  | 1, _ => exact ⟨b, hb, rfl⟩
  | 2, _ => exact ⟨again, by decide, rfl⟩
  | 3, _ => exact ⟨c, hc, rfl⟩
structure Tx (w : World) (g R : Nat) (row : Obj) (wr : World) : Prop where
  src : SrcAt wr g
  grown : w.grownBy wr (some g)
  rw : wr.heap[R]? = some row
  hR : g < R
theorem Tx.draw {w wr w' : World} {g R : Nat} {row : Obj} (h : Tx w g R row wr) (hs : SrcAt w' g) (hg : wr.grownBy w' (some g)) : Tx w g R row w' :=
  ⟨hs, grown_trans h.grown hg, blk_grown h.rw hg (by have := h.hR; omega), h.hR⟩

set_option maxRecDepth 100000 in
set_option maxHeartbeats 2000000 in
theorem text_any (g : Nat) (w : World) (h : SrcAt w g) :
    Calls Try.prog 49 #[.pointer (some ⟨g, 0, none⟩)] w fun e w' => DrewText w g 700 e w' := by
  have hgl := h.lt
  have HN : Hid (∀ wx (m : Int), m ≤ 9223372036854775807 → SrcAt wx g → Calls Try.prog 32 #[.pointer (some ⟨g, 0, none⟩), .int .i64 m] wx fun e w' => Drew wx g m e w') := mkHid (fun wx m h1 h2 => n_any g m wx h1 h2)
  have HB1 : Hid (∀ wx, SrcAt wx g → Calls Try.prog 31 #[.pointer (some ⟨g, 0, none⟩), .int .i64 20] wx fun e w' => DrewText wx g 20 e w') := mkHid (fun wx h2 => bytes_any g 20 wx (by omega) h2)
  have HB2 : Hid (∀ wx, SrcAt wx g → Calls Try.prog 31 #[.pointer (some ⟨g, 0, none⟩), .int .i64 45] wx fun e w' => DrewText wx g 45 e w') := mkHid (fun wx h2 => bytes_any g 45 wx (by omega) h2)
  have HB3 : Hid (∀ wx, SrcAt wx g → Calls Try.prog 31 #[.pointer (some ⟨g, 0, none⟩), .int .i64 7] wx fun e w' => DrewText wx g 7 e w') := mkHid (fun wx h2 => bytes_any g 7 wx (by omega) h2)
  have S0 := mkHid h
  clear h
  go_enter Try.func49, Try.ntmps49
  go_wp2_with fail
  refine (HB1.out _ S0.out).mono ?_
  rintro e w1 ⟨ta, rfl, ha, hs1, hg1⟩
  have S1 := mkHid (And.intro hs1 hg1)
  clear hs1 hg1 S0 HB1
  go_wp2_with fail
  refine (HB2.out _ S1.out.1).mono ?_
  rintro e w2 ⟨tb, rfl, hb, hs2, hg2⟩
  have S2 := mkHid (And.intro hs2 (grown_trans S1.out.2 hg2))
  clear hs2 hg2 S1 HB2
  go_wp2_with fail
  refine (HB3.out _ S2.out.1).mono ?_
  rintro e w3 ⟨tc, rfl, hc, hs3, hg3⟩
  have S3 : Hid (Tx w g w3.heap.size (.cells (wordsV ta tb tc) 9) (w3.alloc (.cells (wordsV ta tb tc) 9))) := mkHid ⟨hs3.below (below_alloc1 w3 _), grown_trans (grown_trans S2.out.2 hg3) (World.grownBy_alloc w3 _ _), blk_new w3 _ _ rfl, hs3.lt⟩
  have HW := mkHid (fun n h => words_at (a := ta) (b := tb) (c := tc) (by omega) hb (by omega) n h)
  clear hs3 hg3 S2 HB3
  obtain ⟨z, hz0, hz1, hzc⟩ : ∃ z : Int, 0 ≤ z ∧ z ≤ 12 ∧ (w3.alloc (.cells (wordsV ta tb tc) 9)).cell? ⟨g, 3, none⟩ = some (.int .i64 z) := by
    obtain ⟨a, len, cap, p, m, z, hh, _, _, _, _, _, h1, h2, _⟩ := S3.out.src
    exact ⟨z, h1, h2, cell_of_block hh 3⟩
  unfold wordsV again at hzc S3
  go_wp2_with fail
  refine (HN.out _ (4 + z) (by omega) S3.out.src).mono ?_
  rintro e w4 ⟨r, rfl, hr0, hr1, _, hs4, hg4⟩
  have hr1' := hr1 (by omega)
  obtain ⟨k0, rfl⟩ := Int.eq_ofNat_of_zero_le hr0
  have hk0 : k0 ≤ 15 := by omega
  have S4 := mkHid (S3.out.draw hs4 hg4)
  clear hs4 hg4 S3 hzc hr0 hr1 hr1'
  have S4' : Hid (Tx w g w3.heap.size (.cells (wordsV ta tb tc) 9) w4) := S4
  clear S4
  generalize w3.heap.size = R at *
  go_wp2
  go_loopw [3, 5] (fun v i wr => ∃ (k : Nat) (t : ByteArray), k ≤ 15 ∧ i = .int .i64 k ∧ v = .string t ∧ Hid (t.size + 45 * k ≤ 675) ∧ Hid (Tx w g R (.cells (wordsV ta tb tc) 9) wr))
    (fun _ i _ => (intOf i).toNat)
  case atStart => exact ⟨k0, ⟨#[]⟩, hk0, rfl, rfl, mkHid (by show 0 + 45 * k0 ≤ 675; omega), S4'⟩
  case round =>
    clear S4'
    obtain ⟨k, t, hk, rfl, rfl, ht, hS⟩ := hrel
    by_cases hlt : 0 < k
    · have hki : 0 < (k : Int) := by omega
      have hki2 : (k : Int) ≤ 15 := by omega
      have hti : (t.size : Int) ≤ 675 := by have := ht.out; omega
      go_wp2_with fail
      refine (HN.out _ 4 (by omega) hS.out.src).mono ?_
      rintro e w5 ⟨r, rfl, hr0, hr1, _, hs5, hg5⟩
      have hr1' := hr1 (by omega)
      obtain ⟨n4, rfl⟩ := Int.eq_ofNat_of_zero_le hr0
      obtain ⟨x, hx, hrow⟩ := HW.out n4 (by omega)
      have S5 := mkHid (hS.out.draw hs5 hg5)
      have hc : w5.cell? ⟨R, n4, none⟩ = some (.string x) := (cell_of_block S5.out.rw n4).trans hrow
      have hxi : (x.size : Int) ≤ 45 := by omega
      have hn4 : (n4 : Int) < 4 := by omega
      have N1 : Hid ((t ++ x).size + 45 * (k - 1) ≤ 675) := mkHid (by have := ht.out; simp; omega)
      clear hs5 hg5 hS hr0 hr1 hr1' hrow ht hx
      go_wp2
      go_roundw
      case rel => exact ⟨k - 1, t ++ x, by omega, by go_num, rfl, N1, S5⟩
      case measure => simp [intOf]; omega
    · have hk00 : k = 0 := by omega
      subst hk00
      go_wp2
      go_ret
      exact ⟨t, rfl, by have := ht.out; omega, hS.out.src, hS.out.grown⟩

/-- a cutting and a text -/
def DPieces (w : World) (e : Ending) (w' : World) : Prop :=
  ∃ (mn bs mx : Int) (t : ByteArray), e = .returned (.tuple #[cutV mn bs mx, .string t]) ∧ Sm mn ∧ Sm bs ∧ Sm mx ∧ t.size ≤ 700 ∧ Below w.heap.size w w'

structure Dc (w : World) (wr : World) : Prop where
  below : Below w.heap.size w wr
  res : wr.heap[w.heap.size]? = some (cells3 0 0 0)
  src : SrcAt wr (w.heap.size + 1)
theorem Dc.draw {w wr w' : World} (h : Dc w wr) (hs : SrcAt w' (w.heap.size + 1)) (hg : wr.grownBy w' (some (w.heap.size + 1))) : Dc w w' :=
  ⟨h.below.trans (grown_below hg (by omega) h.below.size), blk_grown h.res hg (by omega), hs⟩
theorem Dc.alloc {w wr : World} (h : Dc w wr) (o : Obj) : Dc w (wr.alloc o) := ⟨h.below.alloc h.below.size o, blk_old h.res o, h.src.below (below_alloc1 _ _)⟩

set_option maxRecDepth 100000 in
set_option maxHeartbeats 2000000 in
theorem drawCutAt_any (a : Option Addr) (len cap : Nat) (w : World) (hl : len ≤ 1048576) (hr : Row w a len) :
    Calls Try.prog 37 #[.slice a len cap] w fun e w' => DPieces w e w' := by
  have HS := mkHid (source_any a len cap (w.alloc (cells3 0 0 0)) hl (hr.below (below_alloc1 w _)))
  have HC : Hid (∀ wx, SrcAt wx (w.heap.size + 1) → Calls Try.prog 48 #[.pointer (some ⟨w.heap.size + 1, 0, none⟩)] wx fun e w' => DrewCut wx (w.heap.size + 1) e w') := mkHid (fun wx h => cutting_any _ wx h)
  have HT : Hid (∀ wx, SrcAt wx (w.heap.size + 1) → Calls Try.prog 49 #[.pointer (some ⟨w.heap.size + 1, 0, none⟩)] wx fun e w' => DrewText wx (w.heap.size + 1) 700 e w') := mkHid (fun wx h => text_any _ wx h)
  clear hr
  go_enter Try.func37, Try.ntmps37
  go_wp2_with fail
  refine HS.out.mono ?_
  rintro e w1 ⟨rfl, hs1, hb1⟩
  have hsz : (w.alloc (cells3 0 0 0)).heap.size = w.heap.size + 1 := by simp
  rw [hsz] at hs1 hb1 ⊢
  have S1 : Hid (Dc w w1) := mkHid ⟨(below_alloc1 w _).trans (hb1.mono (by omega)), (hb1.block w.heap.size (by omega)).trans (blk_new w _ _ rfl), hs1⟩
  clear hs1 hb1 hsz HS
  go_wp2_with fail
  refine (HC.out _ S1.out.src).mono ?_
  rintro e w2 ⟨mn, bs, mx, rfl, h1, h2, h3, hs2, hg2⟩
  have S2 := mkHid (S1.out.draw hs2 hg2)
  have HM := mkHid (And.intro h1 (And.intro h2 h3))
  clear hs2 hg2 S1 h1 h2 h3 HC
  unfold cutV
  go_wp2_with fail
  have S3 := mkHid (S2.out.alloc (cells3 mn bs mx))
  have k3 := blk_new w2 (cells3 mn bs mx) _ rfl
  unfold cells3 at S3 k3
  have hC : w.heap.size + 1 < w2.heap.size := S2.out.src.lt
  generalize w2.alloc (.cells #[.int .i64 mn, .int .i64 bs, .int .i64 mx] 29) = W3 at *
  generalize w2.heap.size = C at *
  clear S2
  have K3 := mkHid k3
  have c0 : W3.cell? ⟨C, 0, none⟩ = some (.int .i64 mn) := cell_of_block k3 0
  have c1 : W3.cell? ⟨C, 1, none⟩ = some (.int .i64 bs) := cell_of_block k3 1
  have c2 : W3.cell? ⟨C, 2, none⟩ = some (.int .i64 mx) := cell_of_block k3 2
  have hne : ¬ C = w.heap.size := by omega
  have hne' : ¬ w.heap.size = C := by omega
  clear k3
  go_region_held3 (fun w' => w'.cell? ⟨C, 0, none⟩ = some (.int .i64 mn) ∧ w'.cell? ⟨C, 1, none⟩ = some (.int .i64 bs) ∧ w'.cell? ⟨C, 2, none⟩ = some (.int .i64 mx)) (go_keep)
    ((first | (go_at_call 49; refine Calls.mono (HT.out _ (by exact S3.out.src)) ?_; rintro e w4 ⟨t, rfl, ht, hs4, hg4⟩; have hg4' : W3.grownBy w4 (some (w.heap.size + 1)) := ⟨hg4.os, hg4.tape, hg4.output, hg4.size, hg4.block⟩; have S4 := mkHid (S3.out.draw hs4 hg4'); have k4 := blk_grown K3.out hg4' (by omega); have d0 : w4.cell? ⟨C, 0, none⟩ = some (.int .i64 mn) := cell_of_block k4 0; have d1 : w4.cell? ⟨C, 1, none⟩ = some (.int .i64 bs) := cell_of_block k4 1; have d2 : w4.cell? ⟨C, 2, none⟩ = some (.int .i64 mx) := cell_of_block k4 2; have f0 : w4.cell? ⟨w.heap.size, 0, none⟩ = some (.int .i64 0) := cell_of_block S4.out.res 0; have f1 : w4.cell? ⟨w.heap.size, 1, none⟩ = some (.int .i64 0) := cell_of_block S4.out.res 1; have f2 : w4.cell? ⟨w.heap.size, 2, none⟩ = some (.int .i64 0) := cell_of_block S4.out.res 2; have ff : ∀ j, w4.frozen? ⟨w.heap.size, j, none⟩ = false := unfrozen_of_block S4.out.res; have HTT := mkHid ht; clear hs4 hg4 hg4' k4 ht)))
  go_wp2
  exact bodyPost_ret (v := .tuple #[cutV mn bs mx, .string t]) (by simp [results, Try.results37, go_sem, f0, f1, f2, cutV]) rfl ⟨mn, bs, mx, t, rfl, HM.out.1, HM.out.2.1, HM.out.2.2, HTT.out, ((S4.out.below.setCell (by simp) _).setCell (by simp) _).setCell (by simp) _⟩

set_option maxRecDepth 100000 in
set_option maxHeartbeats 2000000 in
theorem drawPieces_any (a : Option Addr) (len cap : Nat) (w : World) (hl : len ≤ 1048576) (hr : Row w a len) :
    Calls Try.prog 16 #[.slice a len cap] w fun e w' => DPieces w e w' := by
  have HD := mkHid (drawCutAt_any a len cap (w.alloc (cells3 0 0 0)) hl (hr.below (below_alloc1 w _)))
  clear hr
  go_enter Try.func16, Try.ntmps16
  go_wp2_with fail
  refine HD.out.mono ?_
  rintro e w1 ⟨mn, bs, mx, t, rfl, h1, h2, h3, ht, hb1⟩
  have k1 := blk_below (blk_new w (cells3 0 0 0) _ rfl) hb1
  have f0 : w1.cell? ⟨w.heap.size, 0, none⟩ = some (.int .i64 0) := cell_of_block k1 0
  have f1 : w1.cell? ⟨w.heap.size, 1, none⟩ = some (.int .i64 0) := cell_of_block k1 1
  have f2 : w1.cell? ⟨w.heap.size, 2, none⟩ = some (.int .i64 0) := cell_of_block k1 2
  have ff : ∀ j, w1.frozen? ⟨w.heap.size, j, none⟩ = false := unfrozen_of_block k1
  have HM := mkHid (And.intro (below_allocs (os := [_]) hb1) (And.intro h1 (And.intro h2 (And.intro h3 ht))))
  clear hb1 k1 h1 h2 h3 ht HD
  unfold cutV
  go_wp2
  exact bodyPost_ret (v := .tuple #[cutV mn bs mx, .string t]) (by simp [results, Try.results16, go_sem, f0, f1, f2, cutV]) rfl ⟨mn, bs, mx, t, rfl, HM.out.2.1, HM.out.2.2.1, HM.out.2.2.2.1, HM.out.2.2.2.2, ((HM.out.1.setCell (by simp) _).setCell (by simp) _).setCell (by simp) _⟩
end Go.Proofs.Ytbdkpcgmnppkgaa.draw
