/-
  laws.FnExactMatrixRight answers true at every matrix, and nothing that was there turns. No condition.
-/
import Derived.Test.YtoklibbefjnlhabRight
import Derived.ChangeOld
import Derived.Deep.RegionWith
namespace Go.Proofs.Ytoklibbefjnlhab.fnExactMatrixRight
open Go.RowKit Go.Joins
open Go.Proofs.Ytoklibbefjnlhab.base Go.Proofs.Ytoklibbefjnlhab.ints Go.Proofs.Ytoklibbefjnlhab.mats Go.Proofs.Ytoklibbefjnlhab.right
set_option linter.unusedVariables false

theorem undrew {w w' : World} (h : Below w.drew.heap.size w.drew w') : Below w.heap.size w w' := ⟨h.os, h.tape, h.output, h.size, h.block⟩

set_option maxRecDepth 100000 in
set_option maxHeartbeats 2000000 in
theorem walk_in (R C : Int) (a : Option Addr) (cap : Nat) (xs : List Int) (w : World) (hl : xs.length ≤ 1048576) (hr : Rd w a xs) :
    Calls Try.prog 3 #[mat R C a xs.length cap] w fun e w' => e = .returned (.bool true) ∧ Below w.heap.size w w' := by
  have HT : Hid (∀ wx, Below w.heap.size w wx → Calls Try.prog 7 #[.agg #[.int .i64 R, .int .i64 C, .slice a xs.length cap]] wx fun e w' => e = .returned (.agg #[.int .i64 R, .int .i64 C, .slice (some ⟨wx.heap.size + 3, 0, none⟩) xs.length xs.length]) ∧ Own w' (wx.heap.size + 3) xs ∧ Below wx.heap.size wx w') :=
    mkHid (fun wx hb => toM_any R C a cap xs wx hl (hr.below hb))
  unfold mat
  go_enter Try.func3, Try.ntmps3
  go_wp2_with fail
  refine (szM_any R C a xs.length cap _ _ (by omega) (by omega) (by omega)).mono ?_
  rintro e w1 ⟨rfl, hb1⟩
  rw [if_neg (by omega)]
  have k1 := blk_below (blk_new w _ w.heap.size rfl) hb1
  have B1 := mkHid (And.intro (below_allocs (os := [_]) hb1) k1)
  have c0 : w1.cell? ⟨w.heap.size, 0, none⟩ = some (.int .i64 R) := cell_of_block k1 0
  have c1 : w1.cell? ⟨w.heap.size, 1, none⟩ = some (.int .i64 C) := cell_of_block k1 1
  have c2 : w1.cell? ⟨w.heap.size, 2, none⟩ = some (.slice a xs.length cap) := cell_of_block k1 2
  have h0 : 0 ≤ 1048576 - (xs.length : Int) := by omega
  clear k1 hb1 hr
  go_wp2_with fail
  refine (HT.out _ B1.out.1).mono ?_
  rintro e w2 ⟨rfl, ho2, hb2⟩
  have B2 := mkHid (And.intro (B1.out.1.trans (hb2.mono B1.out.1.size)) (blk_below B1.out.2 hb2))
  have O2 := mkHid ho2
  clear hb2 ho2 B1 c0 c1 c2
  go_wp2_with fail
  refine (spec_any R C _ _ xs _ hl O2.out.rd).mono ?_
  rintro e w3 ⟨rfl, hb3⟩
  have k3 := blk_below B2.out.2 hb3
  have B3 := mkHid (And.intro (B2.out.1.trans (hb3.mono B2.out.1.size)) k3)
  have c0 : w3.cell? ⟨w.heap.size, 0, none⟩ = some (.int .i64 R) := cell_of_block k3 0
  have c1 : w3.cell? ⟨w.heap.size, 1, none⟩ = some (.int .i64 C) := cell_of_block k3 1
  have c2 : w3.cell? ⟨w.heap.size, 2, none⟩ = some (.slice a xs.length cap) := cell_of_block k3 2
  clear hb3 O2 B2 k3
  go_wp2_with fail
  refine (HT.out _ B3.out.1).mono ?_
  rintro e w4 ⟨rfl, ho4, hb4⟩
  have B4 := mkHid (And.intro (B3.out.1.trans (hb4.mono B3.out.1.size)) (And.intro (blk_below B3.out.2 hb4) ho4))
  clear hb4 ho4 B3 c0 c1 c2
  go_wp2_with fail
  refine (impl_any R C _ _ xs _ hl (B4.out.2.2.rd.alloc _)).mono ?_
  rintro e w5 ⟨rfl, hb5⟩
  have k5 := blk_below (blk_old B4.out.2.1 _) hb5
  have j5 := blk_below (blk_new w4 _ w4.heap.size rfl) hb5
  have o5 : Own w5 (w3.heap.size + 3) xs := blk_below (blk_old B4.out.2.2 _) hb5
  have b5 := B4.out.1.trans ((below_allocs (os := [_]) hb5).mono B4.out.1.size)
  have hlt : w4.heap.size < w5.heap.size := (Array.getElem?_eq_some_iff.1 j5).1
  have hwlt : w.heap.size < w5.heap.size := (Array.getElem?_eq_some_iff.1 k5).1
  have B5 := mkHid (And.intro b5 (And.intro k5 (And.intro j5 o5)))
  have c0 : w5.cell? ⟨w.heap.size, 0, none⟩ = some (.int .i64 R) := cell_of_block k5 0
  have c1 : w5.cell? ⟨w.heap.size, 1, none⟩ = some (.int .i64 C) := cell_of_block k5 1
  have c2 : w5.cell? ⟨w.heap.size, 2, none⟩ = some (.slice a xs.length cap) := cell_of_block k5 2
  have d0 : w5.cell? ⟨w4.heap.size, 0, none⟩ = some (.int .i64 R) := cell_of_block j5 0
  have d1 : w5.cell? ⟨w4.heap.size, 1, none⟩ = some (.int .i64 C) := cell_of_block j5 1
  have d2 : w5.cell? ⟨w4.heap.size, 2, none⟩ = some (.slice (some ⟨w3.heap.size + 3, 0, none⟩) xs.length xs.length) := cell_of_block j5 2
  clear hb5 B4 k5 j5 o5 b5
  generalize right R C xs = r at *
  have HE : Hid (∀ wx g h ca cb, Own wx g xs → Own wx h xs → Calls Try.prog 9 #[.agg #[.int .i64 R, .int .i64 C, .slice (some ⟨g, 0, none⟩) xs.length ca], .agg #[.int .i64 R, .int .i64 C, .slice (some ⟨h, 0, none⟩) xs.length cb]] wx fun e w' => e = .returned (.bool true) ∧ Below wx.heap.size wx w') :=
    mkHid (fun wx g h ca cb hg hh => (eqM_any R C R C _ _ ca cb xs xs wx hl hl hg.rd hh.rd).mono (by rintro e w' ⟨rfl, hb⟩; exact ⟨ret_eq (by simp), hb⟩))
  go_wp2_with fail
  first | go_region_with (first | (go_at_call 7; refine (HT.out _ (by repeat (first | exact B5.out.1 | apply Below.drew))).mono ?_; rintro e w6 ⟨rfl, ho6, hb6⟩; have b6 : Below w5.heap.size w5 w6 := ⟨hb6.os, hb6.tape, hb6.output, hb6.size, hb6.block⟩; have j6 := blk_below B5.out.2.2.1 b6; have O6 := mkHid (And.intro (Own.below B5.out.2.2.2 b6) ho6); have L6 := mkHid (B5.out.1.trans (b6.mono B5.out.1.size)); have e0 : w6.cell? ⟨w4.heap.size, 0, none⟩ = some (.int .i64 R) := cell_of_block j6 0; have e1 : w6.cell? ⟨w4.heap.size, 1, none⟩ = some (.int .i64 C) := cell_of_block j6 1; have e2 : w6.cell? ⟨w4.heap.size, 2, none⟩ = some (.slice (some ⟨w3.heap.size + 3, 0, none⟩) xs.length xs.length) := cell_of_block j6 2; clear hb6 b6 j6 ho6) | (go_at_call 9; refine (HE.out _ _ _ _ _ O6.out.1 O6.out.2).mono ?_; rintro e w7 ⟨rfl, hb7⟩)) | fail
  all_goals
    have L7 := mkHid (L6.out.trans (Below.mono ⟨hb7.os, hb7.tape, hb7.output, hb7.size, hb7.block⟩ L6.out.size))
    clear hb7
    go_wp2
    go_ret
    exact ⟨rfl, L7.out⟩

end Go.Proofs.Ytoklibbefjnlhab.fnExactMatrixRight
