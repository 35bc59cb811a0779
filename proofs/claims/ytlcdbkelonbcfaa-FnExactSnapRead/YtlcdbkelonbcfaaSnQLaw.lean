/-
  laws.FnExactSnapRead answers true at every text, and leaves what was there as it was. No condition.
-/
import Derived.Test.YtlcdbkelonbcfaaSnI
namespace Go.Proofs.Ytlcdbkelonbcfaa.snp
open Go.RowKit Go.Joins
open Go.Proofs.Ytlcdbkelonbcfaa.base Go.Proofs.Ytlcdbkelonbcfaa.blk Go.Proofs.Ytlcdbkelonbcfaa.aid
set_option linter.unusedVariables false
set_option linter.unusedSimpArgs false

set_option maxRecDepth 100000 in
set_option maxHeartbeats 1000000 in
theorem eqSnap_same (n : ByteArray) (d : Int) (r : ByteArray) (w : World) :
    Calls Try.prog 59 #[.agg #[.string n, .int .i64 d, .string r], .agg #[.string n, .int .i64 d, .string r]] w fun e w' => e = .returned (.bool true) ∧ Below w.heap.size w w' := by
  have hn : (n.toList != n.toList) = false := by simp
  have hr : (r.toList != r.toList) = false := by simp
  have hd : (d != d) = false := by simp
  go_enter Try.func59, Try.ntmps59
  go_wp2
  go_ret
  exact ⟨rfl, rwPlace.below2 _ _ _⟩
set_option maxRecDepth 100000 in
set_option maxHeartbeats 1000000 in
theorem eqOut_same (n : ByteArray) (d : Int) (r : ByteArray) (c : Int) (w : World) :
    Calls Try.prog 31 #[.agg #[.string n, .int .i64 d, .string r, .int .i64 c], .agg #[.string n, .int .i64 d, .string r, .int .i64 c]] w fun e w' => e = .returned (.bool true) ∧ Below w.heap.size w w' := by
  have hc : (c != c) = false := by simp
  have HE := mkHid (fun wx => eqSnap_same n d r wx)
  have b1 := mkHid (blk_old (blk_new w (.cells #[.string n, .int .i64 d, .string r, .int .i64 c] 58) w.heap.size rfl) (.cells #[.string n, .int .i64 d, .string r, .int .i64 c] 58))
  have b2 := mkHid (blk_new (w.alloc (.cells #[.string n, .int .i64 d, .string r, .int .i64 c] 58)) (.cells #[.string n, .int .i64 d, .string r, .int .i64 c] 58) (w.heap.size + 1) (by simp))
  have B0 := mkHid (rwPlace.below2 w (.cells #[.string n, .int .i64 d, .string r, .int .i64 c] 58) (.cells #[.string n, .int .i64 d, .string r, .int .i64 c] 58))
  go_enter Try.func31, Try.ntmps31
  go_wp2_with fail
  refine (HE.out _).mono ?_
  rintro e w1 ⟨rfl, hb⟩
  have F := mkHid (below_trans B0.out hb)
  obtain ⟨c0, c1, c2, c3⟩ := cel4 (blk_below b1.out hb)
  obtain ⟨d0, d1, d2, d3⟩ := cel4 (blk_below b2.out hb)
  clear hb b1 b2 B0 HE
  go_wp2
  go_ret
  exact ⟨rfl, F.out⟩
set_option maxRecDepth 100000 in
set_option maxHeartbeats 1000000 in
theorem read_walk (s : ByteArray) (w : World) (hs : (s.size : Int) ≤ 9223372036854775807) :
    Calls Try.prog 7 #[.string s] w fun e w' => e = .returned (.bool true) ∧ Below w.heap.size w w' := by
  by_cases h : (1048576 : Int) < s.size
  · go_enter Try.func7, Try.ntmps7
    go_wp2
    go_ret
    exact ⟨rfl, Below.refl _ _⟩
  · have h2 : (s.size : Int) ≤ 1048576 := by omega
    have HS := mkHid (fun wx => readS_any s wx (by omega))
    have HI := mkHid (fun wx => readI_any s wx (by omega))
    generalize readA s = a at *
    obtain ⟨⟨x0, x1, x2⟩, x3⟩ := a
    unfold outV at HS HI
    simp only at HS HI
    have HE := mkHid (fun wx => eqOut_same x0 x1 x2 x3 wx)
    go_enter Try.func7, Try.ntmps7
    go_wp2_with fail
    refine (HS.out _).mono ?_
    rintro e w1 ⟨rfl, hb⟩
    have B1 := mkHid (hb.alloc hb.size (.cells #[.string x0, .int .i64 x1, .string x2, .int .i64 x3] 58))
    have b1 := mkHid (blk_new w1 (.cells #[.string x0, .int .i64 x1, .string x2, .int .i64 x3] 58) w1.heap.size rfl)
    clear hb HS
    go_wp2_with fail
    refine (HI.out _).mono ?_
    rintro e w2 ⟨rfl, hb⟩
    have B2 := mkHid ((below_trans B1.out hb).alloc (below_trans B1.out hb).size (.cells #[.string x0, .int .i64 x1, .string x2, .int .i64 x3] 58))
    obtain ⟨c0, c1, c2, c3⟩ := cel4 (blk_old (blk_below b1.out hb) (.cells #[.string x0, .int .i64 x1, .string x2, .int .i64 x3] 58))
    clear hb b1 B1 HI
    go_wp2_with fail
    refine (HE.out _).mono ?_
    rintro e w3 ⟨rfl, hb⟩
    have B3 := mkHid (below_trans B2.out hb)
    clear hb
    go_wp2
    go_ret
    exact ⟨rfl, B3.out⟩
end Go.Proofs.Ytlcdbkelonbcfaa.snp
