/-
  laws.FnExactFrameRead answers true at every text, and leaves what was there as it was. Condition: the numbers of the rounds are there.
-/
import Derived.Test.YtjkbldmadcgddaaDoorFrmD
import Derived.Test.YtjkbldmadcgddaaDoorDigI
namespace Go.Proofs.YtjkbldmadcgddaaDoor.frm
open Go.RowKit Go.Joins
open Go.Proofs.YtjkbldmadcgddaaDoor.base Go.Proofs.YtjkbldmadcgddaaDoor.blk Go.Proofs.YtjkbldmadcgddaaDoor.aid
set_option linter.unusedVariables false

theorem outF_form (s : ByteArray) : ∃ k m i z h x c, outF s = .agg #[.int .i64 k, .int .i64 m, .int .i64 i, .int .i64 z, .string h, .string x, .int .i64 c] := by
  unfold outF
  split
  · exact ⟨_, _, _, _, _, _, _, rfl⟩
  · split
    · exact ⟨_, _, _, _, _, _, _, rfl⟩
    · exact ⟨_, _, _, _, _, _, _, rfl⟩
set_option maxRecDepth 100000 in
theorem eqFrame_same (k m i z : Int) (h x : ByteArray) (w : World) :
    Calls Tryd.prog 26 #[.agg #[.int .i64 k, .int .i64 m, .int .i64 i, .int .i64 z, .string h, .string x], .agg #[.int .i64 k, .int .i64 m, .int .i64 i, .int .i64 z, .string h, .string x]] w fun e w' => e = .returned (.bool true) ∧ Below w.heap.size w w' := by
  have h1 : (k != k) = false := by simp
  have h2 : (m != m) = false := by simp
  have h3 : (i != i) = false := by simp
  have h4 : (z != z) = false := by simp
  have h5 : (!h.toList == h.toList) = false := by simp
  have h6 : (!x.toList == x.toList) = false := by simp
  go_enter Tryd.func26, Tryd.ntmps26
  go_wp2
  go_ret
  exact ⟨rfl, allocs2 _ _ _⟩
set_option maxRecDepth 100000 in
theorem eqOut_same (k m i z : Int) (h x : ByteArray) (c : Int) (w : World) :
    Calls Tryd.prog 12 #[.agg #[.int .i64 k, .int .i64 m, .int .i64 i, .int .i64 z, .string h, .string x, .int .i64 c], .agg #[.int .i64 k, .int .i64 m, .int .i64 i, .int .i64 z, .string h, .string x, .int .i64 c]] w fun e w' => e = .returned (.bool true) ∧ Below w.heap.size w w' := by
  have h1 : (c != c) = false := by simp
  have HE := mkHid (fun wx => eqFrame_same k m i z h x wx)
  go_enter Tryd.func12, Tryd.ntmps12
  go_wp2_with fail
  have B1 := mkHid (allocs2 w (.cells #[.int .i64 k, .int .i64 m, .int .i64 i, .int .i64 z, .string h, .string x, .int .i64 c] 29) (.cells #[.int .i64 k, .int .i64 m, .int .i64 i, .int .i64 z, .string h, .string x, .int .i64 c] 29))
  have b1 := mkHid (blk_old (blk_new w (.cells #[.int .i64 k, .int .i64 m, .int .i64 i, .int .i64 z, .string h, .string x, .int .i64 c] 29) w.heap.size rfl) (.cells #[.int .i64 k, .int .i64 m, .int .i64 i, .int .i64 z, .string h, .string x, .int .i64 c] 29))
  have b2 := mkHid (blk_new (w.alloc (.cells #[.int .i64 k, .int .i64 m, .int .i64 i, .int .i64 z, .string h, .string x, .int .i64 c] 29)) (.cells #[.int .i64 k, .int .i64 m, .int .i64 i, .int .i64 z, .string h, .string x, .int .i64 c] 29) (w.heap.size + 1) (by simp))
  refine (HE.out _).mono ?_
  rintro e w1 ⟨rfl, hb⟩
  have B2 := mkHid (B1.out.trans (hb.mono B1.out.size))
  obtain ⟨c0, c1, c2, c3, c4, c5, c6⟩ := cel7 (blk_below b1.out hb)
  obtain ⟨d0, d1, d2, d3, d4, d5, d6⟩ := cel7 (blk_below b2.out hb)
  clear hb B1 b1 b2 HE
  go_wp2
  go_ret
  exact ⟨rfl, B2.out⟩
set_option maxRecDepth 100000 in
set_option maxHeartbeats 1000000 in
theorem read_walk (s : ByteArray) (w : World) (h1 : (s.size : Int) ≤ 9223372036854775807) (hG : sha.GV w) :
    Calls Tryd.prog 4 #[.string s] w fun e w' => e = .returned (.bool true) ∧ Below w.heap.size w w' := by
  by_cases hb : (1048576 : Int) < (s.size : Int)
  · go_enter Tryd.func4, Tryd.ntmps4
    go_wp2
    go_ret
    exact ⟨rfl, Below.refl _ _⟩
  · have hs : s.size ≤ 1048576 := by omega
    have HS := mkHid (fun wx => readS_any s wx hs)
    have HI := mkHid (fun wx (q : Below w.heap.size w wx) => readI2_any s wx hs digI.digest_any (hG.below q hG.lt))
    obtain ⟨k, m, i, z, h, x, c, e0⟩ := outF_form s
    rw [e0] at HS HI
    have HE := mkHid (fun wx => eqOut_same k m i z h x c wx)
    clear hG h1 e0
    go_enter Tryd.func4, Tryd.ntmps4
    go_wp2_with fail
    refine (HS.out _).mono ?_
    rintro e w1 ⟨rfl, hb1⟩
    have B1 := mkHid (hb1.alloc hb1.size (.cells #[.int .i64 k, .int .i64 m, .int .i64 i, .int .i64 z, .string h, .string x, .int .i64 c] 29))
    have b1 := mkHid (blk_new w1 (.cells #[.int .i64 k, .int .i64 m, .int .i64 i, .int .i64 z, .string h, .string x, .int .i64 c] 29) w1.heap.size rfl)
    clear hb1 HS
    go_wp2_with fail
    refine (HI.out _ B1.out).mono ?_
    rintro e w2 ⟨rfl, hb2⟩
    have B2 := mkHid ((B1.out.trans (hb2.mono B1.out.size)).alloc (B1.out.trans (hb2.mono B1.out.size)).size (.cells #[.int .i64 k, .int .i64 m, .int .i64 i, .int .i64 z, .string h, .string x, .int .i64 c] 29))
    obtain ⟨c0, c1, c2, c3, c4, c5, c6⟩ := cel7 (blk_old (blk_below b1.out hb2) (.cells #[.int .i64 k, .int .i64 m, .int .i64 i, .int .i64 z, .string h, .string x, .int .i64 c] 29))
    obtain ⟨d0, d1, d2, d3, d4, d5, d6⟩ := cel7 (blk_new w2 (.cells #[.int .i64 k, .int .i64 m, .int .i64 i, .int .i64 z, .string h, .string x, .int .i64 c] 29) w2.heap.size rfl)
    clear hb2 HI B1 b1
    go_wp2_with fail
    refine (HE.out _).mono ?_
    rintro e w3 ⟨rfl, hb3⟩
    have B3 := mkHid (B2.out.trans (hb3.mono B2.out.size))
    clear hb3 B2 HE c0 c1 c2 c3 c4 c5 c6 d0 d1 d2 d3 d4 d5 d6
    go_wp2
    go_ret
    exact ⟨rfl, B3.out⟩
end Go.Proofs.YtjkbldmadcgddaaDoor.frm
