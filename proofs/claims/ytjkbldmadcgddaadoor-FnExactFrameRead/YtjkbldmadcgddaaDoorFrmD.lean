/-
  What spec.FrameRead and impl.FrameRead answer and leave. Conditions: a text of at most 1,048,576 bytes; for the program's: the numbers of the rounds are there.
-/
import Derived.Test.YtjkbldmadcgddaaDoorFrmRS
namespace Go.Proofs.YtjkbldmadcgddaaDoor.frm
open Go.RowKit Go.Joins
open Go.Proofs.YtjkbldmadcgddaaDoor.base Go.Proofs.YtjkbldmadcgddaaDoor.blk Go.Proofs.YtjkbldmadcgddaaDoor.aid
open Go.Proofs.YtjkbldmadcgddaaDoor.sha (digest GV)
set_option linter.unusedVariables false

/-- what FrameRead tells -/
def outF (s : ByteArray) : Value :=
  if 20000 < s.size then .agg #[.int .i64 0, .int .i64 0, .int .i64 0, .int .i64 0, .string ⟨#[]⟩, .string ⟨#[]⟩, .int .i64 2] else match readF s with | some (k, m, i, z, h, x) => .agg #[.int .i64 k, .int .i64 m, .int .i64 i, .int .i64 z, .string h, .string x, .int .i64 0] | none => .agg #[.int .i64 0, .int .i64 0, .int .i64 0, .int .i64 0, .string ⟨#[]⟩, .string ⟨#[]⟩, .int .i64 3]
theorem cel7 {w : World} {g : Nat} {a b c d e f i : Value} {t : TypeId} {z : Nat × Nat} (h : w.heap[g]? = some (.cells #[a, b, c, d, e, f, i] t z)) : w.cell? ⟨g, 0, none⟩ = some a ∧ w.cell? ⟨g, 1, none⟩ = some b ∧ w.cell? ⟨g, 2, none⟩ = some c ∧ w.cell? ⟨g, 3, none⟩ = some d ∧ w.cell? ⟨g, 4, none⟩ = some e ∧ w.cell? ⟨g, 5, none⟩ = some f ∧ w.cell? ⟨g, 6, none⟩ = some i := by
  simp [World.cell?, h]
theorem below7 {w w1 : World} {g : Nat} (hb : Below w.heap.size w w1) (hg : w.heap.size ≤ g) (x0 x1 x2 x3 x4 x5 x6 : Value) : Below w.heap.size w (((((((w1.setCell ⟨g, 0, none⟩ x0).setCell ⟨g, 1, none⟩ x1).setCell ⟨g, 2, none⟩ x2).setCell ⟨g, 3, none⟩ x3).setCell ⟨g, 4, none⟩ x4).setCell ⟨g, 5, none⟩ x5).setCell ⟨g, 6, none⟩ x6) :=
  (below6 hb hg x0 x1 x2 x3 x4 x5).setCell (p := ⟨g, 6, none⟩) hg x6
set_option maxRecDepth 100000 in
set_option maxHeartbeats 4000000 in
theorem readS_any (s : ByteArray) (w : World) (hs : s.size ≤ 1048576) :
    Calls Tryd.prog 11 #[.string s] w fun e w' => e = .returned (outF s) ∧ Below w.heap.size w w' := by
  have hs' : (s.size : Int) ≤ 1048576 := by omega
  have B1 := mkHid (below_alloc1 w (.cells #[.int .i64 0, .int .i64 0, .int .i64 0, .int .i64 0, .string ⟨#[]⟩, .string ⟨#[]⟩, .int .i64 0] 29))
  have b1 := mkHid (blk_new w (.cells #[.int .i64 0, .int .i64 0, .int .i64 0, .int .i64 0, .string ⟨#[]⟩, .string ⟨#[]⟩, .int .i64 0] 29) w.heap.size rfl)
  by_cases hb : 20000 < s.size
  · have hb' : 20000 < (s.size : Int) := by omega
    have E := mkHid (show outF s = .agg #[.int .i64 0, .int .i64 0, .int .i64 0, .int .i64 0, .string ⟨#[]⟩, .string ⟨#[]⟩, .int .i64 2] by unfold outF; rw [if_pos hb])
    have B2 := mkHid (below_alloc1 w (.cells #[.int .i64 0, .int .i64 0, .int .i64 0, .int .i64 0, .string ⟨#[]⟩, .string ⟨#[]⟩, .int .i64 2] 29))
    clear b1 B1
    go_enter Tryd.func11, Tryd.ntmps11
    go_wp2
    refine bodyPost_ret (v := .agg #[.int .i64 0, .int .i64 0, .int .i64 0, .int .i64 0, .string ⟨#[]⟩, .string ⟨#[]⟩, .int .i64 2]) ?_ rfl ?_
    rotate_left
    · exact ⟨aid.ret_eq E.out.symm, B2.out⟩
    · simp [results, Tryd.results11, go_sem]
  · have hb' : (s.size : Int) ≤ 20000 := by omega
    have HI := mkHid (fun wx (q : Below w.heap.size w wx) => frameS_any s wx (by omega))
    unfold RdPost at HI
    have hE := mkHid (show outF s = match readF s with | some (k, m, i, z, h, x) => .agg #[.int .i64 k, .int .i64 m, .int .i64 i, .int .i64 z, .string h, .string x, .int .i64 0] | none => .agg #[.int .i64 0, .int .i64 0, .int .i64 0, .int .i64 0, .string ⟨#[]⟩, .string ⟨#[]⟩, .int .i64 3] by unfold outF; rw [if_neg hb])
    generalize hV : w.alloc (.cells #[.int .i64 0, .int .i64 0, .int .i64 0, .int .i64 0, .string ⟨#[]⟩, .string ⟨#[]⟩, .int .i64 0] 29) = V at *
    go_enter Tryd.func11, Tryd.ntmps11
    go_wp2_with fail
    refine (HI.out _ B1.out).mono ?_
    rintro e w1 ⟨⟨bb, k, m, i, z, h, x, rfl, h1, h2⟩, hb1⟩
    have B2 := mkHid (B1.out.trans (hb1.mono B1.out.size))
    have b2 := mkHid (blk_below b1.out hb1)
    have B3 := mkHid (B2.out.alloc B2.out.size (.cells #[.int .i64 k, .int .i64 m, .int .i64 i, .int .i64 z, .string h, .string x] 24))
    have b3 := mkHid (blk_old b2.out (.cells #[.int .i64 k, .int .i64 m, .int .i64 i, .int .i64 z, .string h, .string x] 24))
    obtain ⟨c0, c1, c2, c3, c4, c5⟩ := cel6 (blk_new w1 (.cells #[.int .i64 k, .int .i64 m, .int .i64 i, .int .i64 z, .string h, .string x] 24) w1.heap.size rfl)
    obtain ⟨d0, d1, d2, d3, d4, d5, d6⟩ := cel7 b3.out
    have df := unfrozen b3.out
    have hne : w.heap.size ≠ w1.heap.size := by have := (Array.getElem?_eq_some_iff.1 b2.out).1; omega
    cases bb with
    | false =>
      have E := mkHid (show outF s = .agg #[.int .i64 0, .int .i64 0, .int .i64 0, .int .i64 0, .string ⟨#[]⟩, .string ⟨#[]⟩, .int .i64 3] by rw [hE.out, h2 rfl])
      have HB := mkHid (below7 B3.out (Nat.le_refl _) (.int .i64 0) (.int .i64 0) (.int .i64 0) (.int .i64 0) (.string ⟨#[]⟩) (.string ⟨#[]⟩) (.int .i64 3))
      clear h1 h2 hE HI hb1 b1 b2 B1 B2 B3 b3 hV
      go_wp2
      refine bodyPost_ret (v := .agg #[.int .i64 0, .int .i64 0, .int .i64 0, .int .i64 0, .string ⟨#[]⟩, .string ⟨#[]⟩, .int .i64 3]) ?_ rfl ?_
      rotate_left
      · exact ⟨aid.ret_eq E.out.symm, HB.out⟩
      · simp [results, Tryd.results11, go_sem, d0, d1, d2, d3, d4, d5, d6]
    | true =>
      have E := mkHid (show outF s = .agg #[.int .i64 k, .int .i64 m, .int .i64 i, .int .i64 z, .string h, .string x, .int .i64 0] by rw [hE.out, h1 rfl])
      have HB := mkHid (below7 B3.out (Nat.le_refl _) (.int .i64 k) (.int .i64 m) (.int .i64 i) (.int .i64 z) (.string h) (.string x) (.int .i64 0))
      clear h1 h2 hE HI hb1 b1 b2 B1 B2 B3 b3 hV
      go_wp2
      refine bodyPost_ret (v := .agg #[.int .i64 k, .int .i64 m, .int .i64 i, .int .i64 z, .string h, .string x, .int .i64 0]) ?_ rfl ?_
      rotate_left
      · exact ⟨aid.ret_eq E.out.symm, HB.out⟩
      · simp [results, Tryd.results11, go_sem, d0, d1, d2, d3, d4, d5, d6]
set_option maxRecDepth 100000 in
set_option maxHeartbeats 4000000 in
theorem readI2_any (s : ByteArray) (w : World) (hs : s.size ≤ 1048576) (HD : himpl.IDigest) (hG : GV w) :
    Calls Tryd.prog 9 #[.string s] w fun e w' => e = .returned (outF s) ∧ Below w.heap.size w w' := by
  have hs' : (s.size : Int) ≤ 1048576 := by omega
  have B1 := mkHid (below_alloc1 w (.cells #[.int .i64 0, .int .i64 0, .int .i64 0, .int .i64 0, .string ⟨#[]⟩, .string ⟨#[]⟩, .int .i64 0] 29))
  have b1 := mkHid (blk_new w (.cells #[.int .i64 0, .int .i64 0, .int .i64 0, .int .i64 0, .string ⟨#[]⟩, .string ⟨#[]⟩, .int .i64 0] 29) w.heap.size rfl)
  by_cases hb : 20000 < s.size
  · have hb' : 20000 < (s.size : Int) := by omega
    have E := mkHid (show outF s = .agg #[.int .i64 0, .int .i64 0, .int .i64 0, .int .i64 0, .string ⟨#[]⟩, .string ⟨#[]⟩, .int .i64 2] by unfold outF; rw [if_pos hb])
    have B2 := mkHid (below_alloc1 w (.cells #[.int .i64 0, .int .i64 0, .int .i64 0, .int .i64 0, .string ⟨#[]⟩, .string ⟨#[]⟩, .int .i64 2] 29))
    clear b1 B1
    go_enter Tryd.func9, Tryd.ntmps9
    go_wp2
    refine bodyPost_ret (v := .agg #[.int .i64 0, .int .i64 0, .int .i64 0, .int .i64 0, .string ⟨#[]⟩, .string ⟨#[]⟩, .int .i64 2]) ?_ rfl ?_
    rotate_left
    · exact ⟨aid.ret_eq E.out.symm, B2.out⟩
    · simp [results, Tryd.results9, go_sem]
  · have hb' : (s.size : Int) ≤ 20000 := by omega
    have HI := mkHid (fun wx (q : Below w.heap.size w wx) => readI_any s wx (by omega) HD (hG.below q hG.lt))
    unfold RdPost at HI
    have hE := mkHid (show outF s = match readF s with | some (k, m, i, z, h, x) => .agg #[.int .i64 k, .int .i64 m, .int .i64 i, .int .i64 z, .string h, .string x, .int .i64 0] | none => .agg #[.int .i64 0, .int .i64 0, .int .i64 0, .int .i64 0, .string ⟨#[]⟩, .string ⟨#[]⟩, .int .i64 3] by unfold outF; rw [if_neg hb])
    generalize hV : w.alloc (.cells #[.int .i64 0, .int .i64 0, .int .i64 0, .int .i64 0, .string ⟨#[]⟩, .string ⟨#[]⟩, .int .i64 0] 29) = V at *
    go_enter Tryd.func9, Tryd.ntmps9
    go_wp2_with fail
    refine (HI.out _ B1.out).mono ?_
    rintro e w1 ⟨⟨bb, k, m, i, z, h, x, rfl, h1, h2⟩, hb1⟩
    have B2 := mkHid (B1.out.trans (hb1.mono B1.out.size))
    have b2 := mkHid (blk_below b1.out hb1)
    have B3 := mkHid (B2.out.alloc B2.out.size (.cells #[.int .i64 k, .int .i64 m, .int .i64 i, .int .i64 z, .string h, .string x] 24))
    have b3 := mkHid (blk_old b2.out (.cells #[.int .i64 k, .int .i64 m, .int .i64 i, .int .i64 z, .string h, .string x] 24))
    obtain ⟨c0, c1, c2, c3, c4, c5⟩ := cel6 (blk_new w1 (.cells #[.int .i64 k, .int .i64 m, .int .i64 i, .int .i64 z, .string h, .string x] 24) w1.heap.size rfl)
    obtain ⟨d0, d1, d2, d3, d4, d5, d6⟩ := cel7 b3.out
    have df := unfrozen b3.out
    have hne : w.heap.size ≠ w1.heap.size := by have := (Array.getElem?_eq_some_iff.1 b2.out).1; omega
    cases bb with
    | false =>
      have E := mkHid (show outF s = .agg #[.int .i64 0, .int .i64 0, .int .i64 0, .int .i64 0, .string ⟨#[]⟩, .string ⟨#[]⟩, .int .i64 3] by rw [hE.out, h2 rfl])
      have HB := mkHid (below7 B3.out (Nat.le_refl _) (.int .i64 0) (.int .i64 0) (.int .i64 0) (.int .i64 0) (.string ⟨#[]⟩) (.string ⟨#[]⟩) (.int .i64 3))
      clear h1 h2 hE HI hb1 b1 b2 B1 B2 B3 b3 hV
      go_wp2
      refine bodyPost_ret (v := .agg #[.int .i64 0, .int .i64 0, .int .i64 0, .int .i64 0, .string ⟨#[]⟩, .string ⟨#[]⟩, .int .i64 3]) ?_ rfl ?_
      rotate_left
      · exact ⟨aid.ret_eq E.out.symm, HB.out⟩
      · simp [results, Tryd.results9, go_sem, d0, d1, d2, d3, d4, d5, d6]
    | true =>
      have E := mkHid (show outF s = .agg #[.int .i64 k, .int .i64 m, .int .i64 i, .int .i64 z, .string h, .string x, .int .i64 0] by rw [hE.out, h1 rfl])
      have HB := mkHid (below7 B3.out (Nat.le_refl _) (.int .i64 k) (.int .i64 m) (.int .i64 i) (.int .i64 z) (.string h) (.string x) (.int .i64 0))
      clear h1 h2 hE HI hb1 b1 b2 B1 B2 B3 b3 hV
      go_wp2
      refine bodyPost_ret (v := .agg #[.int .i64 k, .int .i64 m, .int .i64 i, .int .i64 z, .string h, .string x, .int .i64 0]) ?_ rfl ?_
      rotate_left
      · exact ⟨aid.ret_eq E.out.symm, HB.out⟩
      · simp [results, Tryd.results9, go_sem, d0, d1, d2, d3, d4, d5, d6]
end Go.Proofs.YtjkbldmadcgddaaDoor.frm
