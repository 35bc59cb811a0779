/-
  What impl.copyPlace, and the function that impl.findKey hands on answer and leave. Conditions: places that lie in memory, of texts of at most 1,048,576 bytes.
-/
import Derived.Test.YtlcdbkelonbcfaaPlRI
import Derived.Test.YtlcdbkelonbcfaaFdS
import Derived.Test.YtlcdbkelonbcfaaClone
import Derived.Test.YtlcdbkelonbcfaaSlLay
namespace Go.Proofs.Ytlcdbkelonbcfaa.plc
open Go.RowKit Go.Joins Go.Sort
open Go.Proofs.Ytlcdbkelonbcfaa.base Go.Proofs.Ytlcdbkelonbcfaa.blk Go.Proofs.Ytlcdbkelonbcfaa.aid
open Go.Proofs.Ytlcdbkelonbcfaa.ord
open Go.Proofs.Ytlcdbkelonbcfaa.row (Rd Own OwnV)
open Go.Proofs.Ytlcdbkelonbcfaa.rwPlace (cs el)
set_option linter.unusedVariables false
set_option linter.unusedSimpArgs false

set_option maxRecDepth 100000 in
set_option maxHeartbeats 1000000 in
theorem copyPlace_any (x0 x1 : ByteArray) (x2 x3 x4 : Int) (w : World) (h0 : x0.size ≤ 1048576) (h1 : x1.size ≤ 1048576) :
    Calls Try.prog 47 #[.agg #[.string x0, .string x1, .int .i64 x2, .int .i64 x3, .int .i64 x4]] w fun e w' => e = .returned (.agg #[.string x0, .string x1, .int .i64 x2, .int .i64 x3, .int .i64 x4]) ∧ Below w.heap.size w w' := by
  have hC0 := mkHid (fun wx => clone.clone_any x0 wx h0)
  have hC1 := mkHid (fun wx => clone.clone_any x1 wx h1)
  have b1 := mkHid (blk_old (blk_new w (.cells #[.string x0, .string x1, .int .i64 x2, .int .i64 x3, .int .i64 x4] 40) w.heap.size rfl) zeroO)
  have b2 := mkHid (blk_new (w.alloc (.cells #[.string x0, .string x1, .int .i64 x2, .int .i64 x3, .int .i64 x4] 40)) zeroO (w.heap.size + 1) (by simp))
  have HB0 := mkHid (rwPlace.below2 w (.cells #[.string x0, .string x1, .int .i64 x2, .int .i64 x3, .int .i64 x4] 40) zeroO)
  unfold zeroO at b1 b2 HB0
  go_enter Try.func47, Try.ntmps47
  go_wp2_with fail
  refine (hC0.out _).mono ?_
  rintro e w1 ⟨rfl, hb⟩
  have d1 := mkHid (blk_below b1.out hb)
  have d2 := mkHid (blk_below b2.out hb)
  have HB1 := mkHid (below_trans HB0.out hb)
  clear hb b1 b2 HB0 hC0
  obtain ⟨e0, e1, e2, e3, e4⟩ := cel5 d1.out
  have uf := unfrozen d1.out
  have D1 := mkHid (show (w1.setCell ⟨w.heap.size, 0, none⟩ (.string x0)).heap[w.heap.size]? = some (.cells #[.string x0, .string x1, .int .i64 x2, .int .i64 x3, .int .i64 x4] 40) by
    have h := heap_setCell_same w1 w.heap.size 0 _ _ (.string x0) d1.out
    simpa using h)
  have D2 := mkHid (show (w1.setCell ⟨w.heap.size, 0, none⟩ (.string x0)).heap[w.heap.size + 1]? = some (.cells #[.string ⟨#[]⟩, .string ⟨#[]⟩, .int .i64 0, .int .i64 0, .int .i64 0] 40) from blk_set d2.out _ _ (by simp))
  have HB2 := mkHid (HB1.out.setCell (p := ⟨w.heap.size, 0, none⟩) (Nat.le_refl _) (.string x0))
  clear d2 HB1
  go_wp2_with fail
  refine (hC1.out _).mono ?_
  rintro e w2 ⟨rfl, hb⟩
  clear e0 e1 e2 e3 e4 uf d1
  have d1 := mkHid (blk_below D1.out hb)
  have d2 := mkHid (blk_below D2.out hb)
  have HB3 := mkHid (below_trans HB2.out hb)
  clear hb D1 D2 HB2 hC1
  obtain ⟨e0, e1, e2, e3, e4⟩ := cel5 d1.out
  have uf := unfrozen d1.out
  obtain ⟨z0, z1, z2, z3, z4⟩ := cel5 d2.out
  have uf2 := unfrozen d2.out
  have HB4 := mkHid (HB3.out.setCell (p := ⟨w.heap.size, 1, none⟩) (Nat.le_refl _) (.string x1))
  have HB := mkHid (below5 HB4.out (g := w.heap.size + 1) (by omega) (.string x0) (.string x1) (.int .i64 x2) (.int .i64 x3) (.int .i64 x4))
  clear HB3 HB4 d1 d2
  go_wp2
  refine bodyPost_ret (v := .agg #[.string x0, .string x1, .int .i64 x2, .int .i64 x3, .int .i64 x4]) ?_ rfl ?_
  rotate_left
  · exact ⟨rfl, HB.out⟩
  · simp [results, Try.results47, go_sem, z0, z1, z2, z3, z4]

abbrev enc (p : Pl) : List Value := [.string p.1, .string p.2.1, .int .i64 p.2.2.1, .int .i64 p.2.2.2.1, .int .i64 p.2.2.2.2]
theorem enc_len (p : Pl) : (enc p).length = 5 := rfl
theorem enc_one (p : Pl) : ∀ v ∈ enc p, v.oneCell' = true := by
  intro v hv
  simp [enc] at hv
  rcases hv with rfl | rfl | rfl | rfl | rfl <;> rfl
/-- the function that is handed on: has it the key? -/
theorem keyIs_any (k : ByteArray) (B : Nat) (w : World) (hB : B < w.heap.size) (hcell : w.cell? ⟨B, 0, none⟩ = some (.string k)) :
    PredBelow Try.prog 79 #[.pointer (some ⟨B, 0, none⟩)] (fun x => .agg (enc x).toArray) (fun x : Pl => x.1.toList == k.toList) w := fun W x hb => by
  have hc : W.cell? ⟨B, 0, none⟩ = some (.string k) := (hb.cell (p := ⟨B, 0, none⟩) hB).trans hcell
  have hBW : B < W.heap.size := Nat.lt_of_lt_of_le hB hb.size
  have hne : B ≠ W.heap.size := by omega
  obtain ⟨x0, x1, x2, x3, x4⟩ := x
  show Calls Try.prog 79 #[.agg #[.string x0, .string x1, .int .i64 x2, .int .i64 x3, .int .i64 x4], .pointer (some ⟨B, 0, none⟩)] W _
  go_enter Try.func79, Try.ntmps79
  go_wp2
  all_goals (go_ret; exact ⟨rfl, hb.alloc hb.size _⟩)
theorem idx_is (l : List Pl) (k : ByteArray) : (findP l k = none ∧ Lib.idxBy (fun _ (y : Pl) => y.1.toList == k.toList) (l.take l.length) default = -1) ∨
    ∃ (i : Nat) (p : Pl), findP l k = some p ∧ l[i]? = some p ∧ Lib.idxBy (fun _ (y : Pl) => y.1.toList == k.toList) (l.take l.length) default = (i : Int) := by
  cases hf : findP l k with
  | none =>
    refine .inl ⟨rfl, Lib.idxBy_miss _ _ _ _ (fun j hj => ?_)⟩
    unfold findP at hf
    rw [List.find?_eq_none] at hf
    have := hf l[j] (List.getElem_mem hj)
    rw [getElem!_pos l j hj]
    simpa using this
  | some p =>
    unfold findP at hf
    rw [List.find?_eq_some_iff_getElem] at hf
    obtain ⟨hp, i, hi, he, hn⟩ := hf
    refine .inr ⟨i, p, rfl, by rw [List.getElem?_eq_getElem hi, he], Lib.idxBy_hit _ _ _ _ _ hi (Nat.le_refl _) (by rw [getElem!_pos l i hi, he]; exact hp) (fun j hj => ?_)⟩
    have := hn j hj
    rw [getElem!_pos l j (by omega)]
    simpa using this
theorem index_any (a : Option Addr) (c : Nat) (l : List Pl) (k : ByteArray) (B : Nat) (w : World) (hl : l.length ≤ 1048576) (hne : l ≠ []) (hB : B < w.heap.size) (hcell : w.cell? ⟨B, 0, none⟩ = some (.string k)) (hr : Rd w a (cs l)) :
    Calls Try.prog 78 #[.slice a l.length c, .func (.func 79) #[] #[.pointer (some ⟨B, 0, none⟩)]] w fun e w' =>
      e = .returned (.int .i64 (Lib.idxBy (fun _ (y : Pl) => y.1.toList == k.toList) (l.take l.length) default)) ∧ Below w.heap.size w w' := by
  have eg : ∀ args w, (callFunc 79 args).run Try.prog w = .ok (.enter 79 args) w := enters_of Try.func79 (by kernel_rfl) rfl
  obtain ⟨x, hx⟩ : ∃ x, l[0]? = some x := by
    cases l with
    | nil => exact absurd rfl hne
    | cons x r => exact ⟨x, rfl⟩
  obtain ⟨g, o, rfl, _, _, _, _, _, hg⟩ := el hr hx
  have hcon := AnyQ.slices_IndexFunc Try.idxPl 5 Try.isAgg40 Try.sizeOf40 enc enc_len (fun x : Pl => x.1.toList == k.toList) 79 #[.pointer (some ⟨B, 0, none⟩)] eg g o l.length c l w (keyIs_any k B w hB hcell) (Nat.le_refl _) (by omega) hg (fun j hj i v hi => by
    have hj2 : l[j]? = some l[j] := List.getElem?_eq_getElem hj
    obtain ⟨g', o', e, c0, c1, c2, c3, c4, _⟩ := el hr hj2
    simp at e
    obtain ⟨rfl, rfl⟩ := e
    rw [getElem!_pos l j hj] at hi
    generalize l[j] = y at *
    match i, hi with
    | 0, hi => simp [enc] at hi; rw [← hi]; exact c0
    | 1, hi => simp [enc] at hi; rw [← hi]; exact c1
    | 2, hi => simp [enc] at hi; rw [← hi]; exact c2
    | 3, hi => simp [enc] at hi; rw [← hi]; exact c3
    | 4, hi => simp [enc] at hi; rw [← hi]; exact c4
    | i + 5, hi => simp [enc] at hi)
  exact hcon
end Go.Proofs.Ytlcdbkelonbcfaa.plc
