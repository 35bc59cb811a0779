/-
  What spec.l03Ill, slices.Clone (of int64), impl.gridOf, newGrid, (grid).row, (grid).rows and matrixOf answer and leave. Conditions: the cells lie in memory; a grid has 1 to 256 cells.
-/
import Derived.Test.YtoklibbefjnlhabRight
import Derived.Laws.CopyOwn
import Derived.Deep.RegionWith
import Derived.Lib.SliceRun
namespace Go.Proofs.Ytoklibbefjnlhab.grid
open Go.RowKit Go.Joins
open Go.Proofs.Ytoklibbefjnlhab.base Go.Proofs.Ytoklibbefjnlhab.ints Go.Proofs.Ytoklibbefjnlhab.mats Go.Proofs.Ytoklibbefjnlhab.right
set_option linter.unusedVariables false

/-- a grid as a value -/
def gridV (C : Int) (v : Value) : Value := .agg #[.int .i64 C, v]

theorem ill_any (k : Int) (w : World) : Calls Try.prog 23 #[.int .i64 k] w fun e w' => e = .returned (mout 0 0 none 0 0 k) ∧ Below w.heap.size w w' := by
  go_enter Try.func23, Try.ntmps23
  go_wp2
  exact bodyPost_ret (v := mout 0 0 none 0 0 k) (by simp [results, Try.results23, go_sem, mout]) rfl ⟨rfl, below_alloc1 w _⟩

theorem one_ints (zs : List Int) : ∀ u ∈ zs.map intV, u.oneCell' = true := by
  intro u hu
  obtain ⟨z, _, rfl⟩ := List.mem_map.1 hu
  rfl

theorem own_empty (w : World) : (w.alloc (.cells #[] 2)).ownsRow w.heap.size 2 1 (.slice (some ⟨w.heap.size, 0, none⟩) 0 0) 0 [] :=
  ⟨rfl, .inr ⟨w.heap.size, 0, #[], rfl, Nat.le_refl _, heap_alloc_new w _, Nat.le_refl _, Nat.zero_le _, rfl, rfl⟩⟩

set_option maxRecDepth 100000 in
theorem clone_any (b off cap : Nat) (zs : List Int) (w : World) (hn : 1 ≤ zs.length) (hl : zs.length ≤ 1048576) (hr : Rd w (some ⟨b, off, none⟩) zs) :
    Calls Try.prog 29 #[.slice (some ⟨b, off, none⟩) zs.length cap] w fun e w' => ∃ g c, e = .returned (.slice (some ⟨g, 0, none⟩) zs.length c) ∧ w'.ownsRow w.heap.size 2 1 (.slice (some ⟨g, 0, none⟩) zs.length c) zs.length (zs.map intV) ∧ Below w.heap.size w w' := by
  obtain ⟨i0, hi, hz0, hz1, hz2⟩ := info_parts info2
  have hnil := Lib.run_eql_slice_nil (P := Try.prog) w 22 2 (some ⟨b, off, none⟩) zs.length cap 0 0 Try.underlying22
  go_enter Try.func29, Try.ntmps29
  go_wp2_with ((at_builtin; refine wpList_append_own _ rfl _ _ 22 rfl w.heap.size 2 i0 (.int .i64 0) 1 8 Try.underlying22 hi hz0 hz1 hz2 rfl (by decide) _ 0 [] rfl (own_empty w) ⟨b, off, none⟩ zs.length cap (zs.map intV) rfl (by simp) ?c2 (one_ints zs) (by unfold maxLen; omega) (by omega) (by simp) ?_))
  case c2 =>
    intro j u hj
    rw [List.getElem?_map] at hj
    cases hz : zs[j]? with
    | none => rw [hz] at hj; simp at hj
    | some z =>
      rw [hz] at hj
      simp at hj
      subst hj
      obtain ⟨b', off', e, hc⟩ := (hr.alloc (.cells #[] 2)) j z hz
      simp at e
      obtain ⟨rfl, rfl⟩ := e
      rw [Addr.add_lit]
      exact hc
  intro v' w1 hown hgrow _
  have B : Below w.heap.size w w1 := ((Below.refl _ _).alloc (Nat.le_refl _) _).grown hgrow (by simp) (fun k hk => by simp [Value.ownBlock] at hk; omega)
  obtain ⟨g, c, rfl⟩ := ownsRow_form hown (by omega)
  have H := mkHid (And.intro hown B)
  clear hown B hgrow hr hnil
  go_wp2
  go_ret
  exact ⟨g, c, rfl, H.out.1, H.out.2⟩

set_option maxRecDepth 100000 in
theorem newGrid_any (m C n : Nat) (w : World) (hm : m ≤ 16) (hC : C ≤ 16) (hn : n = m * C) :
    Calls Try.prog 25 #[.int .i64 m, .int .i64 C] w fun e w' => e = .returned (gridV C (.slice (some ⟨w.heap.size + 1, 0, none⟩) n n)) ∧ Own w' (w.heap.size + 1) (List.replicate n 0) ∧ Below w.heap.size w w' := by
  have hb : n ≤ 256 := by
    have := Nat.mul_le_mul hm hC
    omega
  have hmk := run_make_ints n (by omega)
  have e1 : (m : Int) * (C : Int) = (n : Int) := by rw [hn]; simp
  have hbi : (n : Int) ≤ 256 := by omega
  clear hn hm hC hb
  go_enter Try.func25, Try.ntmps25
  go_wp2_with fail
  refine bodyPost_ret (v := gridV C (.slice (some ⟨w.heap.size + 1, 0, none⟩) n n)) (by simp [results, Try.results25, go_sem, gridV]) rfl ⟨rfl, ?_, below_alloc2 w _ _⟩
  exact (blk_new (w.alloc _) _ (w.heap.size + 1) (by simp)).trans (by simp)

set_option maxRecDepth 100000 in
theorem row_any (g off len cap C i lo : Nat) (w : World) (hlo : lo = i * C) (hC : 1 ≤ C) (hi : lo + C ≤ cap) (hC2 : C ≤ 16) (hi2 : i ≤ 16) :
    Calls Try.prog 26 #[gridV C (.slice (some ⟨g, off, none⟩) len cap), .int .i64 i] w fun e w' => e = .returned (.slice (some ⟨g, off + lo, none⟩) C (cap - lo)) ∧ Below w.heap.size w w' := by
  have e1 : (i : Int) * (C : Int) = (lo : Int) := by rw [hlo]; simp
  have e2 : ((i : Int) + 1) * (C : Int) = (lo : Int) + (C : Int) := by rw [Int.add_mul, e1]; omega
  have h1 : ¬ (cap = lo) := by omega
  have h2 : (lo : Int) + (C : Int) ≤ (cap : Int) := by omega
  have h3 : (lo : Int) ≤ 256 := by
    have := Nat.mul_le_mul hi2 hC2
    omega
  have h4 : (i : Int) ≤ 16 := by omega
  have e3 : ((lo : Int) + (C : Int)).toNat = lo + C := by omega
  have h5 : (C : Int) ≤ 16 := by omega
  clear hlo hC2 hi2
  unfold gridV
  go_enter Try.func26, Try.ntmps26
  go_wp2_with fail
  go_ret
  exact ⟨rfl, below_alloc1 w _⟩

set_option maxRecDepth 100000 in
theorem rows_any (m C n : Nat) (a : Option Addr) (cap : Nat) (w : World) (hm : m ≤ 16) (hC : 1 ≤ C) (hC2 : C ≤ 16) (hn : n = m * C) :
    Calls Try.prog 30 #[gridV C (.slice a n cap)] w fun e w' => e = .returned (.int .i64 m) ∧ Below w.heap.size w w' := by
  have e1 : Int.tdiv (n : Int) (C : Int) = (m : Int) := by
    have h := Int.mul_tdiv_cancel (m : Int) (b := (C : Int)) (by omega)
    rw [hn]
    simpa using h
  have e2 : (n : Int) / (C : Int) = (m : Int) := by
    rw [← Int.tdiv_eq_ediv_of_nonneg (by omega), e1]
  have e3 : n / C = m := by rw [hn]; exact Nat.mul_div_cancel m (by omega)
  have h1 : ¬ ((C : Int) = 0) := by omega
  have h2 : ¬ ((C : Int) = -1) := by omega
  have hmi : (m : Int) ≤ 16 := by omega
  have hci : (1 : Int) ≤ (C : Int) := by omega
  clear hn hC hC2 hm
  unfold gridV
  go_enter Try.func30, Try.ntmps30
  go_wp2_with fail
  go_ret
  exact ⟨rfl, below_alloc1 w _⟩

theorem own_set2 {w1 : World} {B n g : Nat} {v : Value} {xs : List Value} {x y : Value} (h : w1.ownsRow B 2 1 v n xs) (hg : g + 1 < B) : ((w1.setCell ⟨g + 1, 0, none⟩ x).setCell ⟨g + 1, 1, none⟩ y).ownsRow g 2 1 v n xs :=
  ownsRow_le (ownsRow_setCell_below (ownsRow_setCell_below h hg _) hg _) (by omega)

set_option maxRecDepth 100000 in
set_option maxHeartbeats 1000000 in
theorem gridOf_any (R : Int) (C b off cap : Nat) (zs : List Int) (w : World) (hn : 1 ≤ zs.length) (hl : zs.length ≤ 1048576) (hr : Rd w (some ⟨b, off, none⟩) zs) :
    Calls Try.prog 24 #[mat R C (some ⟨b, off, none⟩) zs.length cap] w fun e w' => ∃ g c, e = .returned (gridV C (.slice (some ⟨g, 0, none⟩) zs.length c)) ∧ w'.ownsRow w.heap.size 2 1 (.slice (some ⟨g, 0, none⟩) zs.length c) zs.length (zs.map intV) ∧ Below w.heap.size w w' := by
  have HC : Hid (∀ wx, Below w.heap.size w wx → Calls Try.prog 29 #[.slice (some ⟨b, off, none⟩) zs.length cap] wx fun e w' => ∃ g c, e = .returned (.slice (some ⟨g, 0, none⟩) zs.length c) ∧ w'.ownsRow wx.heap.size 2 1 (.slice (some ⟨g, 0, none⟩) zs.length c) zs.length (zs.map intV) ∧ Below wx.heap.size wx w') :=
    mkHid (fun wx hb => clone_any b off cap zs wx hn hl (hr.below hb))
  unfold mat gridV
  go_enter Try.func24, Try.ntmps24
  go_wp2_with fail
  have b2 := below_alloc2 w (.cells #[.int .i64 R, .int .i64 C, .slice (some ⟨b, off, none⟩) zs.length cap] 27) (.cells #[.int .i64 0, .slice none 0 0] 44)
  have k0 := blk_old (blk_new w (.cells #[.int .i64 R, .int .i64 C, .slice (some ⟨b, off, none⟩) zs.length cap] 27) w.heap.size rfl) (.cells #[.int .i64 0, .slice none 0 0] 44)
  have k1 := blk_new (w.alloc (.cells #[.int .i64 R, .int .i64 C, .slice (some ⟨b, off, none⟩) zs.length cap] 27)) (.cells #[.int .i64 0, .slice none 0 0] 44) (w.heap.size + 1) (by simp)
  generalize (w.alloc (.cells #[.int .i64 R, .int .i64 C, .slice (some ⟨b, off, none⟩) zs.length cap] 27)).alloc (.cells #[.int .i64 0, .slice none 0 0] 44) = W at *
  have K := mkHid (And.intro b2 (And.intro k0 k1))
  have hlt : w.heap.size + 1 < W.heap.size := (Array.getElem?_eq_some_iff.1 k1).1
  have c0 : W.cell? ⟨w.heap.size, 1, none⟩ = some (.int .i64 C) := cell_of_block k0 1
  have c1 : W.cell? ⟨w.heap.size, 2, none⟩ = some (.slice (some ⟨b, off, none⟩) zs.length cap) := cell_of_block k0 2
  clear b2 k0 k1
  go_region_with (go_at_call 29; refine (HC.out _ (by repeat (first | exact K.out.1 | apply Below.drew))).mono ?_; rintro e w1 ⟨g, c, rfl, ho, hb⟩; have b1 : Below W.heap.size W w1 := ⟨hb.os, hb.tape, hb.output, hb.size, hb.block⟩; have d0 := blk_below K.out.2.1 b1; have d1 := blk_below K.out.2.2 b1; have e0 : w1.cell? ⟨w.heap.size, 1, none⟩ = some (.int .i64 C) := cell_of_block d0 1; have e1 : w1.cell? ⟨w.heap.size + 1, 0, none⟩ = some (.int .i64 0) := cell_of_block d1 0; have e2 : w1.cell? ⟨w.heap.size + 1, 1, none⟩ = some (.slice none 0 0) := cell_of_block d1 1; have f1 : ∀ j, w1.frozen? ⟨w.heap.size + 1, j, none⟩ = false := unfrozen_of_block d1; clear d0 d1; have o1 : w1.ownsRow W.heap.size 2 1 (.slice (some ⟨g, 0, none⟩) zs.length c) zs.length (zs.map intV) := ho; have H := mkHid (And.intro o1 b1); clear o1 ho hb b1)
  all_goals
    clear c0 c1
    go_wp2
    exact bodyPost_ret (v := .agg #[.int .i64 C, .slice (some ⟨g, 0, none⟩) zs.length c]) (by simp [results, Try.results24, go_sem, e1, e2]) rfl ⟨g, c, rfl, own_set2 H.out.1 hlt, (((K.out.1.trans (H.out.2.mono K.out.1.size)).setCell (by simp) _).setCell (by simp) _)⟩

set_option maxRecDepth 100000 in
set_option maxHeartbeats 1000000 in
theorem matrixOf_any (m C n : Nat) (a : Option Addr) (cap : Nat) (w : World) (hm : m ≤ 16) (hC : 1 ≤ C) (hC2 : C ≤ 16) (hn : n = m * C) :
    Calls Try.prog 27 #[gridV C (.slice a n cap)] w fun e w' => e = .returned (mat m C a n cap) ∧ Below w.heap.size w w' := by
  have HC : Hid (∀ wx, Calls Try.prog 30 #[.agg #[.int .i64 C, .slice a n cap]] wx fun e w' => e = .returned (.int .i64 m) ∧ Below wx.heap.size wx w') :=
    mkHid (fun wx => rows_any m C n a cap wx hm hC hC2 hn)
  clear hn hm hC hC2
  unfold mat gridV
  go_enter Try.func27, Try.ntmps27
  go_wp2_with fail
  have b2 := below_alloc2 w (.cells #[.int .i64 C, .slice a n cap] 44) (.cells #[.int .i64 0, .int .i64 0, .slice none 0 0] 27)
  have k0 := blk_old (blk_new w (.cells #[.int .i64 C, .slice a n cap] 44) w.heap.size rfl) (.cells #[.int .i64 0, .int .i64 0, .slice none 0 0] 27)
  have k1 := blk_new (w.alloc (.cells #[.int .i64 C, .slice a n cap] 44)) (.cells #[.int .i64 0, .int .i64 0, .slice none 0 0] 27) (w.heap.size + 1) (by simp)
  generalize (w.alloc (.cells #[.int .i64 C, .slice a n cap] 44)).alloc (.cells #[.int .i64 0, .int .i64 0, .slice none 0 0] 27) = W at *
  have K := mkHid (And.intro b2 (And.intro k0 k1))
  have c0 : W.cell? ⟨w.heap.size, 0, none⟩ = some (.int .i64 C) := cell_of_block k0 0
  have c1 : W.cell? ⟨w.heap.size, 1, none⟩ = some (.slice a n cap) := cell_of_block k0 1
  clear b2 k0 k1
  go_region_with (go_at_call 30; refine (HC.out _).mono ?_; rintro e w1 ⟨rfl, hb⟩; have b1 : Below W.heap.size W w1 := ⟨hb.os, hb.tape, hb.output, hb.size, hb.block⟩; have d0 := blk_below K.out.2.1 b1; have d1 := blk_below K.out.2.2 b1; have e0 : w1.cell? ⟨w.heap.size, 0, none⟩ = some (.int .i64 C) := cell_of_block d0 0; have e00 : w1.cell? ⟨w.heap.size, 1, none⟩ = some (.slice a n cap) := cell_of_block d0 1; have e1 : w1.cell? ⟨w.heap.size + 1, 0, none⟩ = some (.int .i64 0) := cell_of_block d1 0; have e2 : w1.cell? ⟨w.heap.size + 1, 1, none⟩ = some (.int .i64 0) := cell_of_block d1 1; have e3 : w1.cell? ⟨w.heap.size + 1, 2, none⟩ = some (.slice none 0 0) := cell_of_block d1 2; have f1 : ∀ j, w1.frozen? ⟨w.heap.size + 1, j, none⟩ = false := unfrozen_of_block d1; clear d0 d1; have H := mkHid b1; clear hb b1)
  all_goals
    clear c0 c1
    go_wp2
    exact bodyPost_ret (v := .agg #[.int .i64 m, .int .i64 C, .slice a n cap]) (by simp [results, Try.results27, go_sem, e1, e2, e3]) rfl ⟨rfl, ((((K.out.1.trans (H.out.mono K.out.1.size)).setCell (by simp) _).setCell (by simp) _).setCell (by simp) _)⟩

end Go.Proofs.Ytoklibbefjnlhab.grid
