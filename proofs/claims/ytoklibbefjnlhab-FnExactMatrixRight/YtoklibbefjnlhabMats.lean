/-
  What laws.szMatrix, toMatrix, eqMatrix, eqMatrixOut, markMatrix, markMatrixOut, heldMatrix and heldMatrixOut answer and leave. Conditions: at most 1,048,576 cells; the cells lie in memory; cells that are written lie in a block of their own.
-/
import Derived.Test.YtoklibbefjnlhabInts
namespace Go.Proofs.Ytoklibbefjnlhab.mats
open Go.RowKit Go.Joins
open Go.Proofs.Ytoklibbefjnlhab.base Go.Proofs.Ytoklibbefjnlhab.ints
set_option linter.unusedVariables false

/-- a matrix as a value -/
def mat (R C : Int) (a : Option Addr) (n cap : Nat) : Value := .agg #[.int .i64 R, .int .i64 C, .slice a n cap]
/-- a matrix and a code as a value -/
def mout (R C : Int) (a : Option Addr) (n cap : Nat) (code : Int) : Value := .agg #[.int .i64 R, .int .i64 C, .slice a n cap, .int .i64 code]

theorem blk_new (w : World) (o : Obj) (j : Nat) (hj : j = w.heap.size) : (w.alloc o).heap[j]? = some o := by subst hj; exact heap_alloc_new w o
theorem blk_old {w : World} {j : Nat} {x : Obj} (h : w.heap[j]? = some x) (o : Obj) : (w.alloc o).heap[j]? = some x := (Below.heap_alloc w o j (Array.getElem?_eq_some_iff.1 h).1).trans h
theorem blk_below {w w' : World} {j : Nat} {x : Obj} (h : w.heap[j]? = some x) (hb : Below w.heap.size w w') : w'.heap[j]? = some x := (hb.block j (Array.getElem?_eq_some_iff.1 h).1).trans h
theorem blk_set {w : World} {j : Nat} {x : Obj} (h : w.heap[j]? = some x) (p : Addr) (v : Value) (hne : j ≠ p.block) : (w.setCell p v).heap[j]? = some x := (Below.heap_setCell w p v j hne).trans h
theorem below_allocs {w w' : World} {os : List Obj} (hb : Below (os.foldl World.alloc w).heap.size (os.foldl World.alloc w) w') : Below w.heap.size w w' := by
  induction os generalizing w with
  | nil => exact hb
  | cons o r ih =>
    have k := ih (w := w.alloc o) hb
    exact ((Below.refl _ _).alloc (Nat.le_refl _) o).trans (k.mono (by simp))

set_option maxRecDepth 100000 in
theorem szM_any (R C : Int) (a : Option Addr) (len cap : Nat) (m : Int) (w : World) (hl : (len : Int) ≤ 9223372036854775807) (hm : 0 ≤ m) (hm1 : m ≤ 1048576) :
    Calls Try.prog 5 #[mat R C a len cap, .int .i64 m] w fun e w' => e = .returned (.int .i64 (if m - len < 0 then -1 else m - len)) ∧ Below w.heap.size w w' := by
  unfold mat
  go_enter Try.func5, Try.ntmps5
  go_wp2_with fail
  refine (sz_any a len cap m _ hl hm hm1).mono ?_
  rintro e w1 ⟨rfl, rfl⟩
  by_cases h : m - len < 0
  · rw [if_pos h]
    go_wp2
    go_ret
    exact ⟨rfl, (Below.refl _ _).alloc (Nat.le_refl _) _⟩
  · rw [if_neg h]
    have h' : 0 ≤ m - (len : Int) := by omega
    go_wp2
    go_ret
    exact ⟨rfl, (Below.refl _ _).alloc (Nat.le_refl _) _⟩

set_option maxRecDepth 100000 in
theorem toM_any (R C : Int) (a : Option Addr) (cap : Nat) (zs : List Int) (w : World) (hl : zs.length ≤ 1048576) (hr : Rd w a zs) :
    Calls Try.prog 7 #[mat R C a zs.length cap] w fun e w' => e = .returned (mat R C (some ⟨w.heap.size + 3, 0, none⟩) zs.length zs.length) ∧ Own w' (w.heap.size + 3) zs ∧ Below w.heap.size w w' := by
  unfold mat
  go_enter Try.func7, Try.ntmps7
  go_wp2_with fail
  refine (to_any a cap zs _ hl (((hr.alloc _).alloc _).alloc _)).mono ?_
  rintro e w1 ⟨rfl, ho, hb⟩
  have s3 : (((w.alloc (.cells #[.int .i64 R, .int .i64 C, .slice a zs.length cap] 24)).alloc (.cells #[.int .i64 0, .int .i64 0, .slice none 0 0] 27)).alloc (.cells #[.int .i64 R, .int .i64 C, .slice none 0 0] 27)).heap.size = w.heap.size + 3 := by simp
  have k1 := blk_below (blk_old (blk_new (w.alloc _) _ (w.heap.size + 1) (by simp)) _) hb
  have k2 := blk_below (blk_new ((w.alloc _).alloc _) _ (w.heap.size + 1 + 1) (by simp)) hb
  have B := mkHid (below_allocs (os := [_, _, _]) hb)
  rw [s3] at ho
  have O := mkHid ho
  have c10 : w1.cell? ⟨w.heap.size + 1, 0, none⟩ = some (.int .i64 0) := cell_of_block k1 0
  have c11 : w1.cell? ⟨w.heap.size + 1, 1, none⟩ = some (.int .i64 0) := cell_of_block k1 1
  have c12 : w1.cell? ⟨w.heap.size + 1, 2, none⟩ = some (.slice none 0 0) := cell_of_block k1 2
  have c20 : w1.cell? ⟨w.heap.size + 1 + 1, 0, none⟩ = some (.int .i64 R) := cell_of_block k2 0
  have c21 : w1.cell? ⟨w.heap.size + 1 + 1, 1, none⟩ = some (.int .i64 C) := cell_of_block k2 1
  have c22 : w1.cell? ⟨w.heap.size + 1 + 1, 2, none⟩ = some (.slice none 0 0) := cell_of_block k2 2
  have f1 : ∀ j, w1.frozen? ⟨w.heap.size + 1, j, none⟩ = false := unfrozen_of_block k1
  have f2 : ∀ j, w1.frozen? ⟨w.heap.size + 1 + 1, j, none⟩ = false := unfrozen_of_block k2
  rw [s3]
  clear k1 k2 hb ho s3 hr
  go_wp2_with fail
  exact bodyPost_ret (v := .agg #[.int .i64 R, .int .i64 C, .slice (some ⟨w.heap.size + 3, 0, none⟩) zs.length zs.length]) (by simp [results, Try.results7, go_sem, c10, c11, c12]) rfl
    ⟨rfl, (((O.out.other _ _ (by simp)).other _ _ (by simp)).other _ _ (by simp)).other _ _ (by simp), (((B.out.setCell (by simp; omega) _).setCell (by simp) _).setCell (by simp) _).setCell (by simp) _⟩

set_option maxRecDepth 100000 in
theorem eqM_any (R C R' C' : Int) (a b : Option Addr) (ca cb : Nat) (xs ys : List Int) (w : World) (hx : xs.length ≤ 1048576) (hy : ys.length ≤ 1048576) (ha : Rd w a xs) (hb : Rd w b ys) :
    Calls Try.prog 9 #[mat R C a xs.length ca, mat R' C' b ys.length cb] w fun e w' => e = .returned (.bool (decide (R = R' ∧ C = C' ∧ xs = ys))) ∧ Below w.heap.size w w' := by
  have al : ∀ o1 o2, Below w.heap.size w ((w.alloc o1).alloc o2) := fun o1 o2 => below_alloc2 w o1 o2
  unfold mat
  go_enter Try.func9, Try.ntmps9
  by_cases h1 : R = R'
  · by_cases h2 : C = C'
    · go_wp2_with fail
      refine (eq_any a b ca cb xs ys _ hx hy ((ha.alloc _).alloc _) ((hb.alloc _).alloc _)).mono ?_
      rintro e w1 ⟨rfl, hb1⟩
      have B := mkHid (below_allocs (os := [_, _]) hb1)
      clear hb1 ha hb al
      by_cases h3 : xs = ys
      · go_wp2
        go_ret
        exact ⟨ret_eq (by simp [h1, h2, h3]), B.out⟩
      · go_wp2
        go_ret
        exact ⟨ret_eq (by simp [h3]), B.out⟩
    · go_wp2
      go_ret
      exact ⟨ret_eq (by simp [h2]), al _ _⟩
  · go_wp2
    go_ret
    exact ⟨ret_eq (by simp [h1]), al _ _⟩

set_option maxRecDepth 100000 in
theorem eqO_any (R C R' C' k k' : Int) (a b : Option Addr) (ca cb : Nat) (xs ys : List Int) (w : World) (hx : xs.length ≤ 1048576) (hy : ys.length ≤ 1048576) (ha : Rd w a xs) (hb : Rd w b ys) :
    Calls Try.prog 13 #[mout R C a xs.length ca k, mout R' C' b ys.length cb k'] w fun e w' => e = .returned (.bool (decide (R = R' ∧ C = C' ∧ xs = ys ∧ k = k'))) ∧ Below w.heap.size w w' := by
  unfold mout
  go_enter Try.func13, Try.ntmps13
  go_wp2_with fail
  refine (eqM_any R C R' C' a b ca cb xs ys _ hx hy ((ha.alloc _).alloc _) ((hb.alloc _).alloc _)).mono ?_
  rintro e w1 ⟨rfl, hb1⟩
  have B := mkHid (below_allocs (os := [_, _]) hb1)
  have k0 := blk_below (blk_old (blk_new w (.cells #[.int .i64 R, .int .i64 C, .slice a xs.length ca, .int .i64 k] 32) w.heap.size rfl) (.cells #[.int .i64 R', .int .i64 C', .slice b ys.length cb, .int .i64 k'] 32)) hb1
  have k1 := blk_below (blk_new (w.alloc (.cells #[.int .i64 R, .int .i64 C, .slice a xs.length ca, .int .i64 k] 32)) (.cells #[.int .i64 R', .int .i64 C', .slice b ys.length cb, .int .i64 k'] 32) (w.heap.size + 1) (by simp)) hb1
  have c0 : w1.cell? ⟨w.heap.size, 3, none⟩ = some (.int .i64 k) := cell_of_block k0 3
  have c1 : w1.cell? ⟨w.heap.size + 1, 3, none⟩ = some (.int .i64 k') := cell_of_block k1 3
  clear hb1 ha hb k0 k1
  by_cases h3 : R = R' ∧ C = C' ∧ xs = ys
  · rw [decide_eq_true h3]
    by_cases h4 : k = k'
    · go_wp2
      go_ret
      exact ⟨ret_eq (by simp [h3, h4]), B.out⟩
    · go_wp2
      go_ret
      exact ⟨ret_eq (by simp [h4]), B.out⟩
  · rw [decide_eq_false h3]
    go_wp2
    go_ret
    exact ⟨ret_eq (by symm; apply decide_eq_false; intro h; exact h3 ⟨h.1, h.2.1, h.2.2.1⟩), B.out⟩

/-- cells that may be written: none, or a block of their own -/
def OwnV (w : World) (a : Option Addr) (zs : List Int) : Prop := (a = none ∧ zs = []) ∨ ∃ g, a = some ⟨g, 0, none⟩ ∧ Own w g zs
/-- all that was there stays, but for the block of these cells -/
def GrewV (w w' : World) (a : Option Addr) : Prop := w.grownBy w' (a.map (·.block))
theorem OwnV.rd {w : World} {a : Option Addr} {zs : List Int} (h : OwnV w a zs) : Rd w a zs := by
  rcases h with ⟨rfl, rfl⟩ | ⟨g, rfl, ho⟩
  · exact Rd.nil w
  · exact ho.rd
theorem OwnV.below {w w' : World} {a : Option Addr} {zs : List Int} (h : OwnV w a zs) (hb : Below w.heap.size w w') : OwnV w' a zs := by
  rcases h with ⟨rfl, rfl⟩ | ⟨g, rfl, ho⟩
  · exact .inl ⟨rfl, rfl⟩
  · exact .inr ⟨g, rfl, ho.below hb⟩
theorem OwnV.alloc {w : World} {a : Option Addr} {zs : List Int} (h : OwnV w a zs) (o : Obj) : OwnV (w.alloc o) a zs := h.below ((Below.refl _ _).alloc (Nat.le_refl _) o)
theorem grewV_alloc {w w' : World} {a : Option Addr} {o : Obj} (h : GrewV (w.alloc o) w' a) : GrewV w w' a := grew_trans (World.grownBy_alloc w o _) h

theorem markI_any (a : Option Addr) (cap : Nat) (zs : List Int) (m : Int) (w : World) (hl : zs.length ≤ 1048576) (hm : 0 ≤ m) (hm1 : m ≤ 3000000) (hr : OwnV w a zs) :
    Calls Try.prog 16 #[.slice a zs.length cap, .int .i64 m] w fun e w' => e = .returned (.int .i64 (m + zs.length)) ∧ OwnV w' a (from_ m zs.length) ∧ GrewV w w' a := by
  rcases hr with ⟨rfl, rfl⟩ | ⟨g, rfl, ho⟩
  · refine (mark_nil cap none m w).mono ?_
    rintro e w1 ⟨rfl, rfl⟩
    exact ⟨by simp, .inl ⟨rfl, rfl⟩, grew_refl _ _⟩
  · refine (mark_any g cap zs m w hl hm hm1 ho).mono ?_
    rintro e w1 ⟨rfl, h1, h2⟩
    exact ⟨rfl, .inr ⟨g, rfl, h1⟩, h2⟩

set_option maxRecDepth 100000 in
theorem markM_any (R C : Int) (a : Option Addr) (cap : Nat) (zs : List Int) (m : Int) (w : World) (hl : zs.length ≤ 1048576) (hm : 0 ≤ m) (hm1 : m ≤ 3000000) (hr : OwnV w a zs) :
    Calls Try.prog 15 #[mat R C a zs.length cap, .int .i64 m] w fun e w' => e = .returned (.int .i64 (m + zs.length)) ∧ OwnV w' a (from_ m zs.length) ∧ GrewV w w' a := by
  unfold mat
  go_enter Try.func15, Try.ntmps15
  go_wp2_with fail
  refine (markI_any a cap zs m _ hl hm hm1 (hr.alloc _)).mono ?_
  rintro e w1 ⟨rfl, h1, h2⟩
  have B := mkHid (And.intro h1 (grewV_alloc h2))
  clear h1 h2 hr
  go_wp2
  go_ret
  exact ⟨rfl, B.out⟩

set_option maxRecDepth 100000 in
theorem markO_any (R C k : Int) (a : Option Addr) (cap : Nat) (zs : List Int) (m : Int) (w : World) (hl : zs.length ≤ 1048576) (hm : 0 ≤ m) (hm1 : m ≤ 3000000) (hr : OwnV w a zs) :
    Calls Try.prog 17 #[mout R C a zs.length cap k, .int .i64 m] w fun e w' => e = .returned (.int .i64 (m + zs.length)) ∧ OwnV w' a (from_ m zs.length) ∧ GrewV w w' a := by
  unfold mout
  go_enter Try.func17, Try.ntmps17
  go_wp2_with fail
  refine (markM_any R C a cap zs m _ hl hm hm1 (hr.alloc _)).mono ?_
  rintro e w1 ⟨rfl, h1, h2⟩
  have B := mkHid (And.intro h1 (grewV_alloc h2))
  clear h1 h2 hr
  go_wp2
  go_ret
  exact ⟨rfl, B.out⟩

set_option maxRecDepth 100000 in
theorem heldM_any (R C : Int) (a : Option Addr) (cap n : Nat) (m : Int) (w : World) (hl : n ≤ 1048576) (hm : 0 ≤ m) (hm1 : m ≤ 3000000) (hr : Rd w a (from_ m n)) :
    Calls Try.prog 28 #[mat R C a n cap, .int .i64 m] w fun e w' => e = .returned (.int .i64 (m + n)) ∧ Below w.heap.size w w' := by
  unfold mat
  go_enter Try.func28, Try.ntmps28
  go_wp2_with fail
  refine (held_any a cap n m _ hl hm hm1 (hr.alloc _)).mono ?_
  rintro e w1 ⟨rfl, rfl⟩
  have h0 : 0 ≤ m + (n : Int) := by omega
  clear hr
  go_wp2
  go_ret
  exact ⟨rfl, (Below.refl _ _).alloc (Nat.le_refl _) _⟩

set_option maxRecDepth 100000 in
theorem heldO_any (R C k : Int) (a : Option Addr) (cap n : Nat) (m : Int) (w : World) (hl : n ≤ 1048576) (hm : 0 ≤ m) (hm1 : m ≤ 3000000) (hr : Rd w a (from_ m n)) :
    Calls Try.prog 18 #[mout R C a n cap k, .int .i64 m] w fun e w' => e = .returned (.int .i64 (m + n)) ∧ Below w.heap.size w w' := by
  unfold mout
  go_enter Try.func18, Try.ntmps18
  go_wp2_with fail
  refine (heldM_any R C a cap n m _ hl hm hm1 (hr.alloc _)).mono ?_
  rintro e w1 ⟨rfl, hb⟩
  have B := mkHid (below_allocs (os := [_]) hb)
  have h0 : 0 ≤ m + (n : Int) := by omega
  clear hr hb
  go_wp2
  go_ret
  exact ⟨rfl, B.out⟩

end Go.Proofs.Ytoklibbefjnlhab.mats
