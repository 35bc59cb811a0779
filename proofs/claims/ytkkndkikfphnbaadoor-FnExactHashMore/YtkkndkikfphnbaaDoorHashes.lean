/-
  What laws.szHash, toHash, eqHash, markHash and heldHash answer and leave. Conditions: at most 1,048,576 numbers, which lie in memory; numbers that are written lie in a block of their own.
-/
import Derived.Test.YtkkndkikfphnbaaDoorOwnV
import Derived.Test.YtkkndkikfphnbaaDoorRowF
namespace Go.Proofs.YtkkndkikfphnbaaDoor.hashes
open Go.RowKit Go.Joins
open Go.Proofs.YtkkndkikfphnbaaDoor.base Go.Proofs.YtkkndkikfphnbaaDoor.ints Go.Proofs.YtkkndkikfphnbaaDoor.blk
open Go.Proofs.YtkkndkikfphnbaaDoor.sha (hash zeroH)
set_option linter.unusedVariables false

theorem val_eq {a b : Value} (h : a = b) : Ending.returned a = Ending.returned b := by rw [h]
theorem bytes_ne {r s : ByteArray} (h : ¬ r = s) : (r.toList == s.toList) = false := by
  rw [ByteArray.toList_eq, ByteArray.toList_eq]
  simp
  intro e
  apply h
  apply ByteArray.ext
  exact e
/-- what is left when a Hash is counted -/
def szv (m : Int) (n l : Nat) : Int := if m - n < 0 then -1 else if m - n - l < 0 then -1 else m - n - l

set_option maxRecDepth 100000 in
theorem szH_any (a : Option Addr) (len cap : Nat) (r : ByteArray) (size m : Int) (w : World) (hl : (len : Int) ≤ 9223372036854775807) (hrl : (r.size : Int) ≤ 9223372036854775807) (hm : 0 ≤ m) (hm1 : m ≤ 1048576) :
    Calls Tryd.prog 18 #[hash a len cap r size, .int .i64 m] w fun e w' => e = .returned (.int .i64 (szv m len r.size)) ∧ Below w.heap.size w w' := by
  unfold sha.hash
  go_enter Tryd.func18, Tryd.ntmps18
  go_wp2_with fail
  refine (sz_any a len cap m _ hl hm hm1).mono ?_
  rintro e w1 ⟨rfl, rfl⟩
  by_cases h : m - len < 0
  · have E := mkHid (show szv m len r.size = -1 by unfold szv; rw [if_pos h])
    rw [if_pos h]
    go_wp2
    go_ret
    exact ⟨val_eq (by rw [E.out]; rfl), below_alloc1 w _⟩
  · rw [if_neg h]
    have h' : 0 ≤ m - (len : Int) := by omega
    by_cases h2 : m - (len : Int) - (r.size : Int) < 0
    · have E := mkHid (show szv m len r.size = -1 by unfold szv; rw [if_neg h, if_pos h2])
      go_wp2
      go_ret
      exact ⟨val_eq (by rw [E.out]; rfl), below_alloc1 w _⟩
    · have h2' : 0 ≤ m - (len : Int) - (r.size : Int) := by omega
      have E := mkHid (show szv m len r.size = m - len - r.size by unfold szv; rw [if_neg h, if_neg h2])
      go_wp2
      go_ret
      exact ⟨val_eq (by rw [E.out]; rfl), below_alloc1 w _⟩

set_option maxRecDepth 100000 in
theorem toH_any (a : Option Addr) (cap : Nat) (zs : List Int) (r : ByteArray) (size : Int) (w : World) (hl : zs.length ≤ 1048576) (hr : Rd w a zs) :
    Calls Tryd.prog 20 #[hash a zs.length cap r size] w fun e w' => e = .returned (hash (some ⟨w.heap.size + 3, 0, none⟩) zs.length zs.length r size) ∧ Own w' (w.heap.size + 3) zs ∧ Below w.heap.size w w' := by
  unfold sha.hash
  go_enter Tryd.func20, Tryd.ntmps20
  go_wp2_with fail
  refine (to_any a cap zs _ hl (((hr.alloc _).alloc _).alloc _)).mono ?_
  rintro e w1 ⟨rfl, ho, hb⟩
  have s3 : (((w.alloc (.cells #[.slice a zs.length cap, .string r, .int .i64 size] 35)).alloc zeroH).alloc zeroH).heap.size = w.heap.size + 3 := by simp
  unfold zeroH at s3
  have k0 := blk_below (blk_old (blk_old (blk_new w _ w.heap.size rfl) _) _) hb
  have k1 := blk_below (blk_old (blk_new (w.alloc _) _ (w.heap.size + 1) (by simp)) _) hb
  have k2 := blk_below (blk_new ((w.alloc _).alloc _) _ (w.heap.size + 1 + 1) (by simp)) hb
  have B := mkHid (below_allocs (os := [_, _, _]) hb)
  rw [s3] at ho
  have O := mkHid ho
  have c0 : w1.cell? ⟨w.heap.size, 1, none⟩ = some (.string r) := cell_of_block k0 1
  have c1 : w1.cell? ⟨w.heap.size, 2, none⟩ = some (.int .i64 size) := cell_of_block k0 2
  have c10 : w1.cell? ⟨w.heap.size + 1, 0, none⟩ = some (.slice none 0 0) := cell_of_block k1 0
  have c11 : w1.cell? ⟨w.heap.size + 1, 1, none⟩ = some (.string ⟨#[]⟩) := cell_of_block k1 1
  have c12 : w1.cell? ⟨w.heap.size + 1, 2, none⟩ = some (.int .i64 0) := cell_of_block k1 2
  have c20 : w1.cell? ⟨w.heap.size + 1 + 1, 0, none⟩ = some (.slice none 0 0) := cell_of_block k2 0
  have c21 : w1.cell? ⟨w.heap.size + 1 + 1, 1, none⟩ = some (.string ⟨#[]⟩) := cell_of_block k2 1
  have c22 : w1.cell? ⟨w.heap.size + 1 + 1, 2, none⟩ = some (.int .i64 0) := cell_of_block k2 2
  have f1 : ∀ j, w1.frozen? ⟨w.heap.size + 1, j, none⟩ = false := unfrozen_of_block k1
  have f2 : ∀ j, w1.frozen? ⟨w.heap.size + 1 + 1, j, none⟩ = false := unfrozen_of_block k2
  rw [s3]
  clear k0 k1 k2 hb ho s3 hr
  go_wp2_with fail
  exact bodyPost_ret (v := .agg #[.slice (some ⟨w.heap.size + 3, 0, none⟩) zs.length zs.length, .string r, .int .i64 size]) (by simp [results, Tryd.results20, go_sem, c10, c11, c12]) rfl
    ⟨rfl, ((((((O.out.other _ _ (by simp)).other _ _ (by simp)).other _ _ (by simp)).other _ _ (by simp)).other _ _ (by simp)).other _ _ (by simp)), ((((((B.out.setCell (by first | (simp; done) | (simp; omega)) _).setCell (by first | (simp; done) | (simp; omega)) _).setCell (by first | (simp; done) | (simp; omega)) _).setCell (by first | (simp; done) | (simp; omega)) _).setCell (by first | (simp; done) | (simp; omega)) _).setCell (by first | (simp; done) | (simp; omega)) _)⟩

set_option maxRecDepth 100000 in
theorem eqH_any (a b : Option Addr) (ca cb : Nat) (xs ys : List Int) (r s : ByteArray) (x y : Int) (w : World) (hx : xs.length ≤ 1048576) (hy : ys.length ≤ 1048576) (ha : Rd w a xs) (hb : Rd w b ys) :
    Calls Tryd.prog 21 #[hash a xs.length ca r x, hash b ys.length cb s y] w fun e w' => e = .returned (.bool (decide (xs = ys ∧ r = s ∧ x = y))) ∧ Below w.heap.size w w' := by
  unfold sha.hash
  go_enter Tryd.func21, Tryd.ntmps21
  go_wp2_with fail
  refine (eq_any a b ca cb xs ys _ hx hy ((ha.alloc _).alloc _) ((hb.alloc _).alloc _)).mono ?_
  rintro e w1 ⟨rfl, hb1⟩
  have B := mkHid (below_allocs (os := [_, _]) hb1)
  have k0 := blk_below (blk_old (blk_new w (.cells #[.slice a xs.length ca, .string r, .int .i64 x] 27) w.heap.size rfl) (.cells #[.slice b ys.length cb, .string s, .int .i64 y] 27)) hb1
  have k1 := blk_below (blk_new (w.alloc (.cells #[.slice a xs.length ca, .string r, .int .i64 x] 27)) (.cells #[.slice b ys.length cb, .string s, .int .i64 y] 27) (w.heap.size + 1) (by simp)) hb1
  have c0 : w1.cell? ⟨w.heap.size, 1, none⟩ = some (.string r) := cell_of_block k0 1
  have c1 : w1.cell? ⟨w.heap.size + 1, 1, none⟩ = some (.string s) := cell_of_block k1 1
  have d0 : w1.cell? ⟨w.heap.size, 2, none⟩ = some (.int .i64 x) := cell_of_block k0 2
  have d1 : w1.cell? ⟨w.heap.size + 1, 2, none⟩ = some (.int .i64 y) := cell_of_block k1 2
  clear hb1 ha hb k0 k1
  by_cases h3 : xs = ys
  · rw [decide_eq_true h3]
    by_cases h4 : r = s
    · subst h4
      by_cases h5 : x = y
      · go_wp2
        go_ret
        exact ⟨ints.ret_eq (by simp), B.out⟩
      · go_wp2
        go_ret
        exact ⟨ints.ret_eq (by simp), B.out⟩
    · have h4' := bytes_ne h4
      go_wp2
      go_ret
      exact ⟨ints.ret_eq (by simp [h4]), B.out⟩
  · rw [decide_eq_false h3]
    go_wp2
    go_ret
    exact ⟨ints.ret_eq (by simp [h3]), B.out⟩

set_option maxRecDepth 100000 in
theorem markH_any (a : Option Addr) (cap : Nat) (zs : List Int) (r : ByteArray) (size m : Int) (w : World) (hl : zs.length ≤ 1048576) (hm : 0 ≤ m) (hm1 : m ≤ 3000000) (hr : OwnV w a zs) :
    Calls Tryd.prog 22 #[hash a zs.length cap r size, .int .i64 m] w fun e w' => e = .returned (.int .i64 (m + zs.length)) ∧ OwnV w' a (from_ m zs.length) ∧ GrewV w w' a := by
  unfold sha.hash
  go_enter Tryd.func22, Tryd.ntmps22
  go_wp2_with fail
  refine (markI_any a cap zs m _ hl hm hm1 (hr.alloc _)).mono ?_
  rintro e w1 ⟨rfl, h1, h2⟩
  have B := mkHid (And.intro h1 (grewV_alloc h2))
  clear h1 h2 hr
  go_wp2
  go_ret
  exact ⟨rfl, B.out⟩

set_option maxRecDepth 100000 in
theorem heldH_any (a : Option Addr) (cap n : Nat) (r : ByteArray) (size m : Int) (w : World) (hl : n ≤ 1048576) (hm : 0 ≤ m) (hm1 : m ≤ 3000000) (hr : Rd w a (from_ m n)) :
    Calls Tryd.prog 23 #[hash a n cap r size, .int .i64 m] w fun e w' => e = .returned (.int .i64 (m + n)) ∧ Below w.heap.size w w' := by
  unfold sha.hash
  go_enter Tryd.func23, Tryd.ntmps23
  go_wp2_with fail
  refine (held_any a cap n m _ hl hm hm1 (hr.alloc _)).mono ?_
  rintro e w1 ⟨rfl, rfl⟩
  have h0 : 0 ≤ m + (n : Int) := by omega
  clear hr
  go_wp2
  go_ret
  exact ⟨rfl, (Below.refl _ _).alloc (Nat.le_refl _) _⟩
end Go.Proofs.YtkkndkikfphnbaaDoor.hashes
