/-
  What slices.Delete answers and leaves of one file. Conditions: a row of our own of at most 1,048,576 files.
-/
import Derived.Test.YtfckgpmphcadeaaDrvQ
namespace Go.Proofs.Ytfckgpmphcadeaa.drv
open Go.RowKit Go.Joins Go.Sort
open Go.Proofs.Ytfckgpmphcadeaa.base Go.Proofs.Ytfckgpmphcadeaa.blk Go.Proofs.Ytfckgpmphcadeaa.aid
open Go.Proofs.Ytfckgpmphcadeaa.row (Rd Own OwnV appSem app_fold)
open Go.Proofs.Ytfckgpmphcadeaa.rwStored (cs)
set_option linter.unusedVariables false

theorem lo_ne {g j c : Nat} (h : c ≠ j) : lo (some ⟨g, 0, none⟩) j c = some ⟨g, j * 3, none⟩ := by
  unfold lo
  rw [if_neg h, Option.map_some, Addr.add_lit, Nat.zero_add]
set_option maxRecDepth 100000 in
theorem sl_lh (a : Option Addr) (n c j k m : Nat) (h1 : j ≤ k) (h2 : k ≤ c) (hm : k - j = m) (x y : Int) (hx : x = (j : Int)) (hy : y = (k : Int)) (wx : World) : (sliceSem 23 (.slice a n c) (some (.int .i64 x)) (some (.int .i64 y)) none).run Try.prog wx = .ok (.slice (lo a j c) m (c - j)) wx := by
  subst hx hy hm
  have h1 := run_slice_lh (P := Try.prog) wx 23 a n c und_is .i64 .i64 (j : Int) (k : Int) (by omega) (by omega) (by omega)
  rw [elem_is, size_is] at h1
  refine h1.trans ?_
  simp only [Result.andThen, sliced]
  have e : (j : Int).toNat = j := by omega
  have e2 : (k : Int).toNat = k := by omega
  rw [e, e2]
  unfold lo
  congr 2
set_option maxRecDepth 100000 in
theorem sl_lhm (a : Option Addr) (n c : Nat) (x y z : Int) (h0 : 0 ≤ x) (h1 : x ≤ y) (h2 : y ≤ z) (h3 : z ≤ (c : Int)) : ∃ v, ∀ wx, (sliceSem 23 (.slice a n c) (some (.int .i64 x)) (some (.int .i64 y)) (some (.int .i64 z))).run Try.prog wx = .ok v wx := by
  refine ⟨sliced a x.toNat y.toNat z.toNat 3, fun wx => ?_⟩
  have h1 := run_slice_lhm (P := Try.prog) wx 23 a n c und_is .i64 .i64 .i64 x y z h0 h1 h2 h3
  rw [elem_is, size_is] at h1
  refine h1.trans ?_
  rfl

attribute [local go_sem ↓] app_fold slice_fold copy_fold clear_fold
set_option maxRecDepth 100000 in
set_option maxHeartbeats 2000000 in
theorem delete_any (base g c i k : Nat) (l : List File) (w : World) (hk : l.length = k + 1) (hi : i ≤ k) (hl : k ≤ 1048576) (ho : w.ownsRow base 39 3 (.slice (some ⟨g, 0, none⟩) (k + 1) c) (k + 1) (cs l)) :
    Calls Try.prog 145 #[.slice (some ⟨g, 0, none⟩) (k + 1) c, .int .i64 (i : Int), .int .i64 ((i : Int) + 1)] w fun e w' =>
      e = .returned (.slice (some ⟨g, 0, none⟩) k c) ∧ w'.ownsRow base 39 3 (.slice (some ⟨g, 0, none⟩) k c) k (cs (out l i)) ∧ w.grownBy w' (some g) := by
  obtain ⟨ex, hB, hbg, hnc, hcm, _⟩ := B3.of ho
  obtain ⟨v0, hS0⟩ := sl_lhm (some ⟨g, 0, none⟩) (k + 1) c (i : Int) ((i : Int) + 1) ((k : Int) + 1) (by omega) (by omega) (by omega) (by omega)
  have hS1 := fun wx => sl_hi (some ⟨g, 0, none⟩) (k + 1) c i (by omega) wx
  have hS2 := fun wx => sl_lo (some ⟨g, 0, none⟩) (k + 1) c (i + 1) (by omega) wx
  have ei : ((i + 1 : Nat) : Int) = (i : Int) + 1 := by omega
  rw [ei, show k + 1 - (i + 1) = k - i by omega] at hS2
  have hSplit : cs l ++ ex = cs (l.take i) ++ (cs [l[i]'(by omega)] ++ (cs (l.drop (i + 1)) ++ ex)) := by
    rw [← List.append_assoc, ← List.append_assoc, ← rwStored.cs_app, ← rwStored.cs_app]
    congr 2
    rw [List.append_assoc, List.singleton_append, ← List.drop_eq_getElem_cons, List.take_append_drop]
  have hl1 : (cs (l.take i)).length = i * 3 := by rw [rwStored.cs_len, List.length_take]; omega
  have hl2 : (cs (l.drop (i + 1))).length = (k - i) * 3 := by rw [rwStored.cs_len, List.length_drop]; omega
  have hrd : Rd w.drew (lo (some ⟨g, 0, none⟩) (i + 1) c) (cs (l.drop (i + 1))) := rd_drop (c := c) (w := w.drew) (Own.owns (w := w.drew) ho).rd (i + 1) (by omega) (by omega)
  obtain ⟨w1, happ, hB1, hg1⟩ := put_app (w := w.drew) (i := i) (m := k - i) (tot := k) hB _ (c - (i + 1)) _ hl2 hrd (cs_one _) (by omega) (by omega)
  rw [hSplit, lay3_app hl1] at hB1
  have hl3 : (cs (l.take i) ++ cs (l.drop (i + 1))).length = k * 3 := by simp only [List.length_append]; omega
  obtain ⟨zs, w2, hclr, hzl, hB2, hg2⟩ := put_clear (o := k) (m := 1) hB1 (c - k) (by omega) (by omega)
  rw [lay3_app hl3, ← rwStored.cs_app, List.append_assoc] at hB2
  have hS3 := fun wx => sl_lh (some ⟨g, 0, none⟩) k c k (k + 1) 1 (by omega) (by omega) (by omega) (k : Int) ((k : Int) + 1) rfl (by omega) wx
  rw [lo_ne (show c ≠ k by omega)] at hS3
  have HP := mkHid (And.intro (B3.owns (base := base) hB2 hbg (show (l.take i ++ l.drop (i + 1)).length = k by simp; omega) (by omega) hcm) (grew_grew (grew_from hg1 (w := w) rfl rfl rfl rfl) hg2))
  clear hB hB1 hB2 hg1 hg2 hrd hSplit hl1 hl2 hl3 ho ei hzl
  have hne : ¬ (i : Int) = (i : Int) + 1 := by omega
  go_enter Try.func145, Try.ntmps145
  go_wp2_with fail
  go_region
  go_wp2
  go_ret
  exact ⟨rfl, HP.out.1, HP.out.2⟩
end Go.Proofs.Ytfckgpmphcadeaa.drv
