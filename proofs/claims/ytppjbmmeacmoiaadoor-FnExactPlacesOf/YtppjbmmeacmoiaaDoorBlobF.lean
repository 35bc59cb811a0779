/-
  What spec.BlobRight, spec.BlobKey, impl.BlobRight, impl.BlobKey and laws.szBlob, toBlob, eqBlob answer and leave. Conditions: a text of at most 1,048,576 bytes; for the program's key: the numbers of the rounds are there.
-/
import Derived.Test.YtppjbmmeacmoiaaDoorPackP
import Derived.Test.YtppjbmmeacmoiaaDoorAid
import Derived.Test.YtppjbmmeacmoiaaDoorKindI
import Derived.Test.YtppjbmmeacmoiaaDoorHImpl
import Derived.Deep.RegionHeld3
import Derived.Deep.QuietTactic
import Derived.BigQuiet
import Derived.BigRegion
namespace Go.Proofs.YtppjbmmeacmoiaaDoor.pack
open Go.RowKit Go.Joins
open Go.Proofs.YtppjbmmeacmoiaaDoor.base Go.Proofs.YtppjbmmeacmoiaaDoor.blk Go.Proofs.YtppjbmmeacmoiaaDoor.aid
open Go.Proofs.YtppjbmmeacmoiaaDoor.sha (digest GV)
set_option linter.unusedVariables false

set_option maxRecDepth 100000 in
theorem right_spec (k : Int) (t : ByteArray) (w : World) :
    Calls Tryd.prog 58 #[.agg #[.int .i64 k, .string t]] w fun e w' => e = .returned (.bool (bRight (k, t))) ∧ Below w.heap.size w w' := by
  go_enter Tryd.func58, Tryd.ntmps58
  go_wp2
  all_goals go_ret
  all_goals exact ⟨ret_eq (by simp [bRight, *] <;> omega), below_alloc1 _ _⟩

set_option maxRecDepth 100000 in
theorem right_impl (k : Int) (t : ByteArray) (w : World) :
    Calls Tryd.prog 62 #[.agg #[.int .i64 k, .string t]] w fun e w' => e = .returned (.bool (bRight (k, t))) ∧ Below w.heap.size w w' := by
  have HK := mkHid (fun wx => kind.kind_any k wx)
  cases hk : kind.kindB k with
  | false =>
    rw [hk] at HK
    have hk2 := mkHid (show ¬ (k = 1 ∨ k = 2) by unfold kind.kindB at hk; simp at hk; omega)
    clear hk
    go_enter Tryd.func62, Tryd.ntmps62
    go_wp2_with fail
    refine (HK.out _).mono ?_
    rintro e w1 ⟨rfl, rfl⟩
    go_wp2
    go_ret
    exact ⟨ret_eq (by have := hk2.out; simp [bRight]; omega), below_alloc1 _ _⟩
  | true =>
    rw [hk] at HK
    have hk2 := mkHid (show k = 1 ∨ k = 2 by unfold kind.kindB at hk; simpa using hk)
    clear hk
    go_enter Tryd.func62, Tryd.ntmps62
    go_wp2_with fail
    refine (HK.out _).mono ?_
    rintro e w1 ⟨rfl, rfl⟩
    go_wp2
    go_ret
    exact ⟨ret_eq (by have := hk2.out; simp [bRight, this]; omega), below_alloc1 _ _⟩

theorem num_spec (k : Int) (w : World) (h : 0 ≤ k) (h2 : k ≤ 2000) :
    Calls Tryd.prog 60 #[.int .i64 k] w fun e w' => e = .returned (.string (numB k)) ∧ Below w.heap.size w w' :=
  fnExactPutNum.spec_any k w (by omega) (by omega) (2 * k.toNat) (by unfold fnExactPutNum.fold; rw [if_neg (by omega)]; omega) (by omega)
theorem num_impl (k : Int) (w : World) (h : 0 ≤ k) (h2 : k ≤ 2000) :
    Calls Tryd.prog 64 #[.int .i64 k] w fun e w' => e = .returned (.string (numB k)) ∧ Below w.heap.size w w' :=
  fnExactPutNum.impl_any k w (by omega) (by omega) (2 * k.toNat) (by unfold fnExactPutNum.fold; rw [if_neg (by omega)]; omega) (by omega)

set_option maxRecDepth 100000 in
theorem key_spec (k : Int) (t : ByteArray) (w : World) :
    Calls Tryd.prog 41 #[.agg #[.int .i64 k, .string t]] w fun e w' => e = .returned (.string (bKey (k, t))) ∧ Below w.heap.size w w' := by
  have HR := mkHid (fun wx => right_spec k t wx)
  cases hr : bRight (k, t)
  · rw [hr] at HR
    have E := mkHid (bRight_no hr)
    go_enter Tryd.func41, Tryd.ntmps41
    go_wp2_with fail
    refine (HR.out _).mono ?_
    rintro e w1 ⟨rfl, hb1⟩
    go_wp2
    go_ret
    exact ⟨ret_eq (by rw [E.out]; rfl), below_allocs (os := [_]) hb1⟩
  · rw [hr] at HR
    obtain ⟨h1, h2⟩ := bRight_parts hr
    have h3 := numB_size hr
    have E := mkHid (show bKey (k, t) = digest (numB k ++ t) by unfold bKey; rw [if_pos hr])
    have HN := mkHid (fun wx => num_spec k wx (by simp at h1; omega) (by simp at h1; omega))
    have HD := mkHid (fun wx => sha.digest_any (numB k ++ t) wx (by rw [ByteArray.size_append]; simp at h2 h3; omega))
    have hsum : (numB k).size + t.size ≤ 9223372036854775807 := by simp at h2 h3; omega
    have hadd := fun wx => run_string_add_sum (P := Tryd.prog) wx (numB k) t hsum
    generalize numB k = p at *
    clear h1 h2 h3 hr hsum
    go_enter Tryd.func41, Tryd.ntmps41
    go_wp2_with fail
    refine (HR.out _).mono ?_
    rintro e w1 ⟨rfl, hb1⟩
    have B1 := mkHid (below_allocs (os := [_]) hb1)
    have K1 := mkHid (blk_below (blk_new w (.cells #[.int .i64 k, .string t] 53) w.heap.size rfl) hb1)
    have c0 : w1.cell? ⟨w.heap.size, 0, none⟩ = some (.int .i64 k) := by simp [World.cell?, K1.out]
    have c1 : w1.cell? ⟨w.heap.size, 1, none⟩ = some (.string t) := by simp [World.cell?, K1.out]
    clear hb1 HR
    go_wp2_with fail
    go_region_held3 (fun w' => w'.cell? ⟨w.heap.size, 0, none⟩ = some (.int .i64 k) ∧ w'.cell? ⟨w.heap.size, 1, none⟩ = some (.string t)) (go_keep)
      ((first
        | (go_at_call 60; refine Calls.mono (HN.out _) ?_; rintro e w2 ⟨rfl, hb2⟩; have B2 := mkHid (B1.out.trans ((re (w := w1) hb2 rfl rfl rfl rfl).mono B1.out.size)); have K2 := mkHid (blk_below K1.out (re hb2 rfl rfl rfl rfl)); obtain ⟨a0, a1⟩ := cel2 K2.out; clear hb2)
        | (go_at_call 59; refine Calls.mono (HD.out _) ?_; rintro e w3 ⟨rfl, hb3⟩; have B3 := mkHid (B2.out.trans ((re (w := w2) hb3 rfl rfl rfl rfl).mono B2.out.size)); have K3 := mkHid (blk_below K2.out (re hb3 rfl rfl rfl rfl)); obtain ⟨d0, d1⟩ := cel2 K3.out; clear hb3)))
    go_wp2
    go_ret
    exact ⟨ret_eq (by rw [E.out]; rfl), B3.out⟩
set_option maxRecDepth 100000 in
theorem key_impl (k : Int) (t : ByteArray) (w : World) (I : himpl.IDigest) (hG : GV w) :
    Calls Tryd.prog 45 #[.agg #[.int .i64 k, .string t]] w fun e w' => e = .returned (.string (bKey (k, t))) ∧ Below w.heap.size w w' := by
  have HR := mkHid (fun wx => right_impl k t wx)
  cases hr : bRight (k, t)
  · rw [hr] at HR
    have E := mkHid (bRight_no hr)
    go_enter Tryd.func45, Tryd.ntmps45
    go_wp2_with fail
    refine (HR.out _).mono ?_
    rintro e w1 ⟨rfl, hb1⟩
    go_wp2
    go_ret
    exact ⟨ret_eq (by rw [E.out]; rfl), below_allocs (os := [_]) hb1⟩
  · rw [hr] at HR
    obtain ⟨h1, h2⟩ := bRight_parts hr
    have h3 := numB_size hr
    have E := mkHid (show bKey (k, t) = digest (numB k ++ t) by unfold bKey; rw [if_pos hr])
    have HN := mkHid (fun wx => num_impl k wx (by simp at h1; omega) (by simp at h1; omega))
    have HD := mkHid (fun wx (hb : Below w.heap.size w wx) => I (numB k ++ t) wx (by rw [ByteArray.size_append]; simp at h2 h3; omega) (hG.below hb hG.lt))
    have hsum : (numB k).size + t.size ≤ 9223372036854775807 := by simp at h2 h3; omega
    have hadd := fun wx => run_string_add_sum (P := Tryd.prog) wx (numB k) t hsum
    generalize numB k = p at *
    clear h1 h2 h3 hr hsum hG I
    go_enter Tryd.func45, Tryd.ntmps45
    go_wp2_with fail
    refine (HR.out _).mono ?_
    rintro e w1 ⟨rfl, hb1⟩
    have B1 := mkHid (below_allocs (os := [_]) hb1)
    have K1 := mkHid (blk_below (blk_new w (.cells #[.int .i64 k, .string t] 53) w.heap.size rfl) hb1)
    have c0 : w1.cell? ⟨w.heap.size, 0, none⟩ = some (.int .i64 k) := by simp [World.cell?, K1.out]
    have c1 : w1.cell? ⟨w.heap.size, 1, none⟩ = some (.string t) := by simp [World.cell?, K1.out]
    clear hb1 HR
    go_wp2_with fail
    go_region_held3 (fun w' => w'.cell? ⟨w.heap.size, 0, none⟩ = some (.int .i64 k) ∧ w'.cell? ⟨w.heap.size, 1, none⟩ = some (.string t)) (go_keep)
      ((first
        | (go_at_call 64; refine Calls.mono (HN.out _) ?_; rintro e w2 ⟨rfl, hb2⟩; have B2 := mkHid (B1.out.trans ((re (w := w1) hb2 rfl rfl rfl rfl).mono B1.out.size)); have K2 := mkHid (blk_below K1.out (re hb2 rfl rfl rfl rfl)); obtain ⟨a0, a1⟩ := cel2 K2.out; clear hb2)
        | (go_at_call 63; refine Calls.mono (HD.out _ (by first | exact B2.out | exact B2.out.drew)) ?_; rintro e w3 ⟨rfl, hb3⟩; have B3 := mkHid (B2.out.trans ((re (w := w2) hb3 rfl rfl rfl rfl).mono B2.out.size)); have K3 := mkHid (blk_below K2.out (re hb3 rfl rfl rfl rfl)); obtain ⟨d0, d1⟩ := cel2 K3.out; clear hb3)))
    go_wp2
    go_ret
    exact ⟨ret_eq (by rw [E.out]; rfl), B3.out⟩
end Go.Proofs.YtppjbmmeacmoiaaDoor.pack
