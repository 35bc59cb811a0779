/-
  The bytes of a snapshot in plain words; what SnapBytes of both answers and leaves. Condition: texts of at most 1,048,576 bytes.
-/
import Derived.Test.YtlcdbkelonbcfaaSnP
import Derived.Test.YtlcdbkelonbcfaaNumBk
import Derived.Test.YtlcdbkelonbcfaaPutText
import Derived.Deep.RegionHeld3
namespace Go.Proofs.Ytlcdbkelonbcfaa.snp
open Go.RowKit Go.Joins
open Go.Proofs.Ytlcdbkelonbcfaa.base Go.Proofs.Ytlcdbkelonbcfaa.blk Go.Proofs.Ytlcdbkelonbcfaa.aid
set_option linter.unusedVariables false
set_option linter.unusedSimpArgs false

/-- the bytes of a snapshot: an S, its name, its day, its root -/
def bytesS (n : ByteArray) (d : Int) (r : ByteArray) : ByteArray := if snapB n d r = true then ((⟨#[83]⟩ : ByteArray) ++ (fnExactPutText.pre n.size ++ n)) ++ nbk.numB d ++ r else ⟨#[]⟩
theorem below_trans {w W V : World} (h : Below w.heap.size w W) (h2 : Below W.heap.size W V) : Below w.heap.size w V := h.trans (h2.mono h.size)
theorem numD_len {d : Int} (h0 : 0 ≤ d) (h1 : d ≤ 1000000) : (nbk.numB d).size ≤ 3 := by
  have h := nbk.num_len 2 (2 * d.toNat) (by omega)
  exact h
theorem numS_day (k : Int) (w : World) (h : 0 ≤ k) (h2 : k ≤ 1000000) :
    Calls Try.prog 54 #[.int .i64 k] w fun e w' => e = .returned (.string (nbk.numB k)) ∧ Below w.heap.size w w' :=
  fnExactPutNum.spec_any k w (by omega) (by omega) (2 * k.toNat) (by unfold fnExactPutNum.fold; rw [if_neg (by omega)]; omega) (by omega)
theorem numI_day (k : Int) (w : World) (h : 0 ≤ k) (h2 : k ≤ 1000000) :
    Calls Try.prog 56 #[.int .i64 k] w fun e w' => e = .returned (.string (nbk.numB k)) ∧ Below w.heap.size w w' :=
  fnExactPutNum.impl_any k w (by omega) (by omega) (2 * k.toNat) (by unfold fnExactPutNum.fold; rw [if_neg (by omega)]; omega) (by omega)
theorem cel3s {w : World} {g : Nat} {a b c : Value} {t : TypeId} {z : Nat × Nat} (h : w.heap[g]? = some (.cells #[a, b, c] t z)) : w.cell? ⟨g, 0, none⟩ = some a ∧ w.cell? ⟨g, 1, none⟩ = some b ∧ w.cell? ⟨g, 2, none⟩ = some c := by
  simp [World.cell?, h]
set_option maxRecDepth 100000 in
set_option maxHeartbeats 4000000 in
theorem bytesS_any (n : ByteArray) (d : Int) (r : ByteArray) (w : World) (hn : n.size ≤ 1048576) (hr : r.size ≤ 1048576) :
    Calls Try.prog 27 #[.agg #[.string n, .int .i64 d, .string r]] w fun e w' => e = .returned (.string (bytesS n d r)) ∧ Below w.heap.size w w' := by
  have HR := mkHid (fun wx => snapS_any n d r wx hn hr)
  have P0 := mkHid (And.intro (below_alloc1 w (.cells #[.string n, .int .i64 d, .string r] 53)) (blk_new w (.cells #[.string n, .int .i64 d, .string r] 53) w.heap.size rfl))
  cases hs : snapB n d r with
  | false =>
    rw [hs] at HR
    have E := mkHid (show bytesS n d r = ⟨#[]⟩ by unfold bytesS; rw [if_neg (by rw [hs]; simp)])
    rw [E.out]
    go_enter Try.func27, Try.ntmps27
    go_wp2_with fail
    refine (HR.out _).mono ?_
    rintro e w1 ⟨rfl, hb⟩
    have B1 := mkHid (below_trans P0.out.1 hb)
    clear hb
    go_wp2
    go_ret
    exact ⟨rfl, B1.out⟩
  | true =>
    rw [hs] at HR
    obtain ⟨q1, q2, q3, q4⟩ := snapB_parts hs
    have E := mkHid (show bytesS n d r = ((⟨#[83]⟩ : ByteArray) ++ (fnExactPutText.pre n.size ++ n)) ++ nbk.numB d ++ r by unfold bytesS; rw [if_pos hs])
    rw [E.out]
    have HT := mkHid (fun wx => fnExactPutText.spec_any n wx (by omega))
    have HM := mkHid (fun wx => numS_day d wx q2 q3)
    have k1 := fnExactPutText.pre_size n.size
    have k2 := numD_len q2 q3
    have hpt : (fnExactPutText.pre n.size ++ n).size ≤ 61 := by rw [ByteArray.size_append]; omega
    have h1 : (⟨#[83]⟩ : ByteArray).size = 1 := rfl
    generalize fnExactPutText.pre n.size ++ n = pt at *
    generalize nbk.numB d = nd at *
    have d1 := fun wx => run_string_add_sum (P := Try.prog) wx ⟨#[83]⟩ pt (by omega)
    have d2 := fun wx => run_string_add_sum (P := Try.prog) wx (⟨#[83]⟩ ++ pt) nd (by simp [ByteArray.size_append]; omega)
    have d3 := fun wx => run_string_add_sum (P := Try.prog) wx (⟨#[83]⟩ ++ pt ++ nd) r (by simp [ByteArray.size_append]; omega)
    clear hs E k1 k2
    go_enter Try.func27, Try.ntmps27
    go_wp2_with fail
    refine (HR.out _).mono ?_
    rintro e w1 ⟨rfl, hb⟩
    have P1 := mkHid (And.intro (below_trans P0.out.1 hb) (blk_below P0.out.2 hb))
    clear hb HR P0
    obtain ⟨c0, c1, c2⟩ := cel3s P1.out.2
    go_wp2_with fail
    go_region_held3 (fun w' => w'.cell? ⟨w.heap.size, 0, none⟩ = some (.string n) ∧ w'.cell? ⟨w.heap.size, 1, none⟩ = some (.int .i64 d) ∧ w'.cell? ⟨w.heap.size, 2, none⟩ = some (.string r)) (go_keep)
      ((first
        | (go_at_call 53; refine Calls.mono (HT.out _) ?_; rintro e w4 ⟨rfl, hb4⟩; have r4 := re (w := w1) hb4 rfl rfl rfl rfl; have P4 := mkHid (And.intro (below_trans P1.out.1 r4) (blk_below P1.out.2 r4)); obtain ⟨e0, e1, e2⟩ := cel3s P4.out.2; clear hb4 r4)
        | (go_at_call 54; refine Calls.mono (HM.out _) ?_; rintro e w5 ⟨rfl, hb5⟩; have r5 := re (w := w4) hb5 rfl rfl rfl rfl; have P5 := mkHid (And.intro (below_trans P4.out.1 r5) (blk_below P4.out.2 r5)); obtain ⟨f0, f1, f2⟩ := cel3s P5.out.2; clear hb5 r5)))
    go_wp2
    go_ret
    exact ⟨rfl, P5.out.1⟩
set_option maxRecDepth 100000 in
set_option maxHeartbeats 4000000 in
theorem bytesI_any (n : ByteArray) (d : Int) (r : ByteArray) (w : World) (hn : n.size ≤ 1048576) (hr : r.size ≤ 1048576) :
    Calls Try.prog 28 #[.agg #[.string n, .int .i64 d, .string r]] w fun e w' => e = .returned (.string (bytesS n d r)) ∧ Below w.heap.size w w' := by
  have HR := mkHid (fun wx => snapI_any n d r wx hn hr)
  have P0 := mkHid (And.intro (below_alloc1 w (.cells #[.string n, .int .i64 d, .string r] 53)) (blk_new w (.cells #[.string n, .int .i64 d, .string r] 53) w.heap.size rfl))
  cases hs : snapB n d r with
  | false =>
    rw [hs] at HR
    have E := mkHid (show bytesS n d r = ⟨#[]⟩ by unfold bytesS; rw [if_neg (by rw [hs]; simp)])
    rw [E.out]
    go_enter Try.func28, Try.ntmps28
    go_wp2_with fail
    refine (HR.out _).mono ?_
    rintro e w1 ⟨rfl, hb⟩
    have B1 := mkHid (below_trans P0.out.1 hb)
    clear hb
    go_wp2
    go_ret
    exact ⟨rfl, B1.out⟩
  | true =>
    rw [hs] at HR
    obtain ⟨q1, q2, q3, q4⟩ := snapB_parts hs
    have E := mkHid (show bytesS n d r = ((⟨#[83]⟩ : ByteArray) ++ (fnExactPutText.pre n.size ++ n)) ++ nbk.numB d ++ r by unfold bytesS; rw [if_pos hs])
    rw [E.out]
    have HT := mkHid (fun wx => fnExactPutText.impl_any n wx (by omega))
    have HM := mkHid (fun wx => numI_day d wx q2 q3)
    have k1 := fnExactPutText.pre_size n.size
    have k2 := numD_len q2 q3
    have hpt : (fnExactPutText.pre n.size ++ n).size ≤ 61 := by rw [ByteArray.size_append]; omega
    have h1 : (⟨#[83]⟩ : ByteArray).size = 1 := rfl
    generalize fnExactPutText.pre n.size ++ n = pt at *
    generalize nbk.numB d = nd at *
    have d1 := fun wx => run_string_add_sum (P := Try.prog) wx ⟨#[83]⟩ pt (by omega)
    have d2 := fun wx => run_string_add_sum (P := Try.prog) wx (⟨#[83]⟩ ++ pt) nd (by simp [ByteArray.size_append]; omega)
    have d3 := fun wx => run_string_add_sum (P := Try.prog) wx (⟨#[83]⟩ ++ pt ++ nd) r (by simp [ByteArray.size_append]; omega)
    clear hs E k1 k2
    go_enter Try.func28, Try.ntmps28
    go_wp2_with fail
    refine (HR.out _).mono ?_
    rintro e w1 ⟨rfl, hb⟩
    have P1 := mkHid (And.intro (below_trans P0.out.1 hb) (blk_below P0.out.2 hb))
    clear hb HR P0
    obtain ⟨c0, c1, c2⟩ := cel3s P1.out.2
    go_wp2_with fail
    go_region_held3 (fun w' => w'.cell? ⟨w.heap.size, 0, none⟩ = some (.string n) ∧ w'.cell? ⟨w.heap.size, 1, none⟩ = some (.int .i64 d) ∧ w'.cell? ⟨w.heap.size, 2, none⟩ = some (.string r)) (go_keep)
      ((first
        | (go_at_call 55; refine Calls.mono (HT.out _) ?_; rintro e w4 ⟨rfl, hb4⟩; have r4 := re (w := w1) hb4 rfl rfl rfl rfl; have P4 := mkHid (And.intro (below_trans P1.out.1 r4) (blk_below P1.out.2 r4)); obtain ⟨e0, e1, e2⟩ := cel3s P4.out.2; clear hb4 r4)
        | (go_at_call 56; refine Calls.mono (HM.out _) ?_; rintro e w5 ⟨rfl, hb5⟩; have r5 := re (w := w4) hb5 rfl rfl rfl rfl; have P5 := mkHid (And.intro (below_trans P4.out.1 r5) (blk_below P4.out.2 r5)); obtain ⟨f0, f1, f2⟩ := cel3s P5.out.2; clear hb5 r5)))
    go_wp2
    go_ret
    exact ⟨rfl, P5.out.1⟩
end Go.Proofs.Ytlcdbkelonbcfaa.snp
