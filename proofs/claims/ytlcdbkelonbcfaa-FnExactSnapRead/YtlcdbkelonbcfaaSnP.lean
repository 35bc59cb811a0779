/-
  Snapshots in plain words; what SnapRight of both answers and leaves. Condition: texts of at most 1,048,576 bytes.
-/
import Derived.Test.YtlcdbkelonbcfaaDrvP
import Derived.Test.YtlcdbkelonbcfaaAid
namespace Go.Proofs.Ytlcdbkelonbcfaa.snp
open Go.RowKit Go.Joins
open Go.Proofs.Ytlcdbkelonbcfaa.base Go.Proofs.Ytlcdbkelonbcfaa.blk Go.Proofs.Ytlcdbkelonbcfaa.aid
open Go.Proofs.Ytlcdbkelonbcfaa.drv (nameB name_spec name_impl name_small)
set_option linter.unusedVariables false
set_option linter.unusedSimpArgs false

theorem ret_eq {a b : Value} (h : a = b) : Ending.returned a = Ending.returned b := by rw [h]
/-- a snapshot's name -/
def nmB (s : ByteArray) : Bool := nameB s && decide ((s.size : Int) ≤ 20)
def dayB (d : Int) : Bool := decide (0 ≤ d) && decide (d ≤ 1000000)
/-- is a snapshot right? -/
def snapB (n : ByteArray) (d : Int) (r : ByteArray) : Bool := nmB n && (dayB d && decide ((r.size : Int) = 32))
theorem snapB_parts {n : ByteArray} {d : Int} {r : ByteArray} (h : snapB n d r = true) : n.size ≤ 20 ∧ 0 ≤ d ∧ d ≤ 1000000 ∧ r.size = 32 := by
  unfold snapB nmB dayB at h
  simp only [Bool.and_eq_true, decide_eq_true_eq] at h
  omega
set_option maxHeartbeats 1000000 in
theorem nmS_any (s : ByteArray) (w : World) (hs : s.size ≤ 1048576) :
    Calls Try.prog 49 #[.string s] w fun e w' => e = .returned (.bool (nmB s)) ∧ w' = w := by
  have HN := mkHid (fun wx => name_spec s wx hs)
  have hs' : (s.size : Int) ≤ 1048576 := by omega
  cases hn : nameB s with
  | false =>
    rw [hn] at HN
    have E := mkHid (show nmB s = false by unfold nmB; rw [hn]; rfl)
    go_enter Try.func49, Try.ntmps49
    go_wp2_with fail
    refine (HN.out _).mono ?_
    rintro e w1 ⟨rfl, rfl⟩
    go_wp2
    go_ret
    exact ⟨ret_eq (by rw [E.out]; rfl), rfl⟩
  | true =>
    rw [hn] at HN
    cases hd : decide ((s.size : Int) ≤ 20) with
    | false =>
      have E := mkHid (show nmB s = false by unfold nmB; rw [hn, hd]; rfl)
      go_enter Try.func49, Try.ntmps49
      go_wp2_with fail
      refine (HN.out _).mono ?_
      rintro e w1 ⟨rfl, rfl⟩
      go_wp2
      go_ret
      exact ⟨ret_eq (by rw [E.out]; first | exact congrArg Value.bool hd | rfl), rfl⟩
    | true =>
      have E := mkHid (show nmB s = true by unfold nmB; rw [hn, hd]; rfl)
      go_enter Try.func49, Try.ntmps49
      go_wp2_with fail
      refine (HN.out _).mono ?_
      rintro e w1 ⟨rfl, rfl⟩
      go_wp2
      go_ret
      exact ⟨ret_eq (by rw [E.out]; first | exact congrArg Value.bool hd | rfl), rfl⟩
set_option maxHeartbeats 1000000 in
theorem nmI_any (s : ByteArray) (w : World) (hs : s.size ≤ 1048576) :
    Calls Try.prog 51 #[.string s] w fun e w' => e = .returned (.bool (nmB s)) ∧ w' = w := by
  have HN := mkHid (fun wx => name_impl s wx hs)
  have hs' : (s.size : Int) ≤ 1048576 := by omega
  by_cases h2 : (s.size : Int) ≤ 20
  · have E := mkHid (show nmB s = nameB s by unfold nmB; rw [decide_eq_true h2]; simp)
    go_enter Try.func51, Try.ntmps51
    go_wp2_with fail
    refine (HN.out _).mono ?_
    rintro e w1 ⟨rfl, rfl⟩
    go_wp2
    go_ret
    exact ⟨ret_eq (by rw [E.out]; rfl), rfl⟩
  · have E := mkHid (show nmB s = false by unfold nmB; rw [decide_eq_false h2]; simp)
    go_enter Try.func51, Try.ntmps51
    go_wp2
    go_ret
    exact ⟨ret_eq (by rw [E.out]; rfl), rfl⟩
theorem dayS_any (d : Int) (w : World) :
    Calls Try.prog 50 #[.int .i64 d] w fun e w' => e = .returned (.bool (dayB d)) ∧ w' = w := by
  by_cases h0 : 0 ≤ d
  · by_cases h1 : d ≤ 1000000
    · have E := mkHid (show dayB d = true by unfold dayB; rw [decide_eq_true h0, decide_eq_true h1]; rfl)
      go_enter Try.func50, Try.ntmps50
      go_wp2
      go_ret
      exact ⟨ret_eq (by rw [E.out]; try simp [h0, h1]), rfl⟩
    · have E := mkHid (show dayB d = false by unfold dayB; rw [decide_eq_true h0, decide_eq_false h1]; rfl)
      go_enter Try.func50, Try.ntmps50
      go_wp2
      go_ret
      exact ⟨ret_eq (by rw [E.out]; try simp [h0, h1]), rfl⟩
  · have E := mkHid (show dayB d = false by unfold dayB; rw [decide_eq_false h0]; rfl)
    go_enter Try.func50, Try.ntmps50
    go_wp2
    go_ret
    exact ⟨ret_eq (by rw [E.out]; try simp [h0]), rfl⟩
theorem dayI_any (d : Int) (w : World) :
    Calls Try.prog 52 #[.int .i64 d] w fun e w' => e = .returned (.bool (dayB d)) ∧ w' = w := by
  by_cases h0 : 0 ≤ d
  · by_cases h1 : d ≤ 1000000
    · have E := mkHid (show dayB d = true by unfold dayB; rw [decide_eq_true h0, decide_eq_true h1]; rfl)
      go_enter Try.func52, Try.ntmps52
      go_wp2
      go_ret
      exact ⟨ret_eq (by rw [E.out]; try simp [h0, h1]), rfl⟩
    · have E := mkHid (show dayB d = false by unfold dayB; rw [decide_eq_true h0, decide_eq_false h1]; rfl)
      go_enter Try.func52, Try.ntmps52
      go_wp2
      go_ret
      exact ⟨ret_eq (by rw [E.out]; try simp [h0, h1]), rfl⟩
  · have E := mkHid (show dayB d = false by unfold dayB; rw [decide_eq_false h0]; rfl)
    go_enter Try.func52, Try.ntmps52
    go_wp2
    go_ret
    exact ⟨ret_eq (by rw [E.out]; try simp [h0]), rfl⟩
set_option maxRecDepth 100000 in
set_option maxHeartbeats 1000000 in
theorem snapS_any (n : ByteArray) (d : Int) (r : ByteArray) (w : World) (hn : n.size ≤ 1048576) (hr : r.size ≤ 1048576) :
    Calls Try.prog 24 #[.agg #[.string n, .int .i64 d, .string r]] w fun e w' => e = .returned (.bool (snapB n d r)) ∧ Below w.heap.size w w' := by
  have HN := mkHid (fun wx => nmS_any n wx hn)
  have HD := mkHid (fun wx => dayS_any d wx)
  have hb := mkHid (below_alloc1 w (.cells #[.string n, .int .i64 d, .string r] 53))
  have hr' : (r.size : Int) ≤ 1048576 := by omega
  cases h1 : nmB n with
  | false =>
    rw [h1] at HN
    have E := mkHid (show snapB n d r = false by unfold snapB; rw [h1]; rfl)
    go_enter Try.func24, Try.ntmps24
    go_wp2_with fail
    refine (HN.out _).mono ?_
    rintro e w1 ⟨rfl, rfl⟩
    go_wp2
    go_ret
    exact ⟨ret_eq (by rw [E.out]; rfl), hb.out⟩
  | true =>
    rw [h1] at HN
    cases h2 : dayB d with
    | false =>
      rw [h2] at HD
      have E := mkHid (show snapB n d r = false by unfold snapB; rw [h1, h2]; rfl)
      go_enter Try.func24, Try.ntmps24
      go_wp2_with fail
      refine (HN.out _).mono ?_
      rintro e w1 ⟨rfl, rfl⟩
      go_wp2_with fail
      refine (HD.out _).mono ?_
      rintro e w1 ⟨rfl, rfl⟩
      go_wp2
      go_ret
      exact ⟨ret_eq (by rw [E.out]; rfl), hb.out⟩
    | true =>
      rw [h2] at HD
      cases h3 : decide ((r.size : Int) = 32) with
      | false =>
        have E := mkHid (show snapB n d r = false by unfold snapB; rw [h1, h2, h3]; rfl)
        have dn : (r.size == 32) = false := by have := of_decide_eq_false h3; simp; omega
        have dd : ((r.size : Int) == 32) = false := by simpa using h3
        go_enter Try.func24, Try.ntmps24
        go_wp2_with fail
        refine (HN.out _).mono ?_
        rintro e w1 ⟨rfl, rfl⟩
        go_wp2_with fail
        refine (HD.out _).mono ?_
        rintro e w1 ⟨rfl, rfl⟩
        go_wp2
        go_ret
        exact ⟨ret_eq (by rw [E.out]; first | rfl | exact congrArg Value.bool dd | exact congrArg Value.bool dn), hb.out⟩
      | true =>
        have E := mkHid (show snapB n d r = true by unfold snapB; rw [h1, h2, h3]; rfl)
        have dn : (r.size == 32) = true := by have := of_decide_eq_true h3; simp; omega
        have dd : ((r.size : Int) == 32) = true := by simpa using h3
        go_enter Try.func24, Try.ntmps24
        go_wp2_with fail
        refine (HN.out _).mono ?_
        rintro e w1 ⟨rfl, rfl⟩
        go_wp2_with fail
        refine (HD.out _).mono ?_
        rintro e w1 ⟨rfl, rfl⟩
        go_wp2
        go_ret
        exact ⟨ret_eq (by rw [E.out]; first | rfl | exact congrArg Value.bool dd | exact congrArg Value.bool dn), hb.out⟩
set_option maxRecDepth 100000 in
set_option maxHeartbeats 1000000 in
theorem snapI_any (n : ByteArray) (d : Int) (r : ByteArray) (w : World) (hn : n.size ≤ 1048576) (hr : r.size ≤ 1048576) :
    Calls Try.prog 26 #[.agg #[.string n, .int .i64 d, .string r]] w fun e w' => e = .returned (.bool (snapB n d r)) ∧ Below w.heap.size w w' := by
  have HN := mkHid (fun wx => nmI_any n wx hn)
  have HD := mkHid (fun wx => dayI_any d wx)
  have hb := mkHid (below_alloc1 w (.cells #[.string n, .int .i64 d, .string r] 53))
  have hr' : (r.size : Int) ≤ 1048576 := by omega
  cases h1 : nmB n with
  | false =>
    rw [h1] at HN
    have E := mkHid (show snapB n d r = false by unfold snapB; rw [h1]; rfl)
    go_enter Try.func26, Try.ntmps26
    go_wp2_with fail
    refine (HN.out _).mono ?_
    rintro e w1 ⟨rfl, rfl⟩
    go_wp2
    go_ret
    exact ⟨ret_eq (by rw [E.out]; rfl), hb.out⟩
  | true =>
    rw [h1] at HN
    cases h2 : dayB d with
    | false =>
      rw [h2] at HD
      have E := mkHid (show snapB n d r = false by unfold snapB; rw [h1, h2]; rfl)
      go_enter Try.func26, Try.ntmps26
      go_wp2_with fail
      refine (HN.out _).mono ?_
      rintro e w1 ⟨rfl, rfl⟩
      go_wp2_with fail
      refine (HD.out _).mono ?_
      rintro e w1 ⟨rfl, rfl⟩
      go_wp2
      go_ret
      exact ⟨ret_eq (by rw [E.out]; rfl), hb.out⟩
    | true =>
      rw [h2] at HD
      cases h3 : decide ((r.size : Int) = 32) with
      | false =>
        have E := mkHid (show snapB n d r = false by unfold snapB; rw [h1, h2, h3]; rfl)
        have dn : (r.size == 32) = false := by have := of_decide_eq_false h3; simp; omega
        have dd : ((r.size : Int) == 32) = false := by simpa using h3
        go_enter Try.func26, Try.ntmps26
        go_wp2_with fail
        refine (HN.out _).mono ?_
        rintro e w1 ⟨rfl, rfl⟩
        go_wp2_with fail
        refine (HD.out _).mono ?_
        rintro e w1 ⟨rfl, rfl⟩
        go_wp2
        go_ret
        exact ⟨ret_eq (by rw [E.out]; first | rfl | exact congrArg Value.bool dd | exact congrArg Value.bool dn), hb.out⟩
      | true =>
        have E := mkHid (show snapB n d r = true by unfold snapB; rw [h1, h2, h3]; rfl)
        have dn : (r.size == 32) = true := by have := of_decide_eq_true h3; simp; omega
        have dd : ((r.size : Int) == 32) = true := by simpa using h3
        go_enter Try.func26, Try.ntmps26
        go_wp2_with fail
        refine (HN.out _).mono ?_
        rintro e w1 ⟨rfl, rfl⟩
        go_wp2_with fail
        refine (HD.out _).mono ?_
        rintro e w1 ⟨rfl, rfl⟩
        go_wp2
        go_ret
        exact ⟨ret_eq (by rw [E.out]; first | rfl | exact congrArg Value.bool dd | exact congrArg Value.bool dn), hb.out⟩
end Go.Proofs.Ytlcdbkelonbcfaa.snp
