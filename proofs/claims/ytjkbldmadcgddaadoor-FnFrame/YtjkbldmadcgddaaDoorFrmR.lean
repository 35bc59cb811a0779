/-
  What spec.FrameRight and impl.FrameRight answer and leave. Condition: texts of at most 1,048,576 bytes.
-/
import Derived.Test.YtjkbldmadcgddaaDoorCode
import Derived.Test.YtjkbldmadcgddaaDoorAid
import Derived.Deep.RegionHeld3
import Derived.Deep.QuietTactic
import Derived.BigQuiet
import Derived.BigRegion
namespace Go.Proofs.YtjkbldmadcgddaaDoor.frm
open Go.RowKit Go.Joins
open Go.Proofs.YtjkbldmadcgddaaDoor.base Go.Proofs.YtjkbldmadcgddaaDoor.blk Go.Proofs.YtjkbldmadcgddaaDoor.aid
open Go.Proofs.YtjkbldmadcgddaaDoor.code (codeB shard specCode_any implCode_any specShard_any implShard_any quot_bd sizeB)
set_option linter.unusedVariables false

/-- is a frame right? -/
def frmB (k m i s : Int) (h x : ByteArray) : Bool := codeB k m && (decide (0 ≤ i) && (decide (i < k + m) && (decide (0 ≤ s) && (decide (s ≤ 12000) && (decide ((h.size : Int) = 32) && decide ((x.size : Int) = shard k s))))))
theorem below_drewN {n B : Nat} {w w1 : World} (hb : Below B w w1) : Below B w (w1.drewN n) := ⟨hb.os, hb.tape, hb.output, hb.size, hb.block⟩
theorem code_bd {k m : Int} (h : codeB k m = true) : 1 ≤ k ∧ k ≤ 8 ∧ 0 ≤ m ∧ m ≤ 6 := by
  simp [code.codeB] at h
  omega
theorem frmB_parts {k m i s : Int} {h x : ByteArray} (hf : frmB k m i s h x = true) : 1 ≤ k ∧ k ≤ 8 ∧ 0 ≤ m ∧ m ≤ 6 ∧ 0 ≤ i ∧ i < k + m ∧ 0 ≤ s ∧ s ≤ 12000 ∧ (h.size : Int) = 32 ∧ (x.size : Int) = shard k s ∧ codeB k m = true := by
  unfold frmB at hf
  simp only [Bool.and_eq_true, decide_eq_true_eq] at hf
  have := code_bd hf.1
  exact ⟨this.1, this.2.1, this.2.2.1, this.2.2.2, hf.2.1, hf.2.2.1, hf.2.2.2.1, hf.2.2.2.2.1, hf.2.2.2.2.2.1, hf.2.2.2.2.2.2, hf.1⟩

set_option maxRecDepth 100000 in
set_option maxHeartbeats 4000000 in
theorem frmS_any (k m i s : Int) (h x : ByteArray) (w : World) (hh : h.size ≤ 1048576) (hx : x.size ≤ 1048576) :
    Calls Tryd.prog 17 #[.agg #[.int .i64 k, .int .i64 m, .int .i64 i, .int .i64 s, .string h, .string x]] w fun e w' => e = .returned (.bool (frmB k m i s h x)) ∧ Below w.heap.size w w' := by
  have HC := mkHid (fun wx => specCode_any k m wx)
  have HS := mkHid (fun wx => specShard_any k s wx)
  have hb := mkHid (below_alloc1 w (.cells #[.int .i64 k, .int .i64 m, .int .i64 i, .int .i64 s, .string h, .string x] 24))
  have hh' : (h.size : Int) ≤ 1048576 := by omega
  have hx' : (x.size : Int) ≤ 1048576 := by omega
  go_enter Tryd.func17, Tryd.ntmps17
  go_wp2_with fail
  have e0 : (w.alloc (.cells #[.int .i64 k, .int .i64 m, .int .i64 i, .int .i64 s, .string h, .string x] 24)).cell? ⟨w.heap.size, 0, none⟩ = some (.int .i64 k) := cell_of_block (blk_new w _ _ rfl) 0
  have e1 : (w.alloc (.cells #[.int .i64 k, .int .i64 m, .int .i64 i, .int .i64 s, .string h, .string x] 24)).cell? ⟨w.heap.size, 1, none⟩ = some (.int .i64 m) := cell_of_block (blk_new w _ _ rfl) 1
  have e2 : (w.alloc (.cells #[.int .i64 k, .int .i64 m, .int .i64 i, .int .i64 s, .string h, .string x] 24)).cell? ⟨w.heap.size, 2, none⟩ = some (.int .i64 i) := cell_of_block (blk_new w _ _ rfl) 2
  have e3 : (w.alloc (.cells #[.int .i64 k, .int .i64 m, .int .i64 i, .int .i64 s, .string h, .string x] 24)).cell? ⟨w.heap.size, 3, none⟩ = some (.int .i64 s) := cell_of_block (blk_new w _ _ rfl) 3
  have e4 : (w.alloc (.cells #[.int .i64 k, .int .i64 m, .int .i64 i, .int .i64 s, .string h, .string x] 24)).cell? ⟨w.heap.size, 4, none⟩ = some (.string h) := cell_of_block (blk_new w _ _ rfl) 4
  have e5 : (w.alloc (.cells #[.int .i64 k, .int .i64 m, .int .i64 i, .int .i64 s, .string h, .string x] 24)).cell? ⟨w.heap.size, 5, none⟩ = some (.string x) := cell_of_block (blk_new w _ _ rfl) 5
  generalize w.alloc (.cells #[.int .i64 k, .int .i64 m, .int .i64 i, .int .i64 s, .string h, .string x] 24) = V at *
  cases d0 : codeB k m with
  | false =>
    have E := mkHid (show frmB k m i s h x = false by unfold frmB; rw [d0]; rfl)
    rw [d0] at HC
    go_quiet ((first | (go_at_call 37; exact Calls.quiet_of_same (HC.out _)) | (go_at_call 31; exact Calls.quiet_of_same (HS.out _))))
    go_wp2
    go_ret
    exact ⟨ret_eq (by rw [E.out]; rfl), below_drewN hb.out⟩
  | true =>
    rw [d0] at HC
    have hkm := code_bd d0
    have hw : IntKind.i64.wrap (k + m) = k + m := by rw [IntKind.wrap_i64]; omega
    cases d1 : decide (0 ≤ i) with
    | false =>
      have E := mkHid (show frmB k m i s h x = false by unfold frmB; rw [d0, d1]; rfl)
      clear d0
      go_quiet ((first | (go_at_call 37; exact Calls.quiet_of_same (HC.out _)) | (go_at_call 31; exact Calls.quiet_of_same (HS.out _))))
      go_wp2
      go_ret
      exact ⟨ret_eq (by rw [E.out]; rfl), below_drewN hb.out⟩
    | true =>
      cases d2 : decide (i < k + m) with
      | false =>
        have E := mkHid (show frmB k m i s h x = false by unfold frmB; rw [d0, d1, d2]; rfl)
        clear d0
        go_quiet ((first | (go_at_call 37; exact Calls.quiet_of_same (HC.out _)) | (go_at_call 31; exact Calls.quiet_of_same (HS.out _))))
        go_wp2
        go_ret
        exact ⟨ret_eq (by rw [E.out]; rfl), below_drewN hb.out⟩
      | true =>
        cases d3 : decide (0 ≤ s) with
        | false =>
          have E := mkHid (show frmB k m i s h x = false by unfold frmB; rw [d0, d1, d2, d3]; rfl)
          clear d0
          go_quiet ((first | (go_at_call 37; exact Calls.quiet_of_same (HC.out _)) | (go_at_call 31; exact Calls.quiet_of_same (HS.out _))))
          go_wp2
          go_ret
          exact ⟨ret_eq (by rw [E.out]; rfl), below_drewN hb.out⟩
        | true =>
          cases d4 : decide (s ≤ 12000) with
          | false =>
            have E := mkHid (show frmB k m i s h x = false by unfold frmB; rw [d0, d1, d2, d3, d4]; rfl)
            clear d0
            go_quiet ((first | (go_at_call 37; exact Calls.quiet_of_same (HC.out _)) | (go_at_call 31; exact Calls.quiet_of_same (HS.out _))))
            go_wp2
            go_ret
            exact ⟨ret_eq (by rw [E.out]; rfl), below_drewN hb.out⟩
          | true =>
            cases d5 : decide ((h.size : Int) = 32) with
            | false =>
              have E := mkHid (show frmB k m i s h x = false by unfold frmB; rw [d0, d1, d2, d3, d4, d5]; rfl)
              clear d0
              have dd : ((h.size : Int) == 32) = false := by simpa using d5
              have dn : (h.size == 32) = false := by have := of_decide_eq_false d5; simp; omega
              go_quiet ((first | (go_at_call 37; exact Calls.quiet_of_same (HC.out _)) | (go_at_call 31; exact Calls.quiet_of_same (HS.out _))))
              go_wp2
              go_ret
              exact ⟨ret_eq (by rw [E.out]; rfl), below_drewN hb.out⟩
            | true =>
              cases d6 : decide ((x.size : Int) = shard k s) with
              | false =>
                have E := mkHid (show frmB k m i s h x = false by unfold frmB; rw [d0, d1, d2, d3, d4, d5, d6]; rfl)
                clear d0
                have dd : ((h.size : Int) == 32) = true := by simpa using d5
                have dn : (h.size == 32) = true := by have := of_decide_eq_true d5; simp; omega
                have dd6 : ((x.size : Int) == shard k s) = false := by simpa using d6
                go_quiet ((first | (go_at_call 37; exact Calls.quiet_of_same (HC.out _)) | (go_at_call 31; exact Calls.quiet_of_same (HS.out _))))
                go_wp2
                go_ret
                exact ⟨ret_eq (by rw [E.out]; rfl), below_drewN hb.out⟩
              | true =>
                have E := mkHid (show frmB k m i s h x = true by unfold frmB; rw [d0, d1, d2, d3, d4, d5, d6]; rfl)
                clear d0
                have dd : ((h.size : Int) == 32) = true := by simpa using d5
                have dn : (h.size == 32) = true := by have := of_decide_eq_true d5; simp; omega
                have dd6 : ((x.size : Int) == shard k s) = true := by simpa using d6
                go_quiet ((first | (go_at_call 37; exact Calls.quiet_of_same (HC.out _)) | (go_at_call 31; exact Calls.quiet_of_same (HS.out _))))
                go_wp2
                go_ret
                exact ⟨ret_eq (by rw [E.out]; rfl), below_drewN hb.out⟩

set_option maxRecDepth 100000 in
set_option maxHeartbeats 4000000 in
theorem frmI_any (k m i s : Int) (h x : ByteArray) (w : World) (hh : h.size ≤ 1048576) (hx : x.size ≤ 1048576) :
    Calls Tryd.prog 8 #[.agg #[.int .i64 k, .int .i64 m, .int .i64 i, .int .i64 s, .string h, .string x]] w fun e w' => e = .returned (.bool (frmB k m i s h x)) ∧ Below w.heap.size w w' := by
  have HC := mkHid (fun wx => implCode_any k m wx)
  have HS := mkHid (fun wx => implShard_any k s wx)
  have hb := mkHid (below_alloc1 w (.cells #[.int .i64 k, .int .i64 m, .int .i64 i, .int .i64 s, .string h, .string x] 24))
  have hh' : (h.size : Int) ≤ 1048576 := by omega
  have hx' : (x.size : Int) ≤ 1048576 := by omega
  go_enter Tryd.func8, Tryd.ntmps8
  go_wp2_with fail
  have e0 : (w.alloc (.cells #[.int .i64 k, .int .i64 m, .int .i64 i, .int .i64 s, .string h, .string x] 24)).cell? ⟨w.heap.size, 0, none⟩ = some (.int .i64 k) := cell_of_block (blk_new w _ _ rfl) 0
  have e1 : (w.alloc (.cells #[.int .i64 k, .int .i64 m, .int .i64 i, .int .i64 s, .string h, .string x] 24)).cell? ⟨w.heap.size, 1, none⟩ = some (.int .i64 m) := cell_of_block (blk_new w _ _ rfl) 1
  have e2 : (w.alloc (.cells #[.int .i64 k, .int .i64 m, .int .i64 i, .int .i64 s, .string h, .string x] 24)).cell? ⟨w.heap.size, 2, none⟩ = some (.int .i64 i) := cell_of_block (blk_new w _ _ rfl) 2
  have e3 : (w.alloc (.cells #[.int .i64 k, .int .i64 m, .int .i64 i, .int .i64 s, .string h, .string x] 24)).cell? ⟨w.heap.size, 3, none⟩ = some (.int .i64 s) := cell_of_block (blk_new w _ _ rfl) 3
  have e4 : (w.alloc (.cells #[.int .i64 k, .int .i64 m, .int .i64 i, .int .i64 s, .string h, .string x] 24)).cell? ⟨w.heap.size, 4, none⟩ = some (.string h) := cell_of_block (blk_new w _ _ rfl) 4
  have e5 : (w.alloc (.cells #[.int .i64 k, .int .i64 m, .int .i64 i, .int .i64 s, .string h, .string x] 24)).cell? ⟨w.heap.size, 5, none⟩ = some (.string x) := cell_of_block (blk_new w _ _ rfl) 5
  generalize w.alloc (.cells #[.int .i64 k, .int .i64 m, .int .i64 i, .int .i64 s, .string h, .string x] 24) = V at *
  cases d0 : codeB k m with
  | false =>
    have E := mkHid (show frmB k m i s h x = false by unfold frmB; rw [d0]; rfl)
    rw [d0] at HC
    go_quiet ((first | (go_at_call 20; exact Calls.quiet_of_same (HC.out _)) | (go_at_call 21; exact Calls.quiet_of_same (HS.out _))))
    go_wp2
    go_ret
    exact ⟨ret_eq (by rw [E.out]; rfl), below_drewN hb.out⟩
  | true =>
    rw [d0] at HC
    have hkm := code_bd d0
    have hw : IntKind.i64.wrap (k + m) = k + m := by rw [IntKind.wrap_i64]; omega
    cases d1 : decide (0 ≤ i) with
    | false =>
      have E := mkHid (show frmB k m i s h x = false by unfold frmB; rw [d0, d1]; rfl)
      clear d0
      go_quiet ((first | (go_at_call 20; exact Calls.quiet_of_same (HC.out _)) | (go_at_call 21; exact Calls.quiet_of_same (HS.out _))))
      go_wp2
      go_ret
      exact ⟨ret_eq (by rw [E.out]; rfl), below_drewN hb.out⟩
    | true =>
      cases d2 : decide (i < k + m) with
      | false =>
        have E := mkHid (show frmB k m i s h x = false by unfold frmB; rw [d0, d1, d2]; rfl)
        clear d0
        go_quiet ((first | (go_at_call 20; exact Calls.quiet_of_same (HC.out _)) | (go_at_call 21; exact Calls.quiet_of_same (HS.out _))))
        go_wp2
        go_ret
        exact ⟨ret_eq (by rw [E.out]; rfl), below_drewN hb.out⟩
      | true =>
        cases d3 : decide (0 ≤ s) with
        | false =>
          have E := mkHid (show frmB k m i s h x = false by unfold frmB; rw [d0, d1, d2, d3]; rfl)
          clear d0
          go_quiet ((first | (go_at_call 20; exact Calls.quiet_of_same (HC.out _)) | (go_at_call 21; exact Calls.quiet_of_same (HS.out _))))
          go_wp2
          go_ret
          exact ⟨ret_eq (by rw [E.out]; rfl), below_drewN hb.out⟩
        | true =>
          cases d4 : decide (s ≤ 12000) with
          | false =>
            have E := mkHid (show frmB k m i s h x = false by unfold frmB; rw [d0, d1, d2, d3, d4]; rfl)
            clear d0
            go_quiet ((first | (go_at_call 20; exact Calls.quiet_of_same (HC.out _)) | (go_at_call 21; exact Calls.quiet_of_same (HS.out _))))
            go_wp2
            go_ret
            exact ⟨ret_eq (by rw [E.out]; rfl), below_drewN hb.out⟩
          | true =>
            cases d5 : decide ((h.size : Int) = 32) with
            | false =>
              have E := mkHid (show frmB k m i s h x = false by unfold frmB; rw [d0, d1, d2, d3, d4, d5]; rfl)
              clear d0
              have dd : ((h.size : Int) == 32) = false := by simpa using d5
              have dn : (h.size == 32) = false := by have := of_decide_eq_false d5; simp; omega
              go_quiet ((first | (go_at_call 20; exact Calls.quiet_of_same (HC.out _)) | (go_at_call 21; exact Calls.quiet_of_same (HS.out _))))
              go_wp2
              go_ret
              exact ⟨ret_eq (by rw [E.out]; rfl), below_drewN hb.out⟩
            | true =>
              cases d6 : decide ((x.size : Int) = shard k s) with
              | false =>
                have E := mkHid (show frmB k m i s h x = false by unfold frmB; rw [d0, d1, d2, d3, d4, d5, d6]; rfl)
                clear d0
                have dd : ((h.size : Int) == 32) = true := by simpa using d5
                have dn : (h.size == 32) = true := by have := of_decide_eq_true d5; simp; omega
                have dd6 : ((x.size : Int) == shard k s) = false := by simpa using d6
                go_quiet ((first | (go_at_call 20; exact Calls.quiet_of_same (HC.out _)) | (go_at_call 21; exact Calls.quiet_of_same (HS.out _))))
                go_wp2
                go_ret
                exact ⟨ret_eq (by rw [E.out]; rfl), below_drewN hb.out⟩
              | true =>
                have E := mkHid (show frmB k m i s h x = true by unfold frmB; rw [d0, d1, d2, d3, d4, d5, d6]; rfl)
                clear d0
                have dd : ((h.size : Int) == 32) = true := by simpa using d5
                have dn : (h.size == 32) = true := by have := of_decide_eq_true d5; simp; omega
                have dd6 : ((x.size : Int) == shard k s) = true := by simpa using d6
                go_quiet ((first | (go_at_call 20; exact Calls.quiet_of_same (HC.out _)) | (go_at_call 21; exact Calls.quiet_of_same (HS.out _))))
                go_wp2
                go_ret
                exact ⟨ret_eq (by rw [E.out]; rfl), below_drewN hb.out⟩
end Go.Proofs.YtjkbldmadcgddaaDoor.frm
