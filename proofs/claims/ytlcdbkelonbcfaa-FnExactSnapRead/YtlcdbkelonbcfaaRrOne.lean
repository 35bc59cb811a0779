/-
  What the specification's reader of places answers for one byte. Conditions: a text of at most 20,000 bytes, a place within it.
-/
import Derived.Test.YtlcdbkelonbcfaaRrS
namespace Go.Proofs.Ytlcdbkelonbcfaa.plc
open Go.RowKit Go.Joins
open Go.Proofs.Ytlcdbkelonbcfaa.base Go.Proofs.Ytlcdbkelonbcfaa.blk Go.Proofs.Ytlcdbkelonbcfaa.aid
set_option linter.unusedVariables false
set_option linter.unusedSimpArgs false
/-- one byte -/
def oneS (s : ByteArray) (st : St) : ByteArray × St := if st.2 = true ∨ s.size < st.1 + 1 then (⟨#[]⟩, (st.1, true)) else (s.extract st.1 (st.1 + 1), (st.1 + 1, false))
set_option maxRecDepth 100000 in
set_option maxHeartbeats 2000000 in
theorem one_any (g : Nat) (s : ByteArray) (st : St) (w : World) (h : w.heap[g]? = some (rdO s st)) (hs : s.size ≤ 20000) (ha : st.1 ≤ 20000) :
    Calls Try.prog 84 #[.pointer (some ⟨g, 0, none⟩), .int .i64 1] w fun e w' => e = .returned (.string (oneS s st).1) ∧ RPost w g s (oneS s st).2 w' := by
  obtain ⟨a, f⟩ := st
  have R0 := mkHid (RPost.start h)
  obtain ⟨c0, c1, c2⟩ := rdO_cells h
  simp only at c1 c2 ha
  have uf := unfrozen (show _ = some (Obj.cells _ _) from h)
  have hsi : (s.size : Int) ≤ 20000 := by omega
  have hai : (a : Int) ≤ 20000 := by omega
  clear h
  cases f with
  | true =>
    have E : Hid (oneS s (a, true) = (⟨#[]⟩, (a, true))) := mkHid (by unfold oneS; rw [if_pos (.inl rfl)])
    rw [E.out]
    have F := mkHid R0.out.bad
    simp only at F
    clear R0 E
    go_enter Try.func84, Try.ntmps84
    go_wp2_with fail
    go_quiet (fail)
    have F := mkHid (show RPost w g s (a, true) ((w.drewN nq).setCell ⟨g, 2, none⟩ (.bool true)) from ⟨F.out.at_, ⟨F.out.grew.os, F.out.grew.tape, F.out.grew.output, F.out.grew.size, F.out.grew.block⟩⟩)
    go_wp2
    go_ret
    exact ⟨rfl, F.out⟩
  | false =>
    by_cases hlt : s.size < a + 1
    · have E : Hid (oneS s (a, false) = (⟨#[]⟩, (a, true))) := mkHid (by unfold oneS; rw [if_pos (.inr hlt)])
      rw [E.out]
      have F := mkHid R0.out.bad
      simp only at F
      have hli : (s.size : Int) - 1 < (a : Int) := by omega
      clear R0 E
      go_enter Try.func84, Try.ntmps84
      go_wp2_with fail
      go_quiet (fail)
      have F := mkHid (show RPost w g s (a, true) ((w.drewN nq).setCell ⟨g, 2, none⟩ (.bool true)) from ⟨F.out.at_, ⟨F.out.grew.os, F.out.grew.tape, F.out.grew.output, F.out.grew.size, F.out.grew.block⟩⟩)
      go_wp2
      go_ret
      exact ⟨rfl, F.out⟩
    · have E : Hid (oneS s (a, false) = (s.extract a (a + 1), (a + 1, false))) := mkHid (by unfold oneS; rw [if_neg (by simp; omega)])
      rw [E.out]
      have F := mkHid (R0.out.to (a + 1))
      have e : ((a + 1 : Nat) : Int) = (a : Int) + 1 := by omega
      simp only at F
      rw [e] at F
      have hli : (a : Int) ≤ (s.size : Int) - 1 := by omega
      have hsl : ∀ wx, (Instr.slice 9 (.string s) (some (.int .i64 (a : Int))) (some (.int .i64 ((a : Int) + 1))) none).run Try.prog wx = .ok (.string (s.extract a (a + 1))) wx := fun wx => by
        rw [run_slice_string_if wx 9 s .i64 .i64 (a : Int) ((a : Int) + 1) Try.underlying9, if_pos ⟨by omega, by omega⟩, if_pos ⟨by omega, by omega⟩]
        have e1 : (a : Int).toNat = a := by omega
        have e2 : ((a : Int) + 1).toNat = a + 1 := by omega
        rw [e1, e2]
      clear R0 E e
      go_enter Try.func84, Try.ntmps84
      go_wp2_with fail
      go_quiet (fail)
      have F := mkHid (show RPost w g s (a + 1, false) ((w.drewN nq).setCell ⟨g, 1, none⟩ (.int .i64 ((a : Int) + 1))) from ⟨F.out.at_, ⟨F.out.grew.os, F.out.grew.tape, F.out.grew.output, F.out.grew.size, F.out.grew.block⟩⟩)
      go_wp2_with fail
      generalize (w.drewN nq).setCell ⟨g, 1, none⟩ (.int .i64 ((a : Int) + 1)) = W at *
      obtain ⟨d0, d1, d2⟩ := rdO_cells F.out.at_
      simp only at d1 d2
      have e : ((a + 1 : Nat) : Int) = (a : Int) + 1 := by omega
      rw [e] at d1
      clear c0 c1 c2 uf
      go_quiet (fail)
      have F := mkHid (show RPost w g s (a + 1, false) (W.drewN nq) from ⟨F.out.at_, ⟨F.out.grew.os, F.out.grew.tape, F.out.grew.output, F.out.grew.size, F.out.grew.block⟩⟩)
      go_wp2
      go_ret
      exact ⟨rfl, F.out⟩
end Go.Proofs.Ytlcdbkelonbcfaa.plc
