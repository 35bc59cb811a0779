/-
  What impl.readKey answers and leaves. Conditions: a text of at most 20,000 bytes, a place within it.
-/
import Derived.Test.YtmmmadehifajlaaTextR
import Derived.Test.YtmmmadehifajlaaCmpI
namespace Go.Proofs.Ytmmmadehifajlaa.rdk
open Go.RowKit Go.Joins
open Go.Proofs.Ytmmmadehifajlaa.base Go.Proofs.Ytmmmadehifajlaa.blk Go.Proofs.Ytmmmadehifajlaa.aid
set_option linter.unusedVariables false
set_option linter.unusedSimpArgs false

def keyErr : Value := .tuple #[.string ⟨#[]⟩, .int .i64 0, .iface 129 (.agg #[.int .i64 4])]
set_option maxRecDepth 100000 in
theorem key_no (s : ByteArray) (a : Nat) (w : World) (hs : s.size ≤ 20000) (ha : a ≤ s.size) (h : s.size < a + 32) :
    Calls Try.prog 70 #[.string s, .int .i64 (a : Int)] w fun e w' => e = .returned (.tuple #[.string ⟨#[]⟩, .int .i64 0, .iface 129 (.agg #[.int .i64 4])]) ∧ w' = w := by
  have hsi : (s.size : Int) ≤ 20000 := by omega
  have hai : (a : Int) ≤ 20000 := by omega
  have hli : (s.size : Int) - (a : Int) < 32 := by omega
  go_enter Try.func70, Try.ntmps70
  go_wp2
  exact bodyPost_ret (by simp [results, Try.results70, go_sem]) rfl ⟨rfl, rfl⟩
set_option maxRecDepth 100000 in
theorem key_yes (s : ByteArray) (a : Nat) (w : World) (hs : s.size ≤ 20000) (h : a + 32 ≤ s.size) :
    Calls Try.prog 70 #[.string s, .int .i64 (a : Int)] w fun e w' => e = .returned (.tuple #[.string (s.extract a (a + 32)), .int .i64 ((a : Int) + 32), .nilIface]) ∧ Below w.heap.size w w' := by
  have hsi : (s.size : Int) ≤ 20000 := by omega
  have hai : (a : Int) ≤ 20000 := by omega
  have hli : 32 ≤ (s.size : Int) - (a : Int) := by omega
  have hsl : ∀ wx, (Instr.slice 9 (.string s) (some (.int .i64 (a : Int))) (some (.int .i64 ((a : Int) + 32))) none).run Try.prog wx = .ok (.string (s.extract a (a + 32))) wx := fun wx => by
    rw [run_slice_string_if wx 9 s .i64 .i64 (a : Int) ((a : Int) + 32) Try.underlying9, if_pos ⟨by omega, by omega⟩, if_pos ⟨by omega, by omega⟩]
    have e1 : (a : Int).toNat = a := by omega
    have e2 : ((a : Int) + 32).toNat = a + 32 := by omega
    rw [e1, e2]
  have HC := mkHid (clone.clone_any (s.extract a (a + 32)) w (by rw [ByteArray.size_extract]; omega))
  generalize s.extract a (a + 32) = t at *
  go_enter Try.func70, Try.ntmps70
  go_wp2_with fail
  refine HC.out.mono ?_
  rintro e w1 ⟨rfl, hb⟩
  have B1 := mkHid hb
  clear hb HC hsl
  go_wp2
  exact bodyPost_ret (by simp [results, Try.results70, go_sem]) rfl ⟨rfl, B1.out⟩
end Go.Proofs.Ytmmmadehifajlaa.rdk
