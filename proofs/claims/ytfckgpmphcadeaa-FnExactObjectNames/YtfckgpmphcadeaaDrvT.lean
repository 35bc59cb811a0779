/-
  What stays of a file when the power goes: spec.l01Min, impl.between and impl.torn. Conditions: a file whose text has at most 1,048,576 bytes, of which some are synced.
-/
import Derived.Test.YtfckgpmphcadeaaDrvA
namespace Go.Proofs.Ytfckgpmphcadeaa.drv
open Go.RowKit Go.Joins Go.Sort
open Go.Proofs.Ytfckgpmphcadeaa.base Go.Proofs.Ytfckgpmphcadeaa.blk Go.Proofs.Ytfckgpmphcadeaa.aid
open Go.Proofs.Ytfckgpmphcadeaa.row (Rd Own OwnV)
open Go.Proofs.Ytfckgpmphcadeaa.rwStored (cs)
set_option linter.unusedVariables false

/-- so many bytes more -/
def moreOf (k left : Int) : Int := if 0 < k then min k left else 0
theorem more_is (k left : Int) (h : 0 ≤ left) : moreOf k left = min (max k 0) left := by
  unfold moreOf
  by_cases h1 : 0 < k
  · rw [if_pos h1, Int.max_eq_left (by omega)]
  · rw [if_neg h1, Int.max_eq_right (by omega), Int.min_eq_left h]
theorem more_bd (k left : Int) (h : 0 ≤ left) : 0 ≤ moreOf k left ∧ moreOf k left ≤ left := by
  rw [more_is k left h]
  omega
theorem between_any (k left : Int) (w : World) (h : 0 ≤ left) : Calls Try.prog 96 #[.int .i64 k, .int .i64 0, .int .i64 left] w fun e w' => e = .returned (.int .i64 (moreOf k left)) ∧ w' = w := by
  have E := mkHid (more_is k left h)
  generalize moreOf k left = m at *
  clear h
  go_enter Try.func96, Try.ntmps96
  go_wp2
  go_ret
  exact ⟨ret_eq (by rw [E.out]; rfl), rfl⟩
theorem keepF_is (x0 x1 : ByteArray) (x2 k : Int) : keepF (x0, x1, x2) k = (x0, x1.extract 0 (x2 + moreOf k ((x1.size : Int) - x2)).toNat, ((x1.extract 0 (x2 + moreOf k ((x1.size : Int) - x2)).toNat).size : Int)) := rfl
theorem keepF_nat (x0 x1 : ByteArray) (x2 k : Int) (m : Nat) (h : x2 + moreOf k ((x1.size : Int) - x2) = (m : Int)) (hm : m ≤ x1.size) : keepF (x0, x1, x2) k = (x0, x1.extract 0 m, (m : Int)) := by
  rw [keepF_is, h]
  have e : (m : Int).toNat = m := by omega
  have e2 : (x1.extract 0 m).size = m := by simp; omega
  rw [e, e2]

def sliceSem (t : TypeId) (v : Value) (lo hi mx : Option Value) : Sem Value := Instr.slice t v lo hi mx
theorem slice_fold (t : TypeId) (v : Value) (lo hi mx : Option Value) : Instr.slice t v lo hi mx = sliceSem t v lo hi mx := rfl
theorem slice_to (s : ByteArray) (m : Nat) (h : m ≤ s.size) (wx : World) : (sliceSem 9 (.string s) none (some (.int .i64 (m : Int))) none).run Try.prog wx = .ok (.string (s.extract 0 m)) wx := by
  have h2 := run_slice_string_h (P := Try.prog) wx 9 s Try.underlying9 .i64 (m : Int) (by omega) (by omega)
  exact h2
attribute [local go_sem ↓] slice_fold
set_option maxRecDepth 100000 in
set_option maxHeartbeats 1000000 in
theorem torn_any (x0 x1 : ByteArray) (x2 k : Int) (w : World) (h1 : x1.size ≤ 1048576) (h2 : 0 ≤ x2) (h3 : x2 ≤ (x1.size : Int)) :
    Calls Try.prog 66 #[.agg #[.string x0, .string x1, .int .i64 x2], .int .i64 k] w fun e w' => e = .returned (.agg #[.string (keepF (x0, x1, x2) k).1, .string (keepF (x0, x1, x2) k).2.1, .int .i64 (keepF (x0, x1, x2) k).2.2]) ∧ Below w.heap.size w w' := by
  have hb := more_bd k ((x1.size : Int) - x2) (by omega)
  have HBt := mkHid (fun wx => between_any k ((x1.size : Int) - x2) wx (by omega))
  have E := mkHid (fun m h hm => keepF_nat x0 x1 x2 k m h hm)
  generalize moreOf k ((x1.size : Int) - x2) = q at *
  obtain ⟨m, hm⟩ : ∃ m : Nat, x2 + q = (m : Int) := ⟨(x2 + q).toNat, by omega⟩
  have hml : m ≤ x1.size := by omega
  have hw : IntKind.i64.wrap (x2 + q) = (m : Int) := by rw [hm, IntKind.wrap_i64]; omega
  have hsl := fun wx => slice_to x1 m hml wx
  have E2 := mkHid (E.out m hm hml)
  generalize keepF (x0, x1, x2) k = o at *
  have hmi : (m : Int) ≤ (x1.size : Int) := by omega
  go_enter Try.func66, Try.ntmps66
  go_wp2_with fail
  go_quiet ((go_at_call 96; exact Calls.quiet_of_same (HBt.out _)))
  go_wp2_with fail
  have K0 := blk_old (blk_new w (.cells #[.string x0, .string x1, .int .i64 x2] 39) w.heap.size rfl) (.cells #[.string ⟨#[]⟩, .string ⟨#[]⟩, .int .i64 0] 39)
  have K1 := blk_new (w.alloc (.cells #[.string x0, .string x1, .int .i64 x2] 39)) (.cells #[.string ⟨#[]⟩, .string ⟨#[]⟩, .int .i64 0] 39) (w.heap.size + 1) (by simp)
  obtain ⟨c0, c1, c2⟩ := cel3 K0
  obtain ⟨d0, d1, d2⟩ := cel3 K1
  have hB := mkHid (rwStored.below2 w (.cells #[.string x0, .string x1, .int .i64 x2] 39) (.cells #[.string ⟨#[]⟩, .string ⟨#[]⟩, .int .i64 0] 39))
  have df := unfrozen K1
  clear K0 K1
  generalize (w.alloc (.cells #[.string x0, .string x1, .int .i64 x2] 39)).alloc (.cells #[.string ⟨#[]⟩, .string ⟨#[]⟩, .int .i64 0] 39) = V at *
  have c0' : (V.drewN nq).cell? ⟨w.heap.size, 0, none⟩ = some (.string x0) := c0
  have c1' : (V.drewN nq).cell? ⟨w.heap.size, 1, none⟩ = some (.string x1) := c1
  have d0' : (V.drewN nq).cell? ⟨w.heap.size + 1, 0, none⟩ = some (.string ⟨#[]⟩) := d0
  have d1' : (V.drewN nq).cell? ⟨w.heap.size + 1, 1, none⟩ = some (.string ⟨#[]⟩) := d1
  have d2' : (V.drewN nq).cell? ⟨w.heap.size + 1, 2, none⟩ = some (.int .i64 0) := d2
  have df' : ∀ j, (V.drewN nq).frozen? ⟨w.heap.size + 1, j, none⟩ = false := df
  have hB' := mkHid (below_drewN (n := nq) hB.out)
  generalize V.drewN nq = U at *
  clear c0 c1 c2 d0 d1 d2 df hB
  go_region_held3 (fun w' => w'.cell? ⟨w.heap.size, 0, none⟩ = some (.string x0) ∧ w'.cell? ⟨w.heap.size, 1, none⟩ = some (.string x1)) (go_keep) (fail)
  go_wp2
  exact bodyPost_ret (v := .agg #[.string x0, .string (x1.extract 0 m), .int .i64 (m : Int)]) (by simp [results, Try.results66, go_sem, d0', d1', d2']) rfl ⟨ret_eq (by rw [E2.out]), (below_set3 (g := w.heap.size + 1) hB'.out (by omega) hB'.out.size _ _ _).drew⟩
end Go.Proofs.Ytfckgpmphcadeaa.drv
