import Derived.Test.YtbdkpcgmnppkgaaCutAtS
import Derived.Laws.StructEq
namespace Go.Proofs.Ytbdkpcgmnppkgaa.fingI
open Go.RowKit Go.Joins
theorem cut_fields : Try.prog.underlying 29 = some (.struct (Try.prog.fieldsOf 29)) := by kernel_rfl
theorem cut_names : ((Try.prog.fieldsOf 29).toList.map fun f => (f.name, f.type, f.offset)) = [("Min", 2, 0), ("Bits", 2, 1), ("Max", 2, 2)] := by kernel_rfl
theorem cut_guard : Try.prog.eqGuardType Try.prog.depth 29 = false := by kernel_rfl
theorem cut_held : Try.prog.stoodInHeld 29 = false := by kernel_rfl
theorem cut_parts (a b c : Int) (w : World) : (part 2 #[.int .i64 a, .int .i64 b, .int .i64 c] 0).run Try.prog w = .ok (.int .i64 a) w ∧ (part 2 #[.int .i64 a, .int .i64 b, .int .i64 c] 1).run Try.prog w = .ok (.int .i64 b) w ∧ (part 2 #[.int .i64 a, .int .i64 b, .int .i64 c] 2).run Try.prog w = .ok (.int .i64 c) w := by
  refine ⟨?_, ?_, ?_⟩ <;> simp [go_sem]
theorem cut_eq (a b c a' b' c' : Int) (w : World) : (binOp .eql 29 (.agg #[.int .i64 a, .int .i64 b, .int .i64 c]) (.agg #[.int .i64 a', .int .i64 b', .int .i64 c'])).run Try.prog w = .ok (.bool (decide (a = a' ∧ b = b' ∧ c = c'))) w := by
  rw [run_eql_struct, run_equalIn_struct (d := 9999) w _ _ _ cut_fields cut_held]
  have h := cut_names
  generalize (Try.prog.fieldsOf 29).toList = fs at h
  obtain ⟨f1, l1, rfl, e1, h⟩ := List.map_eq_cons_iff.1 h
  obtain ⟨f2, l2, rfl, e2, h⟩ := List.map_eq_cons_iff.1 h
  obtain ⟨f3, l3, rfl, e3, h⟩ := List.map_eq_cons_iff.1 h
  obtain rfl := List.map_eq_nil_iff.1 h
  simp at e1 e2 e3
  obtain ⟨n1, t1, o1⟩ := e1
  obtain ⟨n2, t2, o2⟩ := e2
  obtain ⟨n3, t3, o3⟩ := e3
  have q1 : ∀ w, _ := fun w => (cut_parts a b c w).1
  have q2 : ∀ w, _ := fun w => (cut_parts a b c w).2.1
  have q3 : ∀ w, _ := fun w => (cut_parts a b c w).2.2
  have r1 : ∀ w, _ := fun w => (cut_parts a' b' c' w).1
  have r2 : ∀ w, _ := fun w => (cut_parts a' b' c' w).2.1
  have r3 : ∀ w, _ := fun w => (cut_parts a' b' c' w).2.2
  have hu : Try.prog.underlying 2 = some (.int .i64) := by kernel_rfl
  have hi : ∀ (x y : Int) (w : World), (Op.equalIn 9999 2 (.int .i64 x) (.int .i64 y)).run Try.prog w = .ok (x == y) w := fun x y w => run_equalIn_int w 9998 _ _ _ x y hu
  simp [Op.eqFields, n1, t1, o1, n2, t2, o2, n3, t3, o3, q1, q2, q3, r1, r2, r3, hi]
  by_cases h1 : a = a' <;> by_cases h2 : b = b' <;> by_cases h3 : c = c' <;> simp [h1, h2, h3]
end Go.Proofs.Ytbdkpcgmnppkgaa.fingI
