/-
  What '!=' of two BlobOuts that are alike answers. No condition.
-/
import Derived.Test.YtlmhdebjmkcanaaDoorZGround
import Derived.Laws.StructEq
namespace Go.Proofs.YtlmhdebjmkcanaaDoor.lwb
open Go.RowKit Go.Joins
set_option linter.unusedVariables false

theorem out_fields : Tryd.prog.underlying 41 = some (.struct (Tryd.prog.fieldsOf 41)) := by kernel_rfl
theorem out_names : ((Tryd.prog.fieldsOf 41).toList.map fun f => (f.name, f.type, f.offset)) = [("Blob", 39, 0), ("Code", 2, 2)] := by kernel_rfl
theorem out_held : Tryd.prog.stoodInHeld 41 = false := by kernel_rfl
theorem in_fields : Tryd.prog.underlying 39 = some (.struct (Tryd.prog.fieldsOf 39)) := by kernel_rfl
theorem in_names : ((Tryd.prog.fieldsOf 39).toList.map fun f => (f.name, f.type, f.offset)) = [("Kind", 2, 0), ("Text", 9, 1)] := by kernel_rfl
theorem in_held : Tryd.prog.stoodInHeld 39 = false := by kernel_rfl
theorem in_parts (a : Int) (b : ByteArray) (w : World) : (part 2 #[.int .i64 a, .string b] 0).run Tryd.prog w = .ok (.int .i64 a) w ∧ (part 9 #[.int .i64 a, .string b] 1).run Tryd.prog w = .ok (.string b) w := by
  refine ⟨?_, ?_⟩ <;> simp [go_sem]
theorem out_parts (a : Int) (b : ByteArray) (c : Int) (w : World) : (part 39 #[.int .i64 a, .string b, .int .i64 c] 0).run Tryd.prog w = .ok (.agg #[.int .i64 a, .string b]) w ∧ (part 2 #[.int .i64 a, .string b, .int .i64 c] 2).run Tryd.prog w = .ok (.int .i64 c) w := by
  refine ⟨?_, ?_⟩ <;> simp [go_sem]
theorem in_same (a : Int) (b : ByteArray) (w : World) : (Op.equalIn 9999 39 (.agg #[.int .i64 a, .string b]) (.agg #[.int .i64 a, .string b])).run Tryd.prog w = .ok true w := by
  rw [run_equalIn_struct (d := 9998) w _ _ _ in_fields in_held]
  have h := in_names
  generalize (Tryd.prog.fieldsOf 39).toList = fs at h
  obtain ⟨f1, l1, rfl, e1, h⟩ := List.map_eq_cons_iff.1 h
  obtain ⟨f2, l2, rfl, e2, h⟩ := List.map_eq_cons_iff.1 h
  obtain rfl := List.map_eq_nil_iff.1 h
  simp at e1 e2
  obtain ⟨n1, t1, o1⟩ := e1
  obtain ⟨n2, t2, o2⟩ := e2
  have q1 : ∀ w, _ := fun w => (in_parts a b w).1
  have q2 : ∀ w, _ := fun w => (in_parts a b w).2
  have hu : Tryd.prog.underlying 2 = some (.int .i64) := by kernel_rfl
  have hv : Tryd.prog.underlying 9 = some .string := by kernel_rfl
  have hi : ∀ (x y : Int) (w : World), (Op.equalIn 9998 2 (.int .i64 x) (.int .i64 y)).run Tryd.prog w = .ok (x == y) w := fun x y w => run_equalIn_int w 9997 _ _ _ x y hu
  have hs : ∀ (x y : ByteArray) (w : World), (Op.equalIn 9998 9 (.string x) (.string y)).run Tryd.prog w = .ok (x.toList == y.toList) w := fun x y w => run_equalIn_string w 9997 _ x y hv
  simp [Op.eqFields, n1, t1, o1, n2, t2, o2, q1, q2, hi, hs]
theorem out_ne (a : Int) (b : ByteArray) (c : Int) (w : World) : (binOp .neq 41 (.agg #[.int .i64 a, .string b, .int .i64 c]) (.agg #[.int .i64 a, .string b, .int .i64 c])).run Tryd.prog w = .ok (.bool false) w := by
  rw [run_neq_struct, run_equalIn_struct (d := 9999) w _ _ _ out_fields out_held]
  have h := out_names
  generalize (Tryd.prog.fieldsOf 41).toList = fs at h
  obtain ⟨f1, l1, rfl, e1, h⟩ := List.map_eq_cons_iff.1 h
  obtain ⟨f2, l2, rfl, e2, h⟩ := List.map_eq_cons_iff.1 h
  obtain rfl := List.map_eq_nil_iff.1 h
  simp at e1 e2
  obtain ⟨n1, t1, o1⟩ := e1
  obtain ⟨n2, t2, o2⟩ := e2
  have q1 : ∀ w, _ := fun w => (out_parts a b c w).1
  have q2 : ∀ w, _ := fun w => (out_parts a b c w).2
  have hu : Tryd.prog.underlying 2 = some (.int .i64) := by kernel_rfl
  have hi : ∀ (x y : Int) (w : World), (Op.equalIn 9999 2 (.int .i64 x) (.int .i64 y)).run Tryd.prog w = .ok (x == y) w := fun x y w => run_equalIn_int w 9998 _ _ _ x y hu
  have hb : ∀ w, _ := fun w => in_same a b w
  simp [Op.eqFields, n1, t1, o1, n2, t2, o2, q1, q2, hi, hb]
end Go.Proofs.YtlmhdebjmkcanaaDoor.lwb
