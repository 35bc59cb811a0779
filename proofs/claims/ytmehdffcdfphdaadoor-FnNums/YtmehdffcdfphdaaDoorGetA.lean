/-
  errors.As at an error that is a readError itself, and impl.codeOf: it answers the error's own code. Condition: the variable errors.errorType holds what the program lays there.
-/
import Derived.Test.YtmehdffcdfphdaaDoorRows
import Derived.WalkKit
import Derived.LaidEql
import Derived.Stop.Asserts
import Derived.RowKitTokens
namespace Go.Proofs.YtmehdffcdfphdaaDoor.as
open Go.RowKit Go.Extern.Stop Go.Stop Go.Extern
set_option linter.unusedVariables false

/-- a type's own address -/
abbrev ty (t : Nat) : Value := .pointer (some ⟨1, t, none⟩)
/-- a type as errors.As sees it -/
abbrev rt (t : Nat) : Value := .iface 72 (.agg #[ty t])
/-- a Value of package reflectlite -/
abbrev rv (t : Nat) (a : Addr) (fl : Int) : Value := .agg #[ty t, .pointer (some a), .int .u64 fl]

theorem of_ptr (t : Addr) (w : World) : (ReflectliteValue.unpack (.iface 56 (.pointer (some t)))).run Tryd.prog w = .ok (rv 56 ⟨w.heap.size, 0, none⟩ 150) (w.alloc (.cells #[.pointer (some t)] 56)) := by kernel_rfl
theorem of_err (c : Int) (w : World) : (ReflectliteValue.unpack (.iface 54 (.agg #[.int .i64 c]))).run Tryd.prog w = .ok (rv 54 ⟨w.heap.size, 0, none⟩ 153) (w.alloc (.cells #[.int .i64 c] 54)) := by kernel_rfl
theorem type_ptr (a : Addr) (w : World) : (ReflectliteValue.methodAny (ReflectliteValue.valueError "reflectlite.Value.Type" 0) (fun t _ _ _ => ReflectliteType.toType t) #[rv 56 a 150]).run Tryd.prog w = .ok (rt 56) w := by kernel_rfl
theorem m_kind (h : Value) (w : World) : (Go.method 215 72 (.agg #[h]) "Kind").run Tryd.prog w = .ok (49, h) w := by kernel_rfl
theorem m_elem (h : Value) (w : World) : (Go.method 215 72 (.agg #[h]) "Elem").run Tryd.prog w = .ok (59, .agg #[h]) w := by kernel_rfl
theorem m_impl (h : Value) (w : World) : (Go.method 215 72 (.agg #[h]) "Implements").run Tryd.prog w = .ok (60, .agg #[h]) w := by kernel_rfl
theorem m_assign (h : Value) (w : World) : (Go.method 215 72 (.agg #[h]) "AssignableTo").run Tryd.prog w = .ok (57, .agg #[h]) w := by kernel_rfl
theorem kind_ptr (w : World) : ((ReflectliteType.abiMethod fun t => (fun a : Nat => Value.int IntKind.u8 (a : Int)) <$> Rtype.kind t) #[ty 56]).run Tryd.prog w = .ok (.int .u8 22) w := by kernel_rfl
theorem kind_err (w : World) : ((ReflectliteType.abiMethod fun t => (fun a : Nat => Value.int IntKind.u8 (a : Int)) <$> Rtype.kind t) #[ty 54]).run Tryd.prog w = .ok (.int .u8 25) w := by kernel_rfl
theorem elem_ptr (w : World) : (ReflectliteType.method ReflectliteType.elem #[.agg #[ty 56]]).run Tryd.prog w = .ok (rt 54) w := by kernel_rfl
theorem impl_err (w : World) : (ReflectliteType.relation "Implements" ReflectliteType.implements_ #[.agg #[ty 54], rt 41]).run Tryd.prog w = .ok (.bool true) w := by kernel_rfl
theorem type_err (v : Value) (w : World) : (ReflectliteType.typeOf #[.iface 54 v]).run Tryd.prog w = .ok (rt 54) w := by kernel_rfl
theorem assign_err (w : World) : (ReflectliteType.relation "AssignableTo" ReflectliteType.assignableTo #[.agg #[ty 54], rt 54]).run Tryd.prog w = .ok (.bool true) w := by kernel_rfl
theorem parts_ptr (a : Addr) (w : World) : (ReflectliteValue.parts (rv 56 a 150)).run Tryd.prog w = .ok (some (56, a, 150)) w := by kernel_rfl
theorem parts_at (a : Addr) (w : World) : (ReflectliteValue.parts (rv 54 a 409)).run Tryd.prog w = .ok (some (54, a, 409)) w := by kernel_rfl
theorem parts_err (a : Addr) (w : World) : (ReflectliteValue.parts (rv 54 a 153)).run Tryd.prog w = .ok (some (54, a, 153)) w := by kernel_rfl
theorem elem_of (w : World) : (Rtype.elem? 56).run Tryd.prog w = .ok (some 54) w := by kernel_rfl
theorem mk_at (p : Addr) (w : World) : (ReflectliteValue.mk 54 p ReflectliteValue.flagAddr).run Tryd.prog w = .ok (rv 54 p 409) w := by kernel_rfl
theorem direct (w : World) : (Rtype.directlyAssignable 54 54).run Tryd.prog w = .ok true w := by kernel_rfl
theorem agg43 (w : World) : (isAgg 54).run Tryd.prog w = .ok true w := by kernel_rfl
theorem size43 (w : World) : (sizeOf 54).run Tryd.prog w = .ok 1 w := by kernel_rfl

theorem isNil_is (a : Addr) (W : World) : (ReflectliteValue.method (ReflectliteValue.valueError "reflectlite.Value.IsNil" 0) ReflectliteValue.isNil #[rv 56 a 150]).run Tryd.prog W = (ReflectliteValue.isNil 56 a 150 22).run Tryd.prog W := by kernel_rfl
theorem elem_is (a : Addr) (W : World) : (ReflectliteValue.method (ReflectliteValue.valueError "reflectlite.Value.Elem" 0) ReflectliteValue.elem #[rv 56 a 150]).run Tryd.prog W = (ReflectliteValue.elem 56 a 150 22).run Tryd.prog W := by kernel_rfl
theorem set_is (a b : Addr) (W : World) : (ReflectliteValue.set #[rv 54 a 409, rv 54 b 153]).run Tryd.prog W = (loadVar 54 b >>= fun v => storeVar 54 a v >>= fun _ => pure (.tuple #[])).run Tryd.prog W := by kernel_rfl

theorem isNil_ptr (a p : Addr) (W : World) (ha : W.cell? a = some (.pointer (some p))) :
    (ReflectliteValue.method (ReflectliteValue.valueError "reflectlite.Value.IsNil" 0) ReflectliteValue.isNil #[rv 56 a 150]).run Tryd.prog W = .ok (.bool false) W := by
  rw [isNil_is]
  simp [ReflectliteValue.isNil, loadVar, isAgg, underlying, Tryd.underlying56, ha, Result.andThen]

theorem elem_val (a p : Addr) (W : World) (ha : W.cell? a = some (.pointer (some p))) :
    (ReflectliteValue.method (ReflectliteValue.valueError "reflectlite.Value.Elem" 0) ReflectliteValue.elem #[rv 56 a 150]).run Tryd.prog W = .ok (rv 54 p 409) W := by
  rw [elem_is]
  simp [ReflectliteValue.elem, loadVar, isAgg, underlying, Tryd.underlying56, ha, Result.andThen, elem_of, mk_at]

theorem set_err (ta b : Addr) (c : Int) (old : Value) (W : World) (hb : W.cell? b = some (.int .i64 c)) (ht : W.cell? ta = some old) (hf : W.frozen? ta = false) :
    (ReflectliteValue.set #[rv 54 ta 409, rv 54 b 153]).run Tryd.prog W = .ok (.tuple #[]) (W.setCell ta (.int .i64 c)) := by
  rw [set_is]
  have hl : (loadVar 54 b).run Tryd.prog W = .ok (.agg #[.int .i64 c]) W := by
    have h := run_loadCells_list (P := Tryd.prog) W b [.int .i64 c] (fun j v hj => by
      match j, hj with
      | 0, hj => simp at hj; subst hj; simpa [Addr.add] using hb)
    simp only [List.length_cons, List.length_nil, Nat.zero_add] at h
    simp only [loadVar, Sem.run_bind, agg43, size43, Result.andThen, if_true, h]
    rfl
  have hs : (storeVar 54 ta (.agg #[.int .i64 c])).run Tryd.prog W = .ok () (W.setCell ta (.int .i64 c)) := by
    simp [storeVar, Value.cells, storeCells, Addr.add]
    rw [run_store Tryd.prog W ta _ _ (by rfl)]
    simp [ht, hf]
  simp only [Sem.run_bind, hl, Result.andThen, hs, Sem.run_pure]

end Go.Proofs.YtmehdffcdfphdaaDoor.as
