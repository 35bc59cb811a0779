/-
  laws.lwBlobs answers yes at two rows of the same blobs. Condition: at most 1,048,576 blobs.
-/
import Derived.Test.YtlmhdebjmkcanaaDoorZCellA
import Derived.Laws.StructEq
namespace Go.Proofs.YtlmhdebjmkcanaaDoor.lwb
open Go.RowKit Go.Joins
open Go.Proofs.YtlmhdebjmkcanaaDoor.base Go.Proofs.YtlmhdebjmkcanaaDoor.blk Go.Proofs.YtlmhdebjmkcanaaDoor.aid
open Go.Proofs.YtlmhdebjmkcanaaDoor.row (bl Rd)
set_option linter.unusedVariables false

theorem blob_fields : Tryd.prog.underlying 39 = some (.struct (Tryd.prog.fieldsOf 39)) := by kernel_rfl
theorem blob_names : ((Tryd.prog.fieldsOf 39).toList.map fun f => (f.name, f.type, f.offset)) = [("Kind", 2, 0), ("Text", 9, 1)] := by kernel_rfl
theorem blob_held : Tryd.prog.stoodInHeld 39 = false := by kernel_rfl
theorem blob_parts (a : Int) (b : ByteArray) (w : World) : (part 2 #[.int .i64 a, .string b] 0).run Tryd.prog w = .ok (.int .i64 a) w ∧ (part 9 #[.int .i64 a, .string b] 1).run Tryd.prog w = .ok (.string b) w := by
  refine ⟨?_, ?_⟩ <;> simp [go_sem]
theorem blob_ne (a : Int) (b : ByteArray) (w : World) : (binOp .neq 39 (.agg #[.int .i64 a, .string b]) (.agg #[.int .i64 a, .string b])).run Tryd.prog w = .ok (.bool false) w := by
  rw [run_neq_struct, run_equalIn_struct (d := 9999) w _ _ _ blob_fields blob_held]
  have h := blob_names
  generalize (Tryd.prog.fieldsOf 39).toList = fs at h
  obtain ⟨f1, l1, rfl, e1, h⟩ := List.map_eq_cons_iff.1 h
  obtain ⟨f2, l2, rfl, e2, h⟩ := List.map_eq_cons_iff.1 h
  obtain rfl := List.map_eq_nil_iff.1 h
  simp at e1 e2
  obtain ⟨n1, t1, o1⟩ := e1
  obtain ⟨n2, t2, o2⟩ := e2
  have q1 : ∀ w, _ := fun w => (blob_parts a b w).1
  have q2 : ∀ w, _ := fun w => (blob_parts a b w).2
  have hu : Tryd.prog.underlying 2 = some (.int .i64) := by kernel_rfl
  have hv : Tryd.prog.underlying 9 = some .string := by kernel_rfl
  have hi : ∀ (x y : Int) (w : World), (Op.equalIn 9999 2 (.int .i64 x) (.int .i64 y)).run Tryd.prog w = .ok (x == y) w := fun x y w => run_equalIn_int w 9998 _ _ _ x y hu
  have hs : ∀ (x y : ByteArray) (w : World), (Op.equalIn 9999 9 (.string x) (.string y)).run Tryd.prog w = .ok (x.toList == y.toList) w := fun x y w => run_equalIn_string w 9998 _ x y hv
  simp [Op.eqFields, n1, t1, o1, n2, t2, o2, q1, q2, hi, hs]

set_option maxRecDepth 100000 in
set_option maxHeartbeats 1000000 in
theorem lwBlobs_same (a b : Option Addr) (ca cb : Nat) (l : List (Int × ByteArray)) (w : World) (hl : l.length ≤ 1048576) (ha : Rd w a (bl l)) (hb : Rd w b (bl l)) :
    Calls Tryd.prog 13 #[.slice a l.length ca, .slice b l.length cb] w fun e w' => e = .returned (.bool true) ∧ Below w.heap.size w w' := by
  have hne : ((l.length : Int) != (l.length : Int)) = false := by simp
  have HN := fun k t wx => blob_ne k t wx
  go_enter Tryd.func13, Tryd.ntmps13
  go_wp2
  go_loopw [5] (fun i wr => ∃ k : Nat, k ≤ l.length ∧ i = .int .i64 k ∧ Hid (Below w.heap.size w wr))
    (fun i _ => l.length - (intOf i).toNat)
  case atStart => exact ⟨0, Nat.zero_le _, rfl, mkHid (Below.refl _ _)⟩
  case round =>
    obtain ⟨k, hk, rfl, hw⟩ := hrel
    by_cases hlt : k < l.length
    · have hlti : (k : Int) < (l.length : Int) := by omega
      obtain ⟨⟨bk, bt⟩, hx⟩ : ∃ z, l[k]? = some z := ⟨_, List.getElem?_eq_getElem hlt⟩
      obtain ⟨g1, o1, rfl, c1, c2, l1⟩ := ha.blob hx
      obtain ⟨g2, o2, rfl, d1, d2, l2⟩ := hb.blob hx
      have e1 := (hw.out.cell (p := ⟨g1, o1 + k * 2, none⟩) l1).trans c1
      have e2 := (hw.out.cell (p := ⟨g1, o1 + k * 2 + 1, none⟩) l1).trans c2
      have e3 := (hw.out.cell (p := ⟨g2, o2 + k * 2, none⟩) l2).trans d1
      have e4 := (hw.out.cell (p := ⟨g2, o2 + k * 2 + 1, none⟩) l2).trans d2
      clear ha hb hx c1 c2 d1 d2
      go_wp2_with fail
      go_quiet (fail)
      go_wp2
      exact ⟨⟨k + 1, by omega, by go_num, mkHid (Below.mk hw.out.os hw.out.tape hw.out.output hw.out.size hw.out.block)⟩, by simp [intOf]; omega⟩
    · obtain rfl : k = l.length := by omega
      go_wp2
      go_ret
      exact ⟨rfl, hw.out⟩
end Go.Proofs.YtlmhdebjmkcanaaDoor.lwb
