/-
  The variable impl.roundNumbers: what the row's list gives of it, and how it reads. No condition.
-/
import Derived.Test.YtaepdmeghfbngaaDoorRows
import Derived.Test.YtaepdmeghfbngaaDoorShaP
import Derived.LaidLaws
import Derived.LaidHandle
import Derived.Lib.LaidTab
import Derived.ChangeVars
namespace Go.Proofs.YtaepdmeghfbngaaDoor.tab
open Go.ChangeShapes Go.WideShapes Go.ChangeAt Go.RowKit
open Go.Proofs.YtaepdmeghfbngaaDoor.sha (keys key GV)
set_option linter.unusedVariables false

theorem gN : Tryd.prog.globalNamed "loop.example/g00259/impl.roundNumbers" = some 0 := by kernel_rfl
theorem gNType : (Tryd.prog.globals[0]?).map (·.type) = some 48 := by kernel_rfl
theorem cellsE : Tryd.prog.cellsOf 42 = 1 := by kernel_rfl
theorem cellsT : Tryd.prog.cellsOf 48 = 64 := by kernel_rfl

/-- the variable holds the numbers of the rounds -/
def Is (W : World) : Prop := Lib.TabIs Tryd.prog W "loop.example/g00259/impl.roundNumbers" .u32 keys
theorem of_laid {W : World} (h : laidMetH Tryd.prog [("loop.example/g00259/impl.roundNumbers", Rows.laid_loop_example_g00259_impl_roundNumbers)] W) : Is W := by
  have h' : laidMet Tryd.prog [("loop.example/g00259/impl.roundNumbers", Lib.tabData .u32 keys)] W := h
  exact Lib.tabIs_of_head gN gNType Tryd.underlying48 Tryd.underlying42 cellsE cellsT h'
theorem gv {W : World} (h : Is W) : GV W := fun i hi => Lib.TabIs.cell h gN i hi
theorem below {W W' : World} (h : Is W) (hb : Below W.heap.size W W') : Is W' := by
  have h0 : 0 < W.heap.size := (gv h).lt
  unfold Is Lib.TabIs World.var? at h ⊢
  rw [gN] at h ⊢
  simp only [Option.bind_some] at h ⊢
  rw [hb.block 0 h0]
  exact h
theorem trod {H : Type} (enc : TypeId × Value → H) (W : World) (sp : Nat → Bool) : DataW.trod enc Tryd.prog W 0 sp true 2 48 ((keys.map fun z => Value.int .u32 z).toArray).toList = some (Lib.tabData .u32 keys, []) := by
  kernel_rfl
theorem vars {H : Type} (enc : TypeId × Value → H) (W : World) (sp : Nat → Bool) (h : Is W) : ∃ q, DataW.TrodVars enc Tryd.prog W sp ["loop.example/g00259/impl.roundNumbers"] [Lib.tabData .u32 keys] q :=
  ⟨_, trodVars_mk1 gN gNType h (trod enc W sp)⟩

/-- the block in which the variable lies as its initialiser lays it -/
def laidObj : Obj → Obj
  | .cells _ t frozen => .cells (keys.map fun z => Value.int .u32 z).toArray t frozen
  | o => o
theorem laid_met (os : Os) (args : Array Value) : laidMetH Tryd.prog [("loop.example/g00259/impl.roundNumbers", Rows.laid_loop_example_g00259_impl_roundNumbers)] (({ World.holding Tryd.prog os ⟨#[], #[], []⟩ with heap := (World.holding Tryd.prog os ⟨#[], #[], []⟩).heap.modify 0 laidObj } : World).forCall (fun _ _ => 0) ⟨#[], args, []⟩).memory :=
  laidMet_of_run' 8 (by kernel_rfl) (by kernel_rfl)
end Go.Proofs.YtaepdmeghfbngaaDoor.tab
