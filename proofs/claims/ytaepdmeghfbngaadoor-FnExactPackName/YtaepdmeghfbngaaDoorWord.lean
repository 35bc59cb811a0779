/-
  Numbers of 32 bits: sums, bits and turns as plain functions, folded, so that walks carry their names. No condition.
-/
import Derived.Test.YtaepdmeghfbngaaDoorRows
import Derived.Test.YtaepdmeghfbngaaDoorBase
namespace Go.Proofs.YtaepdmeghfbngaaDoor.word
open Go.RowKit
open Go.Proofs.YtaepdmeghfbngaaDoor.base
set_option linter.unusedVariables false

def A (a b : Int) : Int := IntKind.u32.wrap (a + b)
def X (a b : Int) : Int := bits .xor .u32 a b
def N (a b : Int) : Int := bits .and .u32 a b
def O (a b : Int) : Int := bits .or .u32 a b
/-- times a power of 2 -/
def M (a c : Int) : Int := IntKind.u32.wrap (a * c)
/-- the low 32 bits -/
def U (a : Int) : Int := a % 4294967296
/-- turned right -/
def rot (x k : Int) : Int := O (x / 2 ^ k.toNat) (M x (2 ^ (32 - k).toNat))

theorem A_fold (a b : Int) : IntKind.u32.wrap (a + b) = A a b := rfl
theorem X_fold (a b : Int) : bits .xor .u32 a b = X a b := rfl
theorem N_fold (a b : Int) : bits .and .u32 a b = N a b := rfl
theorem O_fold (a b : Int) : bits .or .u32 a b = O a b := rfl
theorem M_fold (a c : Int) : IntKind.u32.wrap (a * c) = M a c := rfl

theorem ret_eq {a b : Value} (h : a = b) : Ending.returned a = Ending.returned b := by rw [h]

theorem turn_any (x k : Int) (w : World) (h0 : 0 ≤ k) (h1 : k ≤ 32) : Calls Tryd.prog 25 #[.int .u32 x, .int .u64 k] w fun e w' => e = .returned (.int .u32 (rot x k)) ∧ w' = w := by
  go_enter Tryd.func25, Tryd.ntmps25
  go_wp2
  go_ret
  exact ⟨rfl, rfl⟩
end Go.Proofs.YtaepdmeghfbngaaDoor.word
