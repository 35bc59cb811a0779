/-
  laws.FnExactHex answers true at every text.
-/
import Derived.Test.YtppjbmmeacmoiaaDoorRows
import Derived.Test.YtppjbmmeacmoiaaDoorBase
namespace Go.Proofs.YtppjbmmeacmoiaaDoor.fnExactHex
open Go.ChangeShapes Go.WideShapes Go.ChangeAt Go.RowKit
open Go.Proofs.YtppjbmmeacmoiaaDoor.base
open Go.ChangeMaps (open_string shut_string)
set_option linter.unusedVariables false

theorem own : ownKnob Tryd.prog.godebug = none := by kernel_rfl
theorem info5 : (Tryd.prog.info? 5).map (fun i => (i.zero, i.size, i.bytes)) = some (some (.int .u8 0), 1, 1) := by kernel_rfl

/-- a digit of sixteen -/
def hd (n : Nat) : UInt8 := if n < 10 then UInt8.ofNat (48 + n) else UInt8.ofNat (87 + n)
def hexL (l : List UInt8) : List UInt8 := l.flatMap fun c => [hd (c.toNat / 16), hd (c.toNat % 16)]
theorem hexL_len (l : List UInt8) : (hexL l).length = 2 * l.length := by
  induction l with
  | nil => rfl
  | cons c l ih => simp only [hexL, List.flatMap_cons, List.length_append, List.length_cons, List.length_nil] at *; omega
theorem hexL_snoc (l : List UInt8) (c : UInt8) : hexL (l ++ [c]) = hexL l ++ [hd (c.toNat / 16), hd (c.toNat % 16)] := by
  simp [hexL]

theorem dig_at : ∀ n : Fin 16, (⟨#[48, 49, 50, 51, 52, 53, 54, 55, 56, 57, 97, 98, 99, 100, 101, 102]⟩ : ByteArray)[n.val]'n.isLt = hd n.val := by decide +kernel
theorem dig_hi (c : UInt8) : ∀ h, (⟨#[48, 49, 50, 51, 52, 53, 54, 55, 56, 57, 97, 98, 99, 100, 101, 102]⟩ : ByteArray)[(IntKind.u8.wrap ((c.toNat : Int) / 16)).toNat]'h = hd (c.toNat / 16) := by
  have hc := c.toNat_lt
  have e : (IntKind.u8.wrap ((c.toNat : Int) / 16)).toNat = c.toNat / 16 := by rw [IntKind.wrap_u8']; omega
  simp only [e]
  intro _
  exact dig_at ⟨c.toNat / 16, by omega⟩
theorem dig_lo (c : UInt8) : ∀ h, (⟨#[48, 49, 50, 51, 52, 53, 54, 55, 56, 57, 97, 98, 99, 100, 101, 102]⟩ : ByteArray)[((c.toNat : Int).tmod 16).toNat]'h = hd (c.toNat % 16) := by
  have hc := c.toNat_lt
  have e : ((c.toNat : Int).tmod 16).toNat = c.toNat % 16 := by rw [Int.tmod_eq_emod_of_nonneg (by omega)]; omega
  simp only [e]
  intro _
  exact dig_at ⟨c.toNat % 16, by omega⟩
theorem hi_lt (c : UInt8) : IntKind.u8.wrap ((c.toNat : Int) / 16) < 16 := by
  have := c.toNat_lt
  rw [IntKind.wrap_u8']; omega
theorem lo_eq (c : UInt8) : (c.toNat : Int).tmod 16 = ((c.toNat % 16 : Nat) : Int) := by
  rw [Int.tmod_eq_emod_of_nonneg (by omega)]; omega
theorem lo_ge (c : UInt8) : 0 ≤ (c.toNat : Int).tmod 16 := by rw [lo_eq]; omega
theorem lo_lt (c : UInt8) : (c.toNat : Int).tmod 16 < 16 := by rw [lo_eq]; omega

end Go.Proofs.YtppjbmmeacmoiaaDoor.fnExactHex
