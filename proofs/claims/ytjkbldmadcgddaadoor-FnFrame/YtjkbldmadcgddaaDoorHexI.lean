/-
  impl.Hex: what it answers.
-/
import Derived.Test.YtjkbldmadcgddaaDoorHex
import Derived.Laws.CopyOwn
namespace Go.Proofs.YtjkbldmadcgddaaDoor.fnExactHex
open Go.ChangeShapes Go.WideShapes Go.ChangeAt Go.RowKit
open Go.Proofs.YtjkbldmadcgddaaDoor.base
set_option linter.unusedVariables false

theorem and15 (c : UInt8) : bits BinOp.and IntKind.u8 (c.toNat : Int) 15 = (c.toNat : Int) % 16 := by
  have hc := c.toNat_lt
  rw [u8_and _ _ (by omega) (by omega) (by omega) (by omega)]
  have e : ((c.toNat : Int)).toNat = c.toNat := by omega
  have e2 : (15 : Int).toNat = 15 := rfl
  rw [e, e2, nat_mask4]
  omega
theorem at_hi (c : UInt8) : ∀ h, (⟨#[48, 49, 50, 51, 52, 53, 54, 55, 56, 57, 97, 98, 99, 100, 101, 102]⟩ : ByteArray)[((c.toNat : Int) / 16).toNat]'h = hd (c.toNat / 16) := by
  have hc := c.toNat_lt
  have e : ((c.toNat : Int) / 16).toNat = c.toNat / 16 := by omega
  simp only [e]
  intro _
  exact dig_at ⟨c.toNat / 16, by omega⟩
theorem at_lo (c : UInt8) : ∀ h, (⟨#[48, 49, 50, 51, 52, 53, 54, 55, 56, 57, 97, 98, 99, 100, 101, 102]⟩ : ByteArray)[((c.toNat : Int) % 16).toNat]'h = hd (c.toNat % 16) := by
  have e : ((c.toNat : Int) % 16).toNat = c.toNat % 16 := by omega
  simp only [e]
  intro _
  exact dig_at ⟨c.toNat % 16, by omega⟩

/-- the row behind k rounds -/
def rowL (s : ByteArray) (k : Nat) : List Value := (hexL (s.data.toList.take k)).map byteV ++ List.replicate (2 * (s.size - k)) (.int .u8 0)

theorem len_take (s : ByteArray) (k : Nat) (hk : k ≤ s.size) : (hexL (s.data.toList.take k)).length = 2 * k := by
  rw [hexL_len, List.length_take]
  have e : s.data.toList.length = s.size := by rw [Array.length_toList]; rfl
  rw [e]; omega
theorem rowL_len (s : ByteArray) (k : Nat) (hk : k ≤ s.size) : (rowL s k).length = 2 * s.size := by
  simp only [rowL, List.length_append, List.length_map, len_take s k hk, List.length_replicate]
  omega
theorem rowL_zero (s : ByteArray) : (rowL s 0).toArray = madeCells #[.int .u8 0] (2 * s.size) := by
  apply Array.ext
  · simp [rowL, hexL, madeCells]
  · intro i h1 h2
    simp [rowL, hexL, madeCells, Nat.mod_one]
theorem rowL_next (s : ByteArray) (k : Nat) (hlt : k < s.size) :
    splice (rowL s k) (2 * k) [.int .u8 ((hd (s[k].toNat / 16)).toNat : Int), .int .u8 ((hd (s[k].toNat % 16)).toNat : Int)] = rowL s (k + 1) := by
  have hl := len_take s k (by omega)
  have e : 2 * (s.size - k) = 2 + 2 * (s.size - (k + 1)) := by omega
  unfold splice rowL
  rw [take_snoc s k hlt, hexL_snoc, e]
  generalize hexL (s.data.toList.take k) = A at *
  have h1 : ((A.map byteV) ++ List.replicate (2 + 2 * (s.size - (k + 1))) (Value.int .u8 0)).take (2 * k) = A.map byteV := by
    rw [List.take_append_of_le_length (by simp [hl]), List.take_of_length_le (by simp [hl])]
  have h2 : ((A.map byteV) ++ List.replicate (2 + 2 * (s.size - (k + 1))) (Value.int .u8 0)).drop (2 * k + 2) = List.replicate (2 * (s.size - (k + 1))) (Value.int .u8 0) := by
    rw [List.drop_append, List.drop_of_length_le (by simp [hl])]
    simp [hl]
  simp only [List.length_cons, List.length_nil]
  rw [h1, h2]
  simp [byteV]
theorem wrap_two (k : Nat) (h : k ≤ 20000) : IntKind.i64.wrap (2 * (k : Int)) = 2 * (k : Int) := by
  simp [IntKind.wrap, IntKind.bits, IntKind.signed]; omega
theorem two_min {n : Nat} {x y : Value} (h : 2 ≤ n) : [x, y].length = Nat.min 2 n := by
  simp [h]
theorem info5' : (Tryd.prog.info? 5).map (·.size) = some 1 := by kernel_rfl

end Go.Proofs.YtjkbldmadcgddaaDoor.fnExactHex
