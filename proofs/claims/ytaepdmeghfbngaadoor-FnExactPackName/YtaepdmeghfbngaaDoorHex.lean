/-
  laws.FnExactHex answers true at every text.
-/
import Derived.Test.YtaepdmeghfbngaaDoorRows
import Derived.Test.YtaepdmeghfbngaaDoorBase
namespace Go.Proofs.YtaepdmeghfbngaaDoor.fnExactHex
open Go.ChangeShapes Go.WideShapes Go.ChangeAt Go.RowKit
open Go.Proofs.YtaepdmeghfbngaaDoor.base
open Go.ChangeMaps (open_string shut_string)
set_option linter.unusedVariables false

theorem own : ownKnob Tryd.prog.godebug = none := by kernel_rfl
theorem info5 : (Tryd.prog.info? 5).map (fun i => (i.zero, i.size, i.bytes)) = some (some (.int .u8 0), 1, 1) := by kernel_rfl

/-- a digit of sixteen -/
def hd (n : Nat) : UInt8 := if n < 10 then UInt8.ofNat (48 + n) else UInt8.ofNat (87 + n)
def hexL (l : List UInt8) : List UInt8 := l.flatMap fun c => [hd (c.toNat / 16), hd (c.toNat % 16)]
theorem hexL_len (l : List UInt8) : (hexL l).length = 2 * l.length := by
  induction l with
  | nil => rfl
  | cons c l ih => simp only [hexL, List.flatMap_cons, List.length_append, List.length_cons, List.length_nil] at *; omega
theorem hexL_snoc (l : List UInt8) (c : UInt8) : hexL (l ++ [c]) = hexL l ++ [hd (c.toNat / 16), hd (c.toNat % 16)] := by
  simp [hexL]

theorem dig_at : ∀ n : Fin 16, (⟨#[48, 49, 50, 51, 52, 53, 54, 55, 56, 57, 97, 98, 99, 100, 101, 102]⟩ : ByteArray)[n.val]'n.isLt = hd n.val := by decide +kernel
theorem dig_hi (c : UInt8) : ∀ h, (⟨#[48, 49, 50, 51, 52, 53, 54, 55, 56, 57, 97, 98, 99, 100, 101, 102]⟩ : ByteArray)[(IntKind.u8.wrap ((c.toNat : Int) / 16)).toNat]'h = hd (c.toNat / 16) := by
  have hc := c.toNat_lt
  have e : (IntKind.u8.wrap ((c.toNat : Int) / 16)).toNat = c.toNat / 16 := by rw [IntKind.wrap_u8']; omega
  simp only [e]
  intro _
  exact dig_at ⟨c.toNat / 16, by omega⟩
theorem dig_lo (c : UInt8) : ∀ h, (⟨#[48, 49, 50, 51, 52, 53, 54, 55, 56, 57, 97, 98, 99, 100, 101, 102]⟩ : ByteArray)[((c.toNat : Int).tmod 16).toNat]'h = hd (c.toNat % 16) := by
  have hc := c.toNat_lt
  have e : ((c.toNat : Int).tmod 16).toNat = c.toNat % 16 := by rw [Int.tmod_eq_emod_of_nonneg (by omega)]; omega
  simp only [e]
  intro _
  exact dig_at ⟨c.toNat % 16, by omega⟩
theorem hi_lt (c : UInt8) : IntKind.u8.wrap ((c.toNat : Int) / 16) < 16 := by
  have := c.toNat_lt
  rw [IntKind.wrap_u8']; omega
theorem lo_eq (c : UInt8) : (c.toNat : Int).tmod 16 = ((c.toNat % 16 : Nat) : Int) := by
  rw [Int.tmod_eq_emod_of_nonneg (by omega)]; omega
theorem lo_ge (c : UInt8) : 0 ≤ (c.toNat : Int).tmod 16 := by rw [lo_eq]; omega
theorem lo_lt (c : UInt8) : (c.toNat : Int).tmod 16 < 16 := by rw [lo_eq]; omega

set_option maxRecDepth 100000 in
theorem spec_any (s : ByteArray) (w : World) (hs : s.size ≤ 20000) :
    Calls Tryd.prog 6 #[.string s] w fun e w' => e = .returned (.string ⟨(hexL s.data.toList).toArray⟩) ∧ Below w.heap.size w w' := by
  obtain ⟨i0, hi, hz0, hz1, hz2⟩ := info_parts info5
  go_enter Tryd.func6, Tryd.ntmps6
  go_wp2
  go_loopw [3, 4] (fun v i wr => ∃ k : Nat, k ≤ s.size ∧ i = .int .i64 k ∧ wr.ownsRow w.heap.size 5 1 v (hexL (s.data.toList.take k)).length ((hexL (s.data.toList.take k)).map byteV) ∧ Below w.heap.size w wr)
    (fun _ i _ => s.size - (intOf i).toNat)
  case atStart => exact ⟨0, Nat.zero_le _, rfl, by simpa [hexL] using World.ownsRow_made w #[] 0 (Nat.le_refl _) (by decide) rfl, (Below.refl _ _).alloc (Nat.le_refl _) _⟩
  case round =>
    obtain ⟨k, hk, rfl, hown, hbel⟩ := hrel
    by_cases hlt : k < s.size
    · have q1 := hi_lt s[k]
      have q2 := lo_lt s[k]
      have q3 := lo_ge s[k]
      have g1 := dig_hi s[k]
      have g2 := dig_lo s[k]
      have hL : (hexL (s.data.toList.take k)).length ≤ 40000 := by rw [hexL_len]; have := List.length_take_le k s.data.toList; omega
      have hB := hbel.size
      go_wp2
      go_region_law (refine step_append_own rfl _ _ 24 rfl w.heap.size 5 i0 (.int .u8 0) 1 1 Tryd.underlying24 hi hz0 hz1 hz2 rfl (by decide) _ _ _ rfl (hown.alloc _).drew ⟨wr.heap.size, 0, none⟩ 2 2 [.int .u8 (hd (s[k].toNat / 16)).toNat, .int .u8 (hd (s[k].toNat % 16)).toNat] rfl rfl (cells2 _ _ _ _) (one2 _ _) (by unfold maxLen; omega) (by omega) (by simp; omega) ?_; intro v' w1 hown' hgrow)
      all_goals
        have r1 := row_two _ _ hown'
        have r2 := below_grown ((hbel.alloc hB _).drew) (by simp; omega) hown hgrow
        have r3 : hexL (s.data.toList.take k) ++ [hd (s[k].toNat / 16), hd (s[k].toNat % 16)] = hexL (s.data.toList.take (k + 1)) := by rw [take_snoc s k hlt, hexL_snoc]
        rw [r3] at r1
        clear r3 hown' hgrow hown hbel q1 q2 q3 g1 g2 hL hB
        go_wp2
        go_roundw
        case rel => exact ⟨k + 1, by omega, by go_num, r1, r2⟩
        case measure => simp [intOf]; omega
    · have e : s.data.toList.take k = s.data.toList := List.take_of_length_le (by simp; omega)
      rw [e] at hown
      obtain ⟨a, n, cap, hv, hconv⟩ := owns_string_any Tryd.underlying24 Tryd.underlying5 Tryd.underlying9 hown
      clear hown e
      subst hv
      go_wp2
      go_ret
      exact ⟨rfl, hbel⟩
end Go.Proofs.YtaepdmeghfbngaaDoor.fnExactHex
