/-
  Digits of sixteen read: what spec.HexRead answers, and the small functions on its way and on that of impl.HexRead.
-/
import Derived.Test.YtobojmdgdomgpaaHex
import Derived.WalkLawsBesides
import Derived.Lib.Bytealg
namespace Go.Proofs.Ytobojmdgdomgpaa.fnExactHexRead
open Go.ChangeShapes Go.WideShapes Go.ChangeAt Go.RowKit
open Go.Proofs.Ytobojmdgdomgpaa.base
open Go.Proofs.Ytobojmdgdomgpaa.fnExactHex
set_option linter.unusedVariables false

/-- a digit's number, or -1 -/
def dv (c : UInt8) : Int := if 48 ≤ (c.toNat : Int) ∧ (c.toNat : Int) ≤ 57 then (c.toNat : Int) - 48 else if 97 ≤ (c.toNat : Int) ∧ (c.toNat : Int) ≤ 102 then (c.toNat : Int) - 97 + 10 else -1
theorem dv_bd (c : UInt8) : -1 ≤ dv c ∧ dv c ≤ 15 := by unfold dv; split <;> (try split) <;> omega

theorem index_dv_all : ∀ n : Fin 256, Lib.indexByte [48, 49, 50, 51, 52, 53, 54, 55, 56, 57, 97, 98, 99, 100, 101, 102] (UInt8.ofNat n.val) = dv (UInt8.ofNat n.val) := by decide +kernel
theorem index_dv (c : UInt8) : Lib.indexByte [48, 49, 50, 51, 52, 53, 54, 55, 56, 57, 97, 98, 99, 100, 101, 102] c = dv c := by
  have h := index_dv_all ⟨c.toNat, c.toNat_lt⟩
  have e : UInt8.ofNat c.toNat = c := by simp
  simp only [e] at h
  exact h

set_option maxRecDepth 100000 in
theorem ix_any (c : UInt8) (w : World) : Calls Try.prog 16 #[.string ⟨#[48, 49, 50, 51, 52, 53, 54, 55, 56, 57, 97, 98, 99, 100, 101, 102]⟩, .int .u8 c.toNat] w fun e w' => e = .returned (.int .i64 (dv c)) ∧ w = w' := by
  rw [← index_dv c]
  go_enter Try.func16, Try.ntmps16
  go_wp2
  rw [run_callFunc_extern Try.func19 (by kernel_rfl) (by kernel_rfl) (by kernel_rfl) (e := Extern.BytealgIndexByte.indexByte) (by kernel_rfl), Lib.run_indexByteString]
  simp only [Result.andThen]
  rw [Oper.upon_value]
  go_wp2
  go_ret
  exact ⟨rfl, rfl⟩

theorem digit_any (c : UInt8) (w : World) : Calls Try.prog 17 #[.int .u8 c.toNat] w fun e w' => e = .returned (.int .i64 (dv c)) ∧ w = w' := by
  have hc := c.toNat_lt
  by_cases h1 : 48 ≤ (c.toNat : Int) ∧ (c.toNat : Int) ≤ 57
  · have e : dv c = (c.toNat : Int) - 48 := if_pos h1
    obtain ⟨h1, h2⟩ := h1
    rw [e]
    clear e
    go_enter Try.func17, Try.ntmps17
    go_wp2
    go_ret
    exact ⟨rfl, rfl⟩
  · by_cases h2 : 97 ≤ (c.toNat : Int) ∧ (c.toNat : Int) ≤ 102
    · have e : dv c = (c.toNat : Int) - 97 + 10 := by unfold dv; rw [if_neg h1, if_pos h2]
      obtain ⟨h2, h3⟩ := h2
      rw [e]
      clear e
      have h4 : ¬ (c.toNat : Int) ≤ 57 := by omega
      clear h1
      go_enter Try.func17, Try.ntmps17
      go_wp2
      go_ret
      exact ⟨rfl, rfl⟩
    · have e : dv c = -1 := by unfold dv; rw [if_neg h1, if_neg h2]
      rw [e]
      clear e
      go_enter Try.func17, Try.ntmps17
      go_wp2
      all_goals first | (exfalso; simp at *; omega) | (go_ret; exact ⟨rfl, rfl⟩)

def hexRd : List UInt8 → Option (List UInt8)
  | [] => some []
  | [_] => none
  | a :: b :: r => if dv a < 0 ∨ dv b < 0 then none else (hexRd r).map (UInt8.ofNat (16 * dv a + dv b).toNat :: ·)

/-- what is answered -/
def out (r : Option (List UInt8)) : Value := match r with
  | none => .agg #[.string ⟨#[]⟩, .int .i64 0, .int .i64 3]
  | some l => .agg #[.string ⟨l.toArray⟩, .int .i64 0, .int .i64 0]

/-- behind k pairs the bytes acc are read -/
def Got (L : List UInt8) (k : Nat) (acc : List UInt8) : Prop := acc.length = k ∧ hexRd L = (hexRd (L.drop (2 * k))).map (acc ++ ·)
theorem got_zero (L : List UInt8) : Got L 0 [] := ⟨rfl, by simp⟩
theorem drop_two (s : ByteArray) (k : Nat) (h : 2 * k + 1 < s.size) : s.data.toList.drop (2 * k) = s[2 * k] :: s[2 * k + 1] :: s.data.toList.drop (2 * (k + 1)) := by
  have hl : s.data.toList.length = s.size := by rw [Array.length_toList]; rfl
  rw [List.drop_eq_getElem_cons (by omega), List.drop_eq_getElem_cons (i := 2 * k + 1) (by omega)]
  rfl
theorem got_bad {s : ByteArray} {k : Nat} {acc : List UInt8} (g : Got s.data.toList k acc) (h : 2 * k + 1 < s.size) (hb : dv (s[2 * k]) < 0 ∨ dv (s[2 * k + 1]) < 0) : hexRd s.data.toList = none := by
  rw [g.2, drop_two s k h, hexRd, if_pos hb]
  rfl
theorem got_more {s : ByteArray} {k : Nat} {acc : List UInt8} (g : Got s.data.toList k acc) (h : 2 * k + 1 < s.size) (ha : 0 ≤ dv (s[2 * k])) (hb : 0 ≤ dv (s[2 * k + 1])) :
    Got s.data.toList (k + 1) (acc ++ [UInt8.ofNat (16 * dv (s[2 * k]) + dv (s[2 * k + 1])).toNat]) := by
  refine ⟨by simp [g.1], ?_⟩
  rw [g.2, drop_two s k h, hexRd, if_neg (by omega)]
  cases hexRd (s.data.toList.drop (2 * (k + 1))) <;> simp
theorem got_end {s : ByteArray} {k : Nat} {acc : List UInt8} (g : Got s.data.toList k acc) (h : s.size = 2 * k) : hexRd s.data.toList = some acc := by
  have hl : s.data.toList.length = s.size := by rw [Array.length_toList]; rfl
  rw [g.2, List.drop_of_length_le (by omega), hexRd]
  simp
theorem got_odd {s : ByteArray} {k : Nat} {acc : List UInt8} (g : Got s.data.toList k acc) (h : s.size = 2 * k + 1) : hexRd s.data.toList = none := by
  have hl : s.data.toList.length = s.size := by rw [Array.length_toList]; rfl
  rw [g.2, List.drop_eq_getElem_cons (by omega), List.drop_of_length_le (by omega), hexRd]
  rfl
theorem rd_even : ∀ (n : Nat) (L : List UInt8), L.length ≤ n → L.length % 2 = 1 → hexRd L = none := by
  intro n
  induction n with
  | zero => intro L h h1; omega
  | succ n ih =>
    intro L h h1
    match L, h, h1 with
    | [x], _, _ => rfl
    | a :: b :: r, h, h1 =>
      rw [hexRd]
      split
      · rfl
      · rw [ih r (by simp at h; omega) (by simp at h1; omega)]
        rfl

theorem spec_big (s : ByteArray) (w : World) (h : 20000 < s.size) (hs : s.size ≤ 1048576) :
    Calls Try.prog 8 #[.string s] w fun e w' => e = .returned (.agg #[.string ⟨#[]⟩, .int .i64 0, .int .i64 2]) ∧ Below w.heap.size w w' := by
  go_enter Try.func8, Try.ntmps8
  go_wp2
  exact bodyPost_ret (v := .agg #[.string ⟨#[]⟩, .int .i64 0, .int .i64 2]) (by simp [results, Try.results8, go_sem]) rfl ⟨rfl, (Below.refl _ _).alloc (Nat.le_refl _) _⟩

set_option maxRecDepth 100000 in
set_option maxHeartbeats 400000 in
theorem spec_any (s : ByteArray) (w : World) (hs : s.size ≤ 20000) :
    Calls Try.prog 8 #[.string s] w fun e w' => e = .returned (out (hexRd s.data.toList)) ∧ Below w.heap.size w w' := by
  obtain ⟨i0, hi, hz0, hz1, hz2⟩ := info_parts info5
  go_enter Try.func8, Try.ntmps8
  go_wp2
  go_loopw [3, 4] (fun v i wr => ∃ (k : Nat) (acc : List UInt8), 2 * k ≤ s.size ∧ i = .int .i64 (2 * (k : Int)) ∧ Hid (Got s.data.toList k acc) ∧ acc.length ≤ 20000 ∧ wr.ownsRow (w.heap.size + 1) 5 1 v acc.length (acc.map byteV) ∧ Below (w.heap.size + 1) (w.alloc (.cells #[.string ⟨#[]⟩, .int .i64 0, .int .i64 0] 26)) wr)
    (fun _ i _ => s.size - (intOf i).toNat)
  case atStart => exact ⟨0, [], Nat.zero_le _, rfl, mkHid (got_zero _), by simp, by simpa using World.ownsRow_made (w.alloc (.cells #[.string ⟨#[]⟩, .int .i64 0, .int .i64 0] 26)) #[] 0 (by simp) (by decide) rfl, (Below.refl _ _).alloc (by simp) _⟩
  case round =>
    obtain ⟨k, acc, hk, rfl, hgot, hlen, hown, hbel⟩ := hrel
    have hz := hbel.size
    simp only [World.size_alloc] at hz
    have hc0 : wr.cell? ⟨w.heap.size, 0, none⟩ = some (.string ⟨#[]⟩) := (hbel.cell (by simp)).trans (by simp)
    have hc1 : wr.cell? ⟨w.heap.size, 1, none⟩ = some (.int .i64 0) := (hbel.cell (by simp)).trans (by simp)
    have hc2 : wr.cell? ⟨w.heap.size, 2, none⟩ = some (.int .i64 0) := (hbel.cell (by simp)).trans (by simp)
    have hf : ∀ j, wr.frozen? ⟨w.heap.size, j, none⟩ = false := fun j => (hbel.frozen (by simp)).trans (by simp)
    have hB : Hid (Below w.heap.size w wr) := mkHid (((Below.refl _ _).alloc (Nat.le_refl _) _).trans (hbel.mono (by omega)))
    by_cases hlt : 2 * k + 1 < s.size
    · have b1 := dv_bd s[2 * k]
      have b2 := dv_bd s[2 * k + 1]
      by_cases ha : dv s[2 * k] < 0
      · have HR : Hid (hexRd s.data.toList = none) := mkHid (got_bad hgot.out hlt (.inl ha))
        go_wp2_with ((go_at_call 17; refine (digit_any _ _).mono ?_; rintro e w' ⟨rfl, rfl⟩))
        exact bodyPost_ret (v := .agg #[.string ⟨#[]⟩, .int .i64 0, .int .i64 3]) (by simp [results, Try.results8, go_sem, hc0, hc1, hc2]) rfl ⟨by rw [HR.out]; rfl, by repeat (first | exact hB.out | refine Below.setCell ?_ (by simp) _)⟩
      · by_cases hb : dv s[2 * k + 1] < 0
        · have HR : Hid (hexRd s.data.toList = none) := mkHid (got_bad hgot.out hlt (.inr hb))
          go_wp2_with ((go_at_call 17; refine (digit_any _ _).mono ?_; rintro e w' ⟨rfl, rfl⟩))
          exact bodyPost_ret (v := .agg #[.string ⟨#[]⟩, .int .i64 0, .int .i64 3]) (by simp [results, Try.results8, go_sem, hc0, hc1, hc2]) rfl ⟨by rw [HR.out]; rfl, by repeat (first | exact hB.out | refine Below.setCell ?_ (by simp) _)⟩
        · have HR := mkHid (got_more hgot.out hlt (by omega) (by omega))
          go_wp2_with (first | (go_at_call 17; refine (digit_any _ _).mono ?_; rintro e w' ⟨rfl, rfl⟩) | (at_builtin; refine wpList_append_own _ rfl _ _ 22 rfl (w.heap.size + 1) 5 i0 (.int .u8 0) 1 1 Try.underlying22 hi hz0 hz1 hz2 rfl (by decide) _ _ _ rfl (hown.alloc _) ⟨wr.heap.size, 0, none⟩ 1 1 [.int .u8 (16 * dv s[2 * k] + dv s[2 * k + 1])] rfl rfl ?c1 ?c2 ?c3 ?c4 ?c5 ?_))
          case c1 =>
            intro j u hj
            match j, hj with
            | 0, hj => simp at hj; subst hj; simp [Addr.add]
          case c2 => intro u hu; simp at hu; subst hu; rfl
          case c3 => unfold maxLen; omega
          case c4 => omega
          case c5 => simp; omega
          · intro v' w1 hown' hgrow _
            have r1 := row_more (UInt8.ofNat (16 * dv s[2 * k] + dv s[2 * k + 1]).toNat) (by rw [toNat_ofNat (by omega)]; omega) hown'
            have r2 := below_grown (hbel.alloc (by omega) _) (by simp; omega) hown hgrow
            clear hown' hgrow hown hbel hc0 hc1 hc2 hf hB
            have hl := HR.out.1
            simp only [List.length_append, List.length_cons, List.length_nil] at hl
            have HL := mkHid hl
            clear hl
            go_wp2
            go_roundw
            case rel => exact ⟨k + 1, _, by omega, by go_num, HR, by have := HL.out; simp; omega, r1, r2⟩
            case measure => simp [intOf]; omega
    · by_cases ho : s.size = 2 * k
      · have HR : Hid (hexRd s.data.toList = some acc) := mkHid (got_end hgot.out ho)
        have m1 : ((s.size : Int) % 2 == 1) = false := by simp; omega
        obtain ⟨a, n, cap, hv, hconv⟩ := owns_string_any Try.underlying22 Try.underlying5 Try.underlying9 hown
        have HO := mkHid ho
        clear hown hgot hbel ho
        subst hv
        go_wp2
        exact bodyPost_ret (v := .agg #[.string ⟨acc.toArray⟩, .int .i64 0, .int .i64 0]) (by simp [results, Try.results8, go_sem, hc0, hc1, hc2]) rfl ⟨by rw [HR.out]; rfl, by repeat (first | exact hB.out | refine Below.setCell ?_ (by simp) _)⟩
      · have HR : Hid (hexRd s.data.toList = none) := mkHid (got_odd hgot.out (by omega))
        have m1 : ((s.size : Int) % 2 == 1) = true := by simp; omega
        clear hown hgot hbel
        go_wp2
        exact bodyPost_ret (v := .agg #[.string ⟨#[]⟩, .int .i64 0, .int .i64 3]) (by simp [results, Try.results8, go_sem, hc0, hc1, hc2]) rfl ⟨by rw [HR.out]; rfl, by repeat (first | exact hB.out | refine Below.setCell ?_ (by simp) _)⟩

end Go.Proofs.Ytobojmdgdomgpaa.fnExactHexRead
