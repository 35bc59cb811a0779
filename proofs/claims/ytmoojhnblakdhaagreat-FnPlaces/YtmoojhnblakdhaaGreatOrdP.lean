/-
  The order of texts, in plain words: what a comparison tells, by bytes. No condition.
-/
import Derived.Test.YtmoojhnblakdhaaGreatBase
import Derived.Lib.Bytealg
namespace Go.Proofs.YtmoojhnblakdhaaGreat.ord
open Go.RowKit
set_option linter.unusedVariables false

/-- byte by byte -/
def blt (a b : ByteArray) : Bool := Op.bytesLess a.toList b.toList
/-- what strings.Compare tells -/
def cmpB (a b : ByteArray) : Int := Lib.compareBytes a.data.toList b.data.toList
theorem u8_lt {a b : UInt8} : a < b ↔ a.toNat < b.toNat := UInt8.lt_iff_toNat_lt
theorem cmp_neg : ∀ xs ys : List UInt8, Lib.compareBytes xs ys < 0 ↔ Op.bytesLess xs ys = true
  | [], [] => by simp [Lib.compareBytes, Op.bytesLess]
  | [], b :: ys => by simp [Lib.compareBytes, Op.bytesLess]
  | a :: xs, [] => by simp [Lib.compareBytes, Op.bytesLess]
  | a :: xs, b :: ys => by
    have ih := cmp_neg xs ys
    unfold Lib.compareBytes Op.bytesLess
    by_cases h1 : a < b
    · simp [h1]
    · by_cases h2 : b < a
      · have h3 : (a == b) = false := by
          have := u8_lt.1 h2
          simp
          intro e
          rw [e] at this
          omega
        simp [h1, h2, h3]
      · have h3 : a = b := by
          have g1 : ¬ a.toNat < b.toNat := fun h => h1 (u8_lt.2 h)
          have g2 : ¬ b.toNat < a.toNat := fun h => h2 (u8_lt.2 h)
          exact UInt8.toNat_inj.1 (by omega)
        subst h3
        simp [h1, ih]
theorem cmp_zero : ∀ xs ys : List UInt8, Lib.compareBytes xs ys = 0 ↔ xs = ys
  | [], [] => by simp [Lib.compareBytes]
  | [], b :: ys => by simp [Lib.compareBytes]
  | a :: xs, [] => by simp [Lib.compareBytes]
  | a :: xs, b :: ys => by
    have ih := cmp_zero xs ys
    unfold Lib.compareBytes
    by_cases h1 : a < b
    · have : ¬ a = b := fun e => by have := u8_lt.1 h1; rw [e] at this; omega
      simp [h1, this]
    · by_cases h2 : b < a
      · have : ¬ a = b := fun e => by have := u8_lt.1 h2; rw [e] at this; omega
        simp [h1, h2, this]
      · have h3 : a = b := by
          have g1 : ¬ a.toNat < b.toNat := fun h => h1 (u8_lt.2 h)
          have g2 : ¬ b.toNat < a.toNat := fun h => h2 (u8_lt.2 h)
          exact UInt8.toNat_inj.1 (by omega)
        subst h3
        simp [h1, ih]
theorem less_trans : ∀ xs ys zs : List UInt8, Op.bytesLess xs ys = true → Op.bytesLess ys zs = true → Op.bytesLess xs zs = true
  | xs, ys, [], h1, h2 => by simp [Op.bytesLess] at h2
  | [], ys, c :: zs, h1, h2 => by simp [Op.bytesLess]
  | a :: xs, [], c :: zs, h1, h2 => by simp [Op.bytesLess] at h1
  | a :: xs, b :: ys, c :: zs, h1, h2 => by
    have ih := less_trans xs ys zs
    simp only [Op.bytesLess, Bool.or_eq_true, Bool.and_eq_true, decide_eq_true_eq, beq_iff_eq] at *
    rcases h1 with h1 | ⟨rfl, h1⟩
    · rcases h2 with h2 | ⟨rfl, h2⟩
      · left
        have g1 := u8_lt.1 h1
        have g2 := u8_lt.1 h2
        exact u8_lt.2 (by omega)
      · exact .inl h1
    · rcases h2 with h2 | ⟨rfl, h2⟩
      · exact .inl h2
      · exact .inr ⟨rfl, ih h1 h2⟩
theorem less_irr : ∀ xs : List UInt8, Op.bytesLess xs xs = false
  | [] => rfl
  | a :: xs => by
    have ih := less_irr xs
    have h : ¬ a < a := fun h => by have := u8_lt.1 h; omega
    simp [Op.bytesLess, ih, h]
theorem blt_trans {a b c : ByteArray} (h1 : blt a b = true) (h2 : blt b c = true) : blt a c = true := less_trans _ _ _ h1 h2
theorem blt_irr (a : ByteArray) : blt a a = false := less_irr _
theorem toList_data (a : ByteArray) : a.toList = a.data.toList := ByteArray.toList_eq a
theorem cmpB_neg (a b : ByteArray) : cmpB a b < 0 ↔ blt a b = true := by
  unfold cmpB blt
  rw [toList_data, toList_data]
  exact cmp_neg _ _
theorem cmpB_zero (a b : ByteArray) : cmpB a b = 0 ↔ a = b := by
  unfold cmpB
  rw [cmp_zero]
  constructor
  · intro h
    exact ByteArray.ext (Array.toList_inj.1 h)
  · intro h
    rw [h]
theorem blt_ne {a b : ByteArray} (h : blt a b = true) : a ≠ b := by
  rintro rfl
  rw [blt_irr] at h
  cases h

/-- two rising lists of the same things are the same -/
theorem uniq {α : Type} {lt : α → α → Prop} (irr : ∀ x, ¬ lt x x) (asy : ∀ x y, lt x y → lt y x → False) : ∀ (a b : List α), a.Pairwise lt → b.Pairwise lt → (∀ x, x ∈ a ↔ x ∈ b) → a = b
  | [], [], _, _, _ => rfl
  | [], y :: b, _, _, h => by have := (h y).2 (by simp); simp at this
  | x :: a, [], _, _, h => by have := (h x).1 (by simp); simp at this
  | x :: a, y :: b, ha, hb, h => by
    rw [List.pairwise_cons] at ha hb
    have hxy : x = y := by
      rcases List.mem_cons.1 ((h x).1 (by simp)) with e | e
      · exact e
      · rcases List.mem_cons.1 ((h y).2 (by simp)) with e2 | e2
        · exact e2.symm
        · exact absurd (hb.1 x e) (fun q => asy _ _ (ha.1 y e2) q)
    subst hxy
    rw [uniq irr asy a b ha.2 hb.2 (fun z => ⟨fun hz => by
      rcases List.mem_cons.1 ((h z).1 (List.mem_cons_of_mem _ hz)) with e | e
      · subst e; exact absurd (ha.1 z hz) (irr z)
      · exact e, fun hz => by
      rcases List.mem_cons.1 ((h z).2 (List.mem_cons_of_mem _ hz)) with e | e
      · subst e; exact absurd (hb.1 z hz) (irr z)
      · exact e⟩)]
abbrev Bs : Type := List UInt8
theorem less_total : ∀ xs ys : List UInt8, Op.bytesLess xs ys = false → xs ≠ ys → Op.bytesLess ys xs = true
  | [], [], _, h => absurd rfl h
  | [], b :: y, h, _ => by simp [Op.bytesLess] at h
  | a :: x, [], _, _ => rfl
  | a :: x, b :: y, h, hne => by
    rw [Op.bytesLess, Bool.or_eq_false_iff] at h
    rw [Op.bytesLess, Bool.or_eq_true]
    have h1 : ¬ a < b := by simpa using h.1
    by_cases hab : a = b
    · subst hab
      have h2 : Op.bytesLess x y = false := by simpa using h.2
      refine .inr ?_
      rw [less_total x y h2 (fun e => hne (by rw [e]))]
      simp
    · refine .inl ?_
      have h3 : b < a := by
        rw [u8_lt] at h1 ⊢
        have h4 : a.toNat ≠ b.toNat := fun e => hab (UInt8.toNat_inj.1 e)
        omega
      simpa using h3
theorem blt_total {a b : ByteArray} (h : blt a b = false) (hne : a ≠ b) : blt b a = true :=
  less_total _ _ h (fun e => hne (by rw [toList_data, toList_data] at e; exact ByteArray.ext (Array.toList_inj.1 e)))
theorem blt_asy {a b : ByteArray} (h1 : blt a b = true) (h2 : blt b a = true) : False := by
  have h := blt_trans h1 h2
  rw [blt_irr] at h
  cases h
end Go.Proofs.YtmoojhnblakdhaaGreat.ord
