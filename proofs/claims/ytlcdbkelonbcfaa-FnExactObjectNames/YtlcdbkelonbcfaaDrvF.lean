/-
  Names in their order, in plain words: what a comparison tells, rising files, where a name stands. No condition.
-/
import Derived.Test.YtlcdbkelonbcfaaDrvP
import Derived.Lib.Bytealg
namespace Go.Proofs.Ytlcdbkelonbcfaa.drv
open Go.RowKit Go.Joins
open Go.Proofs.Ytlcdbkelonbcfaa.base Go.Proofs.Ytlcdbkelonbcfaa.blk Go.Proofs.Ytlcdbkelonbcfaa.aid
set_option linter.unusedVariables false

abbrev File := ByteArray × ByteArray × Int
theorem me_ne {n : Nat} {l : List File} (hn : l.length = n) (h : rwStored.cs (rwStored.me 1 n) ≠ []) : rwStored.cs l ≠ [] := by
  intro e
  have := rwStored.cs_zero e
  subst this
  simp at hn
  subst hn
  exact h rfl
/-- what strings.Compare tells -/
def cmpB (a b : ByteArray) : Int := Lib.compareBytes a.data.toList b.data.toList
theorem u8_lt {a b : UInt8} : a < b ↔ a.toNat < b.toNat := UInt8.lt_iff_toNat_lt
theorem cmp_neg : ∀ xs ys : List UInt8, Lib.compareBytes xs ys < 0 ↔ Op.bytesLess xs ys = true
  | [], [] => by simp [Lib.compareBytes, Op.bytesLess]
  | [], b :: ys => by simp [Lib.compareBytes, Op.bytesLess]
  | a :: xs, [] => by simp [Lib.compareBytes, Op.bytesLess]
  | a :: xs, b :: ys => by
    have ih := cmp_neg xs ys
    unfold Lib.compareBytes Op.bytesLess
    by_cases h1 : a < b
    · simp [h1]
    · by_cases h2 : b < a
      · have h3 : (a == b) = false := by
          have := u8_lt.1 h2
          simp
          intro e
          rw [e] at this
          omega
        simp [h1, h2, h3]
      · have h3 : a = b := by
          have g1 : ¬ a.toNat < b.toNat := fun h => h1 (u8_lt.2 h)
          have g2 : ¬ b.toNat < a.toNat := fun h => h2 (u8_lt.2 h)
          exact UInt8.toNat_inj.1 (by omega)
        subst h3
        simp [h1, ih]
theorem cmp_zero : ∀ xs ys : List UInt8, Lib.compareBytes xs ys = 0 ↔ xs = ys
  | [], [] => by simp [Lib.compareBytes]
  | [], b :: ys => by simp [Lib.compareBytes]
  | a :: xs, [] => by simp [Lib.compareBytes]
  | a :: xs, b :: ys => by
    have ih := cmp_zero xs ys
    unfold Lib.compareBytes
    by_cases h1 : a < b
    · have : ¬ a = b := fun e => by have := u8_lt.1 h1; rw [e] at this; omega
      simp [h1, this]
    · by_cases h2 : b < a
      · have : ¬ a = b := fun e => by have := u8_lt.1 h2; rw [e] at this; omega
        simp [h1, h2, this]
      · have h3 : a = b := by
          have g1 : ¬ a.toNat < b.toNat := fun h => h1 (u8_lt.2 h)
          have g2 : ¬ b.toNat < a.toNat := fun h => h2 (u8_lt.2 h)
          exact UInt8.toNat_inj.1 (by omega)
        subst h3
        simp [h1, ih]
theorem less_trans : ∀ xs ys zs : List UInt8, Op.bytesLess xs ys = true → Op.bytesLess ys zs = true → Op.bytesLess xs zs = true
  | xs, ys, [], h1, h2 => by simp [Op.bytesLess] at h2
  | [], ys, c :: zs, h1, h2 => by simp [Op.bytesLess]
  | a :: xs, [], c :: zs, h1, h2 => by simp [Op.bytesLess] at h1
  | a :: xs, b :: ys, c :: zs, h1, h2 => by
    have ih := less_trans xs ys zs
    simp only [Op.bytesLess, Bool.or_eq_true, Bool.and_eq_true, decide_eq_true_eq, beq_iff_eq] at *
    rcases h1 with h1 | ⟨rfl, h1⟩
    · rcases h2 with h2 | ⟨rfl, h2⟩
      · left
        have g1 := u8_lt.1 h1
        have g2 := u8_lt.1 h2
        exact u8_lt.2 (by omega)
      · exact .inl h1
    · rcases h2 with h2 | ⟨rfl, h2⟩
      · exact .inl h2
      · exact .inr ⟨rfl, ih h1 h2⟩
theorem less_irr : ∀ xs : List UInt8, Op.bytesLess xs xs = false
  | [] => rfl
  | a :: xs => by
    have ih := less_irr xs
    have h : ¬ a < a := fun h => by have := u8_lt.1 h; omega
    simp [Op.bytesLess, ih, h]
theorem blt_trans {a b c : ByteArray} (h1 : blt a b = true) (h2 : blt b c = true) : blt a c = true := less_trans _ _ _ h1 h2
theorem blt_irr (a : ByteArray) : blt a a = false := less_irr _
theorem toList_data (a : ByteArray) : a.toList = a.data.toList := ByteArray.toList_eq a
theorem cmpB_neg (a b : ByteArray) : cmpB a b < 0 ↔ blt a b = true := by
  unfold cmpB blt
  rw [toList_data, toList_data]
  exact cmp_neg _ _
theorem cmpB_zero (a b : ByteArray) : cmpB a b = 0 ↔ a = b := by
  unfold cmpB
  rw [cmp_zero]
  constructor
  · intro h
    exact ByteArray.ext (Array.toList_inj.1 h)
  · intro h
    rw [h]
theorem blt_ne {a b : ByteArray} (h : blt a b = true) : a ≠ b := by
  rintro rfl
  rw [blt_irr] at h
  cases h

/-- rising by their names -/
def Rising (l : List File) : Prop := l.Pairwise (fun f g => blt f.1 g.1 = true)
theorem filesB_rising : ∀ (p : Option File) (l : List File), filesB p l = true → Rising l ∧ ∀ q, p = some q → ∀ f ∈ l, blt q.1 f.1 = true
  | p, [], h => ⟨.nil, by simp⟩
  | p, f :: r, h => by
    rw [filesB, Bool.and_eq_true] at h
    obtain ⟨h1, h2⟩ := filesB_rising (some f) r h.2
    have h3 := h2 f rfl
    refine ⟨List.pairwise_cons.2 ⟨h3, h1⟩, ?_⟩
    intro q e g hg
    subst e
    have hf := h.1
    unfold fileB at hf
    simp only [Bool.and_eq_true] at hf
    have hb : blt q.1 f.1 = true := hf.1.1.1.2
    rcases List.mem_cons.1 hg with rfl | hg
    · exact hb
    · exact blt_trans hb (h3 g hg)
theorem drive_rising {l : List File} {r : Int} (h : driveB l r = true) : Rising l := (filesB_rising none l (driveB_parts h).2.2.2.1).1
theorem rising_at {l : List File} (h : Rising l) {i j : Nat} {f g : File} (hij : i < j) (hf : l[i]? = some f) (hg : l[j]? = some g) : blt f.1 g.1 = true := by
  obtain ⟨hi, rfl⟩ := List.getElem?_eq_some_iff.1 hf
  obtain ⟨hj, rfl⟩ := List.getElem?_eq_some_iff.1 hg
  exact List.pairwise_iff_getElem.1 h i j hi hj hij
/-- the place where the names stop to be less -/
theorem spot_is (n : ByteArray) : ∀ (l : List File) (i k : Nat), k ≤ l.length → (∀ t f, t < k → l[t]? = some f → blt f.1 n = true) → (∀ f, l[k]? = some f → blt f.1 n = false) → spot n l i = i + k
  | [], i, k, hk, h1, h2 => by simp at hk; subst hk; rfl
  | f :: r, i, 0, hk, h1, h2 => by
    have := h2 f rfl
    unfold spot
    rw [this]
    simp
  | f :: r, i, k + 1, hk, h1, h2 => by
    have h0 := h1 0 f (by omega) rfl
    unfold spot
    rw [if_pos h0, spot_is n r (i + 1) k (by simpa using hk) (fun t g ht hg => h1 (t + 1) g (by omega) (by simpa using hg)) (fun g hg => h2 g (by simpa using hg))]
    omega
/-- there is a file of that name -/
def there (l : List File) (n : ByteArray) : Bool := (l[spot n l 0]?).any (fun g => decide (g.1 = n))
theorem spot_less (n : ByteArray) : ∀ (l : List File) (i : Nat), ∀ t f, i + t < spot n l i → l[t]? = some f → blt f.1 n = true
  | [], i, t, f, h, hf => by simp at hf
  | g :: r, i, t, f, h, hf => by
    unfold spot at h
    split at h
    · rename_i hb
      cases t with
      | zero => simp at hf; subst hf; exact hb
      | succ t => exact spot_less n r (i + 1) t f (by omega) (by simpa using hf)
    · omega
theorem spot_not (n : ByteArray) : ∀ (l : List File) (i : Nat) (f : File), l[spot n l i - i]? = some f → blt f.1 n = false
  | [], i, f, hf => by simp at hf
  | g :: r, i, f, hf => by
    unfold spot at hf
    split at hf
    · rename_i hb
      have hbd := (spot_bd n r (i + 1)).1
      have e : spot n r (i + 1) - i = (spot n r (i + 1) - (i + 1)) + 1 := by omega
      rw [e] at hf
      exact spot_not n r (i + 1) f (by simpa using hf)
    · rename_i hb
      simp at hf
      subst hf
      simpa using hb
theorem spot_le (n : ByteArray) (l : List File) : spot n l 0 ≤ l.length := by have := (spot_bd n l 0).2; omega
/-- what is found, by where it would stand -/
theorem find_spot {l : List File} (h : Rising l) (n : ByteArray) : find l n = if there l n = true then (spot n l 0 : Int) else -1 := by
  by_cases ht : there l n = true
  · rw [if_pos ht]
    unfold there at ht
    obtain ⟨g, hg, he⟩ : ∃ g, l[spot n l 0]? = some g ∧ g.1 = n := by
      cases hq : l[spot n l 0]? with
      | none => rw [hq] at ht; simp at ht
      | some g => rw [hq] at ht; exact ⟨g, rfl, by simpa using ht⟩
    rcases find_bd l n with h1 | ⟨k, h1, h2, f, h3, h4⟩
    · exfalso
      -- it is there
      have : ∀ (r : List File) (i : Nat), findF n r i = -1 → ∀ f ∈ r, f.1 ≠ n := by
        intro r
        induction r with
        | nil => intro i _ f hf; simp at hf
        | cons x r ih =>
          intro i hi f hf
          unfold findF at hi
          split at hi
          · omega
          · rename_i hx
            rcases List.mem_cons.1 hf with rfl | hf
            · exact hx
            · exact ih (i + 1) hi f hf
      exact this l 0 h1 g (List.mem_of_getElem? hg) he
    · rw [h1]
      have : k = spot n l 0 := by
        rcases Nat.lt_trichotomy k (spot n l 0) with hk | hk | hk
        · have := spot_less n l 0 k f (by omega) h3
          exact absurd h4 (blt_ne this)
        · exact hk
        · have := rising_at h hk hg h3
          rw [he, h4] at this
          exact absurd rfl (blt_ne this)
      rw [this]
  · rw [if_neg ht]
    rcases find_bd l n with h1 | ⟨k, h1, h2, f, h3, h4⟩
    · exact h1
    · exfalso
      apply ht
      have hk : k = spot n l 0 := by
        rcases Nat.lt_trichotomy k (spot n l 0) with hk | hk | hk
        · have := spot_less n l 0 k f (by omega) h3
          exact absurd h4 (blt_ne this)
        · exact hk
        · obtain ⟨g, hg⟩ : ∃ g, l[spot n l 0]? = some g := ⟨_, List.getElem?_eq_getElem (by omega)⟩
          have h5 := rising_at h hk hg h3
          rw [h4] at h5
          have h6 := spot_not n l 0 g (by simpa using hg)
          rw [h5] at h6
          cases h6
      unfold there
      rw [← hk, h3]
      simp [h4]
end Go.Proofs.Ytlcdbkelonbcfaa.drv
