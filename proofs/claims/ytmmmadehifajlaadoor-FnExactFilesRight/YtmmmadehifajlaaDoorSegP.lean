/-
  What stands between slashes, in plain words; the library's cutting at a slash, at most so often, gives these, if they are few enough. No condition.
-/
import Derived.Lib.Split
import Derived.Lib.Strings
namespace Go.Proofs.YtmmmadehifajlaaDoor.seg
open Go.Lib
set_option linter.unusedVariables false

/-- what stands between slashes -/
def segs : List UInt8 → List (List UInt8)
  | [] => [[]]
  | c :: r => if c = 47 then [] :: segs r else match segs r with
    | [] => [[c]]
    | h :: t => (c :: h) :: t
theorem segs_ne (l : List UInt8) : segs l ≠ [] := by
  cases l with
  | nil => simp [segs]
  | cons c r =>
    unfold segs
    split
    · simp
    · split <;> simp
theorem segs_len (l : List UInt8) : 1 ≤ (segs l).length := by
  have := segs_ne l
  cases h : segs l with
  | nil => exact absurd h this
  | cons a b => simp
theorem segs_none : ∀ (a : List UInt8), 47 ∉ a → segs a = [a]
  | [], _ => rfl
  | c :: r, h => by
    have h1 : ¬ c = 47 := fun e => h (by simp [e])
    have h2 : 47 ∉ r := fun e => h (List.mem_cons_of_mem _ e)
    rw [segs, if_neg h1, segs_none r h2]
theorem segs_cut : ∀ (a b : List UInt8), 47 ∉ a → segs (a ++ 47 :: b) = a :: segs b
  | [], b, _ => by simp [segs]
  | c :: r, b, h => by
    have h1 : ¬ c = 47 := fun e => h (by simp [e])
    have h2 : 47 ∉ r := fun e => h (List.mem_cons_of_mem _ e)
    rw [List.cons_append, segs, if_neg h1, segs_cut r b h2]
theorem index_slash : ∀ (l : List UInt8), (47 ∉ l ∧ index l [47] = -1) ∨ ∃ a b, l = a ++ 47 :: b ∧ 47 ∉ a ∧ index l [47] = a.length
  | [] => .inl ⟨by simp, rfl⟩
  | c :: r => by
    by_cases h : c = 47
    · subst h
      exact .inr ⟨[], r, rfl, by simp, by simp [index]⟩
    · have hp : ([47] : List UInt8).isPrefixOf (c :: r) = false := by
        simp [List.isPrefixOf]
        exact fun e => h e.symm
      rcases index_slash r with ⟨h1, h2⟩ | ⟨a, b, h1, h2, h3⟩
      · refine .inl ⟨?_, ?_⟩
        · intro e
          rcases List.mem_cons.1 e with e | e
          · exact h e.symm
          · exact h1 e
        · simp [index, hp, h2]
      · refine .inr ⟨c :: a, b, by rw [h1]; rfl, ?_, ?_⟩
        · intro e
          rcases List.mem_cons.1 e with e | e
          · exact h e.symm
          · exact h2 e
        · have hne : (index r [47] == -1) = false := by rw [h3]; simp
          rw [index, hp]
          simp only [Bool.false_eq_true, if_false, hne]
          rw [h3]
          simp
theorem splitK_segs : ∀ (k : Nat) (l : List UInt8), ((segs l).length ≤ k + 1 → splitK [47] 0 k l = segs l) ∧ (k + 1 < (segs l).length → (splitK [47] 0 k l).length = k + 1)
  | 0, l => by
    refine ⟨fun h => ?_, fun _ => rfl⟩
    rcases index_slash l with ⟨h1, _⟩ | ⟨a, b, h1, h2, _⟩
    · rw [segs_none l h1]
      rfl
    · rw [h1, segs_cut a b h2] at h
      have := segs_len b
      rw [List.length_cons] at h
      omega
  | k + 1, l => by
    rcases index_slash l with ⟨h1, h2⟩ | ⟨a, b, h1, h2, h3⟩
    · have e : splitK [47] 0 (k + 1) l = [l] := by unfold splitK; rw [h2]; rfl
      rw [e, segs_none l h1]
      exact ⟨fun _ => rfl, fun h => by simp at h⟩
    · have hne : (index l [47] == -1) = false := by rw [h3]; simp
      have e : splitK [47] 0 (k + 1) l = a :: splitK [47] 0 k b := by
        rw [splitK, hne]
        simp only [Bool.false_eq_true, if_false]
        rw [h3, h1]
        have e1 : ((a.length : Int)).toNat = a.length := by omega
        rw [e1]
        have e2 : a ++ 47 :: b = (a ++ [47]) ++ b := by simp
        congr 1
        · simp
        · congr 1
          rw [e2]
          have e3 : a.length + ([47] : List UInt8).length = (a ++ [47]).length := by simp
          rw [e3, List.drop_left]
      obtain ⟨q1, q2⟩ := splitK_segs k b
      rw [e, h1, segs_cut a b h2]
      simp only [List.length_cons]
      exact ⟨fun h => by rw [q1 (by omega)], fun h => by rw [q2 (by omega)]⟩
/-- a piece of a text ends where a slash stands -/
theorem segs_at (l : List UInt8) (f i : Nat) (hf : f ≤ i) (hi : l[i]? = some 47) (hn : 47 ∉ (l.drop f).take (i - f)) : segs (l.drop f) = ((l.drop f).take (i - f)) :: segs (l.drop (i + 1)) := by
  have hlt := (List.getElem?_eq_some_iff.1 hi).1
  have e : l.drop f = (l.drop f).take (i - f) ++ 47 :: l.drop (i + 1) := by
    have e1 : l.drop f = (l.drop f).take (i - f) ++ (l.drop f).drop (i - f) := (List.take_append_drop _ _).symm
    have e2 : (l.drop f).drop (i - f) = l.drop i := by rw [List.drop_drop]; congr 1; omega
    have e3 : l.drop i = 47 :: l.drop (i + 1) := by rw [List.drop_eq_getElem_cons hlt, (List.getElem?_eq_some_iff.1 hi).2]
    rw [e2, e3] at e1
    exact e1
  have h := segs_cut _ (l.drop (i + 1)) hn
  rw [← e] at h
  exact h
/-- a piece goes on where none stands -/
theorem seg_on (l : List UInt8) (f i : Nat) (c : UInt8) (hf : f ≤ i) (hi : l[i]? = some c) (hc : c ≠ 47) (hn : 47 ∉ (l.drop f).take (i - f)) : 47 ∉ (l.drop f).take (i + 1 - f) := by
  have e : i + 1 - f = (i - f) + 1 := by omega
  have e2 : (l.drop f)[i - f]? = some c := by rw [List.getElem?_drop]; rw [show f + (i - f) = i by omega]; exact hi
  rw [e, List.take_add_one, e2]
  simp
  exact ⟨hn, fun e => hc e.symm⟩
end Go.Proofs.YtmmmadehifajlaaDoor.seg
