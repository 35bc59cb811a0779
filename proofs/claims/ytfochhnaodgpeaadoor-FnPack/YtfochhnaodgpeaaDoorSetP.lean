/-
  How many keys a set holds that was filled from a list: as many as the list has, just if no two are alike. No condition.
-/
import Derived.Test.YtfochhnaodgpeaaDoorPackP
import Derived.Maps.OwnSet
namespace Go.Proofs.YtfochhnaodgpeaaDoor.pack
open Go.RowKit Go.Maps
set_option linter.unusedVariables false

def keyL (t : ByteArray) : Lit := .string t.data.toList
theorem keyL_inj {a b : ByteArray} (h : keyL a = keyL b) : a = b := by
  unfold keyL at h
  have h' : a.data.toList = b.data.toList := by injection h
  exact ByteArray.ext (Array.toList_inj.1 h')
theorem keyL_any (t : ByteArray) (L : List ByteArray) : ((L.map keyL).any (fun y => y.sameKey (keyL t)) = true) ↔ t ∈ L := by
  rw [List.any_eq_true]
  constructor
  · rintro ⟨y, hy, hs⟩
    obtain ⟨a, ha, rfl⟩ := List.mem_map.1 hy
    by_cases e : keyL a = keyL t
    · rw [← keyL_inj e]
      exact ha
    · rw [sameKey_ne e] at hs
      cases hs
  · intro h
    exact ⟨keyL t, List.mem_map_of_mem h, WideAt.sameKey_self trivial⟩
theorem add_one (L : List ByteArray) (t : ByteArray) : (t ∈ L → addKey (L.map keyL) (keyL t) = L.map keyL) ∧ (t ∉ L → addKey (L.map keyL) (keyL t) = (L ++ [t]).map keyL) := by
  constructor
  · intro h
    unfold addKey
    rw [if_pos ((keyL_any t L).2 h)]
  · intro h
    unfold addKey
    rw [if_neg (fun e => h ((keyL_any t L).1 e)), List.map_append]
    rfl
theorem add_le : ∀ (xs L : List ByteArray), ((xs.map keyL).foldl addKey (L.map keyL)).length ≤ L.length + xs.length
  | [], L => by simp
  | t :: r, L => by
    rw [List.map_cons, List.foldl_cons]
    by_cases h : t ∈ L
    · rw [(add_one L t).1 h]
      have := add_le r L
      simp only [List.length_cons]
      omega
    · rw [(add_one L t).2 h]
      have := add_le r (L ++ [t])
      simp only [List.length_append, List.length_cons, List.length_nil] at this ⊢
      omega
theorem add_eq : ∀ (xs L : List ByteArray), ((xs.map keyL).foldl addKey (L.map keyL)).length = L.length + xs.length ↔ (xs.Nodup ∧ ∀ x ∈ xs, x ∉ L)
  | [], L => by simp
  | t :: r, L => by
    rw [List.map_cons, List.foldl_cons]
    by_cases h : t ∈ L
    · rw [(add_one L t).1 h]
      have := add_le r L
      constructor
      · intro e
        simp only [List.length_cons] at e
        omega
      · intro e
        exact absurd h (e.2 t (List.mem_cons_self ..))
    · rw [(add_one L t).2 h]
      have ih := add_eq r (L ++ [t])
      have e1 : (L ++ [t]).length + r.length = L.length + (t :: r).length := by simp only [List.length_append, List.length_cons, List.length_nil]; omega
      rw [← e1, ih, List.nodup_cons]
      constructor
      · rintro ⟨h1, h2⟩
        refine ⟨⟨fun ht => h2 t ht (by simp), h1⟩, ?_⟩
        intro x hx
        rcases List.mem_cons.1 hx with rfl | hx
        · exact h
        · exact fun hL => h2 x hx (by simp [hL])
      · rintro ⟨⟨h1, h2⟩, h3⟩
        refine ⟨h2, fun x hx hm => ?_⟩
        rcases List.mem_append.1 hm with hm | hm
        · exact h3 x (List.mem_cons_of_mem _ hx) hm
        · simp at hm
          subst hm
          exact h1 hx
def setT {H : Type} (xs : List ByteArray) : DataW H := setOf (.agg []) (xs.map keyL)
theorem setT_nil {H : Type} : setT (H := H) [] = .map [] := rfl
theorem setT_snoc {H : Type} (xs : List ByteArray) (t : ByteArray) : setT (H := H) (xs ++ [t]) = (setT xs).put (keyL t) (.agg []) := by
  unfold setT
  rw [List.map_append]
  exact setOf_snoc _ _ _
theorem setT_size {H : Type} (xs : List ByteArray) : Maps.size (setT (H := H) xs) ≤ xs.length ∧ (Maps.size (setT (H := H) xs) = xs.length ↔ xs.Nodup) := by
  have h : Maps.size (setT (H := H) xs) = ((xs.map keyL).foldl addKey []).length := size_setOf _ _ (fun x hx => by obtain ⟨a, _, rfl⟩ := List.mem_map.1 hx; trivial)
  have h1 := add_le xs []
  have h2 := add_eq xs []
  simp only [List.map_nil, List.length_nil, Nat.zero_add] at h1 h2
  rw [h]
  exact ⟨h1, by rw [h2]; simp⟩
end Go.Proofs.YtfochhnaodgpeaaDoor.pack
