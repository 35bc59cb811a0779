/-
  What spec.l08Crash, spec.DriveCrash and impl.DriveCrash answer and leave. Conditions: at most 1,048,576 files and numbers, which lie in memory, of texts of at most 1,048,576 bytes.
-/
import Derived.Test.YtlcdbkelonbcfaaDrvT
import Derived.Test.YtlcdbkelonbcfaaDrvL
import Derived.Test.YtlcdbkelonbcfaaIntM
namespace Go.Proofs.Ytlcdbkelonbcfaa.drv
open Go.RowKit Go.Joins Go.Sort
open Go.Proofs.Ytlcdbkelonbcfaa.base Go.Proofs.Ytlcdbkelonbcfaa.blk Go.Proofs.Ytlcdbkelonbcfaa.aid
open Go.Proofs.Ytlcdbkelonbcfaa.row (Rd Own OwnV)
open Go.Proofs.Ytlcdbkelonbcfaa.rwStored (cs)
open Go.Proofs.Ytlcdbkelonbcfaa.ints (ix)
set_option linter.unusedVariables false

theorem ix_at {w : World} {a : Option Addr} {ks : List Int} (h : Rd w a (ix ks)) {i : Nat} {z : Int} (hz : ks[i]? = some z) : ∃ b off, a = some ⟨b, off, none⟩ ∧ w.cell? ⟨b, off + i, none⟩ = some (.int .i64 z) :=
  h i (.int .i64 z) (by unfold ix; simp [hz])
/-- what keep says at a place -/
def kk (ks : List Int) (i : Nat) : Int := (ks[i]?).getD 0
theorem keepL_len : ∀ (l : List File) (ks : List Int), (keepL l ks).length = l.length
  | [], ks => by simp [keepL]
  | f :: r, [] => by simp [keepL, keepL_len r []]
  | f :: r, k :: ks => by simp [keepL, keepL_len r ks]
theorem keepL_at : ∀ (l : List File) (ks : List Int) (i : Nat) (f : File), l[i]? = some f → (keepL l ks)[i]? = some (keepF f (kk ks i))
  | [], ks, i, f, h => by simp at h
  | g :: r, [], 0, f, h => by simp at h; subst h; rfl
  | g :: r, k :: ks, 0, f, h => by simp at h; subst h; rfl
  | g :: r, [], i + 1, f, h => by
    have := keepL_at r [] i f (by simpa using h)
    simpa [keepL, kk] using this
  | g :: r, k :: ks, i + 1, f, h => by
    have := keepL_at r ks i f (by simpa using h)
    simpa [keepL, kk] using this
/-- the first k files are as they stay -/
def tornL (l : List File) (ks : List Int) (k : Nat) : List File := (keepL l ks).take k ++ l.drop k
theorem tornL_zero (l : List File) (ks : List Int) : tornL l ks 0 = l := by simp [tornL]
theorem tornL_all (l : List File) (ks : List Int) : tornL l ks l.length = keepL l ks := by
  unfold tornL
  rw [List.take_of_length_le (by rw [keepL_len]; exact Nat.le_refl _)]
  simp
theorem tornL_len (l : List File) (ks : List Int) (k : Nat) (h : k ≤ l.length) : (tornL l ks k).length = l.length := by simp [tornL, keepL_len]; omega
theorem tornL_at (l : List File) (ks : List Int) (k : Nat) (h : k < l.length) : (tornL l ks k)[k]? = l[k]? := by
  unfold tornL
  rw [List.getElem?_append_right (by simp [keepL_len]; omega)]
  simp [keepL_len]
  congr 1
  omega
theorem tornL_next (l : List File) (ks : List Int) (k : Nat) (f : File) (h : l[k]? = some f) : (tornL l ks k).set k (keepF f (kk ks k)) = tornL l ks (k + 1) := by
  have hk : k < l.length := (List.getElem?_eq_some_iff.1 h).1
  unfold tornL
  have e2 : ((keepL l ks).take k).length = k := by simp [keepL_len]; omega
  rw [List.set_append_right _ _ (by rw [e2]; exact Nat.le_refl _), e2, Nat.sub_self, List.drop_eq_getElem_cons hk, List.set_cons_zero, List.take_add_one, keepL_at l ks k f h]
  simp
/-- one file of a row of our own is written -/
theorem set3 {w : World} {g k : Nat} {l : List File} {x0 x1 : ByteArray} {x2 : Int} (h : Own 94 w g (cs l)) (hk : k < l.length) :
    Own 94 (((w.setCell ⟨g, k * 3, none⟩ (.string x0)).setCell ⟨g, k * 3 + 1, none⟩ (.string x1)).setCell ⟨g, k * 3 + 2, none⟩ (.int .i64 x2)) g (cs (l.set k (x0, x1, x2))) := by
  have hl : (cs l).length = 3 * l.length := rwStored.cs_len l
  have h3 := (((h.set (k * 3) (by omega) (.string x0)).set (k * 3 + 1) (by simp; omega) (.string x1)).set (k * 3 + 2) (by simp; omega) (.int .i64 x2))
  rw [rwStored.cs_set _ _ _ _ _ hk] at h3
  exact h3
theorem grew3 (w : World) (g i j k : Nat) (x y z : Value) : w.grownBy (((w.setCell ⟨g, i, none⟩ x).setCell ⟨g, j, none⟩ y).setCell ⟨g, k, none⟩ z) (some g) :=
  grew_grew (grew_grew (grew_cell w g i x) (grew_cell _ g j y)) (grew_cell _ g k z)
theorem own_some {w : World} {a : Option Addr} {l : List File} (h : OwnV 94 w a (cs l)) (hl : 0 < l.length) : ∃ g, a = some ⟨g, 0, none⟩ ∧ Own 94 w g (cs l) := by
  rcases h with h | h
  · have := rwStored.cs_zero h
    subst this
    simp at hl
  · exact h

theorem own_cap {w : World} {base e size n c : Nat} {a : Option Addr} {xs : List Value} (h : w.ownsRow base e size (.slice a n c) n xs) : n ≤ c := by
  obtain ⟨_, h2⟩ := h
  rcases h2 with ⟨e, h0⟩ | ⟨g', cap', cur, e, _, _, h3, _⟩
  · omega
  · simp at e
    omega
end Go.Proofs.Ytlcdbkelonbcfaa.drv
