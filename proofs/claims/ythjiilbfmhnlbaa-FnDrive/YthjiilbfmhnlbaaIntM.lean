/-
  Rows of numbers, in the words of rows of cells: what laws.toInt64S, eqInt64S and markInt64S answer and leave. Condition: at most 1,048,576 numbers.
-/
import Derived.Test.YthjiilbfmhnlbaaInts
import Derived.Test.YthjiilbfmhnlbaaMem
namespace Go.Proofs.Ythjiilbfmhnlbaa.ints
open Go.RowKit Go.Joins
open Go.Proofs.Ythjiilbfmhnlbaa.base Go.Proofs.Ythjiilbfmhnlbaa.blk
open Go.Proofs.Ythjiilbfmhnlbaa.row (OwnV)
set_option linter.unusedVariables false

/-- numbers as cells -/
def ix (ks : List Int) : List Value := ks.map (fun z => .int .i64 z)
theorem ix_nil {ks : List Int} (h : ix ks = []) : ks = [] := by unfold ix at h; simpa using h
theorem ix_len (ks : List Int) : (ix ks).length = ks.length := by simp [ix]
theorem ix_set (ks : List Int) (i : Nat) (z : Int) : (ix ks).set i (.int .i64 z) = ix (ks.set i z) := by unfold ix; rw [List.map_set]
theorem rd_i {w : World} {a : Option Addr} {ks : List Int} (h : row.Rd w a (ix ks)) : Rd w a ks := by
  intro i z hz
  exact h i (.int .i64 z) (by unfold ix; simp [hz])
theorem toX_any (a : Option Addr) (cap : Nat) (ks : List Int) (w : World) (hl : ks.length ≤ 1048576) (hr : row.Rd w a (ix ks)) :
    Calls Try.prog 38 #[.slice a ks.length cap] w fun e w' => ∃ a' c', e = .returned (.slice a' ks.length c') ∧ OwnV 2 w' a' (ix ks) ∧ (∀ b o s, a' = some ⟨b, o, s⟩ → w.heap.size ≤ b) ∧ Below w.heap.size w w' :=
  (to_any a cap ks w hl (rd_i hr)).mono (fun e w' h => ⟨_, _, h.1, .inr ⟨_, rfl, [], by rw [List.append_nil]; exact h.2.1⟩, fun b o s e => by simp at e; omega, h.2.2⟩)
theorem eqX_same (a b : Option Addr) (ca cb : Nat) (ks : List Int) (w : World) (hl : ks.length ≤ 1048576) (ha : row.Rd w a (ix ks)) (hb : row.Rd w b (ix ks)) :
    Calls Try.prog 39 #[.slice a ks.length ca, .slice b ks.length cb] w fun e w' => e = .returned (.bool true) ∧ Below w.heap.size w w' :=
  (eq_any a b ca cb ks ks w hl hl (rd_i ha) (rd_i hb)).mono (fun e w' h => ⟨by rw [h.1]; simp, h.2⟩)
set_option maxRecDepth 100000 in
theorem markO_any (g cap : Nat) (zs : List Int) (m : Int) (w : World) (hl : zs.length ≤ 1048576) (hm : 0 ≤ m) (hm1 : m ≤ 1000000000) (hr : row.Own 2 w g (ix zs)) :
    Calls Try.prog 40 #[.slice (some ⟨g, 0, none⟩) zs.length cap, .int .i64 m] w fun e w' => e = .returned (.int .i64 (m + zs.length)) ∧ row.Own 2 w' g (ix (from_ m zs.length)) ∧ w.grownBy w' (some g) := by
  go_enter Try.func40, Try.ntmps40
  go_wp2
  go_loopw [1, 5] (fun c i wr => ∃ k : Nat, k ≤ zs.length ∧ i = .int .i64 k ∧ c = .int .i64 (m + k) ∧ Hid (row.Own 2 wr g (ix (marked m zs k)) ∧ w.grownBy wr (some g)))
    (fun _ i _ => zs.length - (intOf i).toNat)
  case atStart => exact ⟨0, Nat.zero_le _, rfl, by simp, mkHid ⟨by rw [marked_zero]; exact hr, grew_refl _ _⟩⟩
  case round =>
    obtain ⟨k, hk, rfl, rfl, hrow⟩ := hrel
    by_cases hlt : k < zs.length
    · obtain ⟨y, hy⟩ : ∃ y, (marked m zs k)[k]? = some y := ⟨_, List.getElem?_eq_getElem (by rw [marked_len m zs k hk]; exact hlt)⟩
      have hcell2 : wr.cell? ⟨g, k, none⟩ = some (.int .i64 y) := hrow.out.1.cell (by unfold ix; simp [hy])
      have hf : wr.frozen? ⟨g, k, none⟩ = false := hrow.out.1.free k
      have N1 : Hid (row.Own 2 (wr.setCell ⟨g, k, none⟩ (.int .i64 (m + k))) g (ix (marked m zs (k + 1))) ∧ w.grownBy (wr.setCell ⟨g, k, none⟩ (.int .i64 (m + k))) (some g)) := by
        refine mkHid ⟨?_, grew_set hrow.out.2⟩
        rw [← marked_next m zs k hlt, ← ix_set]
        exact hrow.out.1.set k (by rw [ix_len, marked_len m zs k hk]; exact hlt) _
      have hlti : (k : Int) < (zs.length : Int) := by omega
      have hki : (k : Int) ≤ 1048576 := by omega
      clear hrow hy hr
      go_wp2
      go_roundw
      case rel => exact ⟨k + 1, by omega, by go_num, by go_num, N1⟩
      case measure => simp [intOf]; omega
    · obtain rfl : k = zs.length := by omega
      have R := hrow.out
      rw [marked_all] at R
      have R' := mkHid R
      clear R hrow hr
      go_wp2
      go_ret
      exact ⟨rfl, R'.out.1, R'.out.2⟩
theorem markX_any (a : Option Addr) (cap : Nat) (ks : List Int) (m : Int) (w : World) (hl : ks.length ≤ 1048576) (hm : 0 ≤ m) (hm1 : m ≤ 1000000000) (hr : OwnV 2 w a (ix ks)) :
    Calls Try.prog 40 #[.slice a ks.length cap, .int .i64 m] w fun e w' => e = .returned (.int .i64 (m + ks.length)) ∧ OwnV 2 w' a (ix (from_ m ks.length)) ∧ ∃ r, w.grownBy w' r ∧ ∀ b, r = some b → ix ks ≠ [] ∧ ∃ o s, a = some ⟨b, o, s⟩ := by
  by_cases h0 : ks = []
  · subst h0
    refine (mark_nil cap a m w).mono ?_
    rintro e w1 ⟨rfl, rfl⟩
    exact ⟨by simp, .inl rfl, none, grew_refl _ _, fun b e => by cases e⟩
  · rcases hr with h | ⟨g, rfl, ho⟩
    · exact absurd (ix_nil h) h0
    · refine (markO_any g cap ks m w hl hm hm1 ho).mono ?_
      rintro e w1 ⟨rfl, h1, h2⟩
      exact ⟨rfl, .inr ⟨g, rfl, h1⟩, some g, h2, fun b e => by cases e; exact ⟨fun e => h0 (ix_nil e), 0, none, rfl⟩⟩
theorem from_ne {m : Int} {n : Nat} {ks : List Int} (hn : ks.length = n) (h : ix (from_ m n) ≠ []) : ix ks ≠ [] := by
  intro e
  have := ix_nil e
  subst this
  simp at hn
  subst hn
  exact h rfl
end Go.Proofs.Ythjiilbfmhnlbaa.ints
