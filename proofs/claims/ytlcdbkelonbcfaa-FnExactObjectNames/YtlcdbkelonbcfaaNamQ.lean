/-
  slices.Sort and slices.Compact of a row of texts of our own, in words of what it owns. Condition: at most 1,048,576 texts.
-/
import Derived.Test.YtlcdbkelonbcfaaNamC
import Derived.Test.YtlcdbkelonbcfaaSlLay
import Derived.Shelf.Slices.In.SortNone
import Derived.Sort.OwnSorted
import Derived.Sort.Grow
import Derived.Lib.OwnBridge
namespace Go.Proofs.Ytlcdbkelonbcfaa.nms
open Go.RowKit Go.Joins Go.Sort
open Go.Proofs.Ytlcdbkelonbcfaa.base Go.Proofs.Ytlcdbkelonbcfaa.blk Go.Proofs.Ytlcdbkelonbcfaa.aid
open Go.Proofs.Ytlcdbkelonbcfaa.strs (tx)
set_option linter.unusedVariables false

/-- the bytes of texts, sorted -/
def srt (ts : List ByteArray) : List Bs := (ts.map bl).mergeSort fun x y => decide (x ≤ y)
theorem srt_len (ts : List ByteArray) : (srt ts).length = ts.length := by unfold srt; simp
theorem sort_own (w : World) (base : Nat) (v : Value) (n : Nat) (ts : List ByteArray) (hn : n ≤ 1048576) (hown : w.ownsRow base 9 1 v n (tx ts)) :
    Calls Try.prog 71 #[v] w fun e w' => e = .returned (.tuple #[]) ∧ w'.ownsRow base 9 1 v n ((srt ts).map encStr) ∧ w.grownBy w' v.ownBlock := by
  rw [tx_bl] at hown
  by_cases hv : v = .slice none 0 0
  · subst hv
    have h0 : ts = [] := by
      have h1 := hown.1
      rcases hown.2 with ⟨_, h2⟩ | ⟨g, cap, cur, e, _⟩
      · subst h2
        simpa using h1
      · cases e
    subst h0
    refine (Any.slices_Sort_string_none Try.lays190 none 0 w).mono ?_
    rintro e w' ⟨rfl, rfl⟩
    exact ⟨rfl, by simpa [srt] using hown, grew_refl _ _⟩
  · obtain ⟨g, cap, rfl, hb, hg, hnc, hcm, hlen, hH⟩ := Lib.holds_of_ownsRow hown hv
    have h := Any.slices_Sort_string Try.lays190 g 0 cap (ts.map bl) w hH hg (by omega)
    rw [hlen] at h
    refine h.mono ?_
    rintro e w' ⟨rfl, k, os, rfl⟩
    refine ⟨rfl, ?_, grownBy_sorted _⟩
    rcases hown.2 with ⟨e, _⟩ | ⟨g', cap', cur, e, hbase, hbk, h1, h2, h3, h4⟩
    · cases e
    · cases e
      have hs := ownsRow_sorted (n := k) (os := os) (ts := srt ts) (ss := ts.map bl) (by rw [srt_len]; simp) hbase hbk (by omega) h2 h3
      rw [hlen] at hs
      exact hs
theorem compact_own (w : World) (base : Nat) (a : Option Addr) (c : Nat) (n : Nat) (ss : List Bs) (hn : n ≤ 1048576) (hown : w.ownsRow base 9 1 (.slice a n c) n (ss.map encStr)) :
    Calls Try.prog 72 #[.slice a n c] w fun e w' => e = .returned (.slice a (Lib.compact ss).length c) ∧ w'.ownsRow base 9 1 (.slice a (Lib.compact ss).length c) (Lib.compact ss).length ((Lib.compact ss).map encStr) ∧ w.grownBy w' (Value.slice a n c).ownBlock := by
  by_cases hv : Value.slice a n c = .slice none 0 0
  · cases hv
    have h0 : ss = [] := by have h1 := hown.1; simpa using h1
    subst h0
    refine (Any.slices_Compact_string_empty Try.lays194 none 0 w).mono ?_
    rintro e w' ⟨rfl, rfl⟩
    exact ⟨rfl, hown, grew_refl _ _⟩
  · obtain ⟨g, cap, e, hb, hg, hnc, hcm, hlen, hH⟩ := Lib.holds_of_ownsRow hown hv
    cases e
    have h := Any.slices_Compact_string Try.lays194 g 0 c ss w hH (by omega) (by omega)
    rw [hlen] at h
    refine h.mono ?_
    rintro e w' ⟨rfl, q, rfl⟩
    have hle := Lib.compact_length_le ss
    refine ⟨rfl, ?_, ?_⟩
    · have hc := Lib.ownsRow_putRow (q := q) (k := (Lib.compact ss).length) (ys := Lib.compact ss ++ List.replicate (n - (Lib.compact ss).length) []) hown (by simp; omega) (by omega)
      rw [List.take_left] at hc
      exact hc
    · refine ⟨rfl, rfl, rfl, by simp [putRow, mapBlock, Sort.ahead], fun j hj hne => ?_⟩
      have : g ≠ j := fun e => hne (by rw [e]; rfl)
      simp [putRow, mapBlock, Sort.ahead, Array.getElem?_modify, this]
end Go.Proofs.Ytlcdbkelonbcfaa.nms
