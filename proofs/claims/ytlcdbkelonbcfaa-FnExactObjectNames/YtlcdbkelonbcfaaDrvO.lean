/-
  Parts of a row of files, and what spec.l08Out answers and leaves. Conditions: at most 1,048,576 files, which lie in memory, in a slice that holds them.
-/
import Derived.Test.YtlcdbkelonbcfaaDrvCr
namespace Go.Proofs.Ytlcdbkelonbcfaa.drv
open Go.RowKit Go.Joins Go.Sort
open Go.Proofs.Ytlcdbkelonbcfaa.base Go.Proofs.Ytlcdbkelonbcfaa.blk Go.Proofs.Ytlcdbkelonbcfaa.aid
open Go.Proofs.Ytlcdbkelonbcfaa.row (Rd Own OwnV appSem app_fold)
open Go.Proofs.Ytlcdbkelonbcfaa.rwStored (cs)
set_option linter.unusedVariables false

theorem add_zero (a : Addr) : a.add 0 = a := by cases a; rfl
/-- where a slice begins from place j on -/
def lo (a : Option Addr) (j c : Nat) : Option Addr := if c = j then a else a.map (fun x => x.add (j * 3))
theorem elem_is : Try.prog.elem 90 = 94 := by kernel_rfl
theorem size_is (w : World) : (sizeOf 94).run Try.prog w = .ok 3 w := by kernel_rfl
theorem und_is : Try.prog.underlying 90 = some (.slice (Try.prog.elem 90)) := by rw [elem_is]; exact Try.underlying90
set_option maxRecDepth 100000 in
theorem sl_hi (a : Option Addr) (n c i : Nat) (h : i ≤ c) (wx : World) : (sliceSem 90 (.slice a n c) none (some (.int .i64 (i : Int))) none).run Try.prog wx = .ok (.slice a i c) wx := by
  have h1 := run_slice_h (P := Try.prog) wx 90 a n c und_is .i64 (i : Int) (by omega) (by omega)
  rw [elem_is, size_is] at h1
  refine h1.trans ?_
  simp only [Result.andThen, sliced]
  have e : (i : Int).toNat = i := by omega
  rw [e]
  congr 2
  · split
    · rfl
    · cases a with
      | none => rfl
      | some ad => simp [add_zero]
set_option maxRecDepth 100000 in
theorem sl_lo (a : Option Addr) (n c j : Nat) (h : j ≤ n) (wx : World) : (sliceSem 90 (.slice a n c) (some (.int .i64 (j : Int))) none none).run Try.prog wx = .ok (.slice (lo a j c) (n - j) (c - j)) wx := by
  have h1 := run_slice_l (P := Try.prog) wx 90 a n c und_is .i64 (j : Int) (by omega) (by omega)
  rw [elem_is, size_is] at h1
  refine h1.trans ?_
  simp only [Result.andThen, sliced]
  have e : (j : Int).toNat = j := by omega
  rw [e]
  unfold lo
  congr 2
theorem rd_take {w : World} {a : Option Addr} {l : List File} (h : Rd w a (cs l)) (i : Nat) : Rd w a (cs (l.take i)) := by
  intro j u hj
  refine h j u ?_
  have e : cs l = cs (l.take i) ++ cs (l.drop i) := by rw [← rwStored.cs_app, List.take_append_drop]
  rw [e, List.getElem?_append_left (List.getElem?_eq_some_iff.1 hj).1]
  exact hj
theorem rd_drop {w : World} {a : Option Addr} {l : List File} {c : Nat} (h : Rd w a (cs l)) (j : Nat) (hj : j ≤ l.length) (hc : l.length ≤ c) : Rd w (lo a j c) (cs (l.drop j)) := by
  unfold lo
  split
  · have : l.drop j = [] := List.drop_of_length_le (by omega)
    rw [this]
    exact Rd.nil _ _
  · intro i u hi
    have e : cs l = cs (l.take j) ++ cs (l.drop j) := by rw [← rwStored.cs_app, List.take_append_drop]
    have hl : (cs (l.take j)).length = 3 * j := by rw [rwStored.cs_len, List.length_take]; congr 1; omega
    obtain ⟨b, off, ea, hb⟩ := h (3 * j + i) u (by rw [e, List.getElem?_append_right (by omega), hl]; simpa using hi)
    subst ea
    refine ⟨b, off + j * 3, by rw [Option.map_some, Addr.add_lit], ?_⟩
    have e2 : off + j * 3 + i = off + (3 * j + i) := by omega
    rw [e2]
    exact hb
/-- a row of its own is the answer -/
def RPost (w : World) (l : List File) (e : Ending) (w' : World) : Prop :=
  ∃ g cap, e = .returned (.slice (some ⟨g, 0, none⟩) l.length cap) ∧ w'.ownsRow w.heap.size 94 3 (.slice (some ⟨g, 0, none⟩) l.length cap) l.length (cs l) ∧ Below w.heap.size w w'
theorem out_len {l : List File} {i : Nat} (h : i < l.length) : (l.take i).length = i ∧ (l.drop (i + 1)).length = l.length - (i + 1) ∧ (out l i).length = i + (l.length - (i + 1)) := by
  refine ⟨by simp; omega, by simp, ?_⟩
  unfold out
  simp
  omega

attribute [local go_sem ↓] app_fold slice_fold
end Go.Proofs.Ytlcdbkelonbcfaa.drv
