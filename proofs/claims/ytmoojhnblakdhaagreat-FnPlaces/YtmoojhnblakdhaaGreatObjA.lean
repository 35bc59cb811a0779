/-
  Names of objects: what spec.NameRight and impl.NameRight, spec.ObjectRight and impl.ObjectRight answer, as a bool. Condition: a name of at most 1,048,576 bytes.
-/
import Derived.Test.YtmoojhnblakdhaaGreatNameRight
import Derived.Test.YtmoojhnblakdhaaGreatAid
import Derived.Lib.Strings
import Derived.Lib.Slices
import Derived.Lib.Walk
namespace Go.Proofs.YtmoojhnblakdhaaGreat.obj
open Go.RowKit Go.Joins
open Go.Proofs.YtmoojhnblakdhaaGreat.base Go.Proofs.YtmoojhnblakdhaaGreat.blk Go.Proofs.YtmoojhnblakdhaaGreat.aid
open Go.Proofs.YtmoojhnblakdhaaGreat.fnExactNameRight (Right okAt Says)
set_option linter.unusedVariables false

def okDec (i : Nat) (c : UInt8) : Decidable (okAt i c) := by unfold okAt; exact inferInstance
def nameDec (s : ByteArray) : Decidable (Right s) :=
  haveI : ∀ i c, Decidable (okAt i c) := okDec
  by unfold Right; exact inferInstance
/-- a name is right -/
def nameB (s : ByteArray) : Bool := @decide (Right s) (nameDec s)
theorem nameB_iff (s : ByteArray) : nameB s = true ↔ Right s := ⟨fun h => @of_decide_eq_true (Right s) (nameDec s) h, fun h => @decide_eq_true (Right s) (nameDec s) h⟩
theorem says_name {s : ByteArray} {e : Ending} (h : Says (Right s) e) : e = .returned (.bool (nameB s)) := by
  obtain ⟨b, rfl, hb⟩ := h
  rw [← nameB_iff] at hb
  cases b <;> cases hn : nameB s <;> simp_all
theorem name_spec (s : ByteArray) (w : World) (hs : s.size ≤ 1048576) :
    Calls Tryz.prog 54 #[.string s] w fun e w' => e = .returned (.bool (nameB s)) ∧ w' = w :=
  (fnExactNameRight.spec_any s w (by unfold maxLen; omega)).mono (fun e w' h => ⟨says_name h.1, h.2⟩)
theorem name_impl (s : ByteArray) (w : World) (hs : s.size ≤ 1048576) :
    Calls Tryz.prog 74 #[.string s] w fun e w' => e = .returned (.bool (nameB s)) ∧ w' = w :=
  (fnExactNameRight.impl_any s w (by unfold maxLen; omega)).mono (fun e w' h => ⟨says_name h.1, h.2⟩)
theorem name_small {s : ByteArray} (h : nameB s = true) : 1 ≤ s.size ∧ s.size ≤ 80 := ⟨((nameB_iff s).1 h).1, ((nameB_iff s).1 h).2.1⟩

/-- begins with t- -/
def tagB (s : ByteArray) : Bool := decide (2 ≤ s.size) && ((s.extract 0 2).toList == [116, 45])
/-- an object's name -/
def objB (s : ByteArray) : Bool := nameB s && decide (s.size ≤ 60) && !tagB s

set_option maxHeartbeats 1000000 in
theorem prefix_any (s p : ByteArray) (w : World) :
    Calls Tryz.prog 75 #[.string s, .string p] w fun e w' => e = .returned (.bool (decide (p.size ≤ s.size) && ((s.extract 0 p.size).toList == p.toList))) ∧ w' = w := by
  go_enter Tryz.func75, Tryz.ntmps75
  go_wp2
  · rename_i h
    go_ret
    refine ⟨?_, rfl⟩
    simp [h]
  · rename_i h
    go_ret
    refine ⟨?_, rfl⟩
    simp [h]

theorem tag_any (s : ByteArray) (w : World) :
    Calls Tryz.prog 75 #[.string s, .string ⟨#[116, 45]⟩] w fun e w' => e = .returned (.bool (tagB s)) ∧ w' = w := by
  refine (prefix_any s ⟨#[116, 45]⟩ w).mono ?_
  rintro e w' ⟨rfl, rfl⟩
  refine ⟨ret_eq ?_, rfl⟩
  unfold tagB
  rw [Lib.toList_data ⟨#[116, 45]⟩]
  rfl

set_option maxHeartbeats 1000000 in
theorem objS_any (s : ByteArray) (w : World) (hs : s.size ≤ 1048576) :
    Calls Tryz.prog 29 #[.string s] w fun e w' => e = .returned (.bool (objB s)) ∧ w' = w := by
  have HN := mkHid (fun wx => name_spec s wx hs)
  have hs' : (s.size : Int) ≤ 1048576 := by omega
  go_enter Tryz.func29, Tryz.ntmps29
  cases hn : nameB s with
  | false =>
    rw [hn] at HN
    go_wp2_with fail
    refine (HN.out _).mono ?_
    rintro e w1 ⟨rfl, rfl⟩
    go_wp2
    go_ret
    exact ⟨ret_eq (by unfold objB; rw [hn]; rfl), rfl⟩
  | true =>
    rw [hn] at HN
    by_cases h6 : (s.size : Int) ≤ 60
    · by_cases h2 : (s.size : Int) < 2
      · go_wp2_with fail
        refine (HN.out _).mono ?_
        rintro e w1 ⟨rfl, rfl⟩
        go_wp2
        go_ret
        exact ⟨ret_eq (by unfold objB tagB; rw [hn]; simp; omega), rfl⟩
      · have h2' : 2 ≤ (s.size : Int) := by omega
        have h6n : s.size ≤ 60 := by omega
        have h2n : 2 ≤ s.size := by omega
        cases ht : ((s.extract 0 2).toList == [116, 45]) with
        | false =>
          go_wp2_with fail
          refine (HN.out _).mono ?_
          rintro e w1 ⟨rfl, rfl⟩
          go_wp2
          go_ret
          exact ⟨ret_eq (by unfold objB tagB; rw [hn, ht]; simp [h6n, h2n]), rfl⟩
        | true =>
          go_wp2_with fail
          refine (HN.out _).mono ?_
          rintro e w1 ⟨rfl, rfl⟩
          go_wp2
          go_ret
          exact ⟨ret_eq (by unfold objB tagB; rw [hn, ht]; simp [h6n, h2n]; exact h2'), rfl⟩
    · go_wp2_with fail
      refine (HN.out _).mono ?_
      rintro e w1 ⟨rfl, rfl⟩
      go_wp2
      go_ret
      exact ⟨ret_eq (by unfold objB; simp; omega), rfl⟩

set_option maxHeartbeats 1000000 in
theorem objI_any (s : ByteArray) (w : World) (hs : s.size ≤ 1048576) :
    Calls Tryz.prog 55 #[.string s] w fun e w' => e = .returned (.bool (objB s)) ∧ w' = w := by
  have HN := mkHid (fun wx => name_impl s wx hs)
  have HT := mkHid (fun wx => tag_any s wx)
  have hs' : (s.size : Int) ≤ 1048576 := by omega
  go_enter Tryz.func55, Tryz.ntmps55
  by_cases h6 : (s.size : Int) ≤ 60
  · cases hn : nameB s with
    | false =>
      rw [hn] at HN
      go_wp2_with fail
      refine (HN.out _).mono ?_
      rintro e w1 ⟨rfl, rfl⟩
      go_wp2
      go_ret
      exact ⟨ret_eq (by unfold objB; rw [hn]; rfl), rfl⟩
    | true =>
      rw [hn] at HN
      cases ht : tagB s with
      | false =>
        rw [ht] at HT
        go_wp2_with fail
        refine (HN.out _).mono ?_
        rintro e w1 ⟨rfl, rfl⟩
        go_wp2_with fail
        refine (HT.out _).mono ?_
        rintro e w1 ⟨rfl, rfl⟩
        go_wp2
        go_ret
        exact ⟨ret_eq (by unfold objB; rw [hn, ht]; simp; omega), rfl⟩
      | true =>
        rw [ht] at HT
        go_wp2_with fail
        refine (HN.out _).mono ?_
        rintro e w1 ⟨rfl, rfl⟩
        go_wp2_with fail
        refine (HT.out _).mono ?_
        rintro e w1 ⟨rfl, rfl⟩
        go_wp2
        go_ret
        exact ⟨ret_eq (by unfold objB; rw [hn, ht]; simp), rfl⟩
  · go_wp2
    go_ret
    exact ⟨ret_eq (by unfold objB; simp; omega), rfl⟩
theorem objB_small {s : ByteArray} (h : objB s = true) : s.size ≤ 60 := by
  unfold objB at h
  simp at h
  omega
end Go.Proofs.YtmoojhnblakdhaaGreat.obj
