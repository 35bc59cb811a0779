/-
  What spec.BlobRight, spec.BlobKey, impl.BlobRight, impl.BlobKey and laws.szBlob, toBlob, eqBlob answer and leave. Conditions: a text of at most 1,048,576 bytes; for the program's key: the numbers of the rounds are there.
  What spec.l07At is asked to answer and to leave. No condition.
-/
import Derived.Test.YtlmhdebjmkcanabDoorZPackA
import Derived.Test.YtlmhdebjmkcanabDoorZGround
import Derived.Test.YtlmhdebjmkcanabDoorZShaD
import Derived.Deep.RegionHeld3
import Derived.Deep.QuietTactic
import Derived.BigQuiet
import Derived.BigRegion
namespace Go.Proofs.YtlmhdebjmkcanabDoor.pack
open Go.RowKit Go.Joins
open Go.Proofs.YtlmhdebjmkcanabDoor.base Go.Proofs.YtlmhdebjmkcanabDoor.blk Go.Proofs.YtlmhdebjmkcanabDoor.aid
open Go.Proofs.YtlmhdebjmkcanabDoor.sha (digest GV)
set_option linter.unusedVariables false

set_option maxRecDepth 100000 in
theorem right_spec (k : Int) (t : ByteArray) (w : World) :
    Calls Tryd.prog 32 #[.agg #[.int .i64 k, .string t]] w fun e w' => e = .returned (.bool (bRight (k, t))) ∧ Below w.heap.size w w' := by
  go_enter Tryd.func32, Tryd.ntmps32
  go_wp2
  all_goals go_ret
  all_goals exact ⟨ret_eq (by simp [bRight, *] <;> omega), below_alloc1 _ _⟩

set_option maxRecDepth 100000 in
theorem right_impl (k : Int) (t : ByteArray) (w : World) :
    Calls Tryd.prog 35 #[.agg #[.int .i64 k, .string t]] w fun e w' => e = .returned (.bool (bRight (k, t))) ∧ Below w.heap.size w w' := by
  have HK := mkHid (fun wx => kind.kind_any k wx)
  cases hk : kind.kindB k with
  | false =>
    rw [hk] at HK
    have hk2 := mkHid (show ¬ (k = 1 ∨ k = 2) by unfold kind.kindB at hk; simp at hk; omega)
    clear hk
    go_enter Tryd.func35, Tryd.ntmps35
    go_wp2_with fail
    refine (HK.out _).mono ?_
    rintro e w1 ⟨rfl, rfl⟩
    go_wp2
    go_ret
    exact ⟨ret_eq (by have := hk2.out; simp [bRight]; omega), below_alloc1 _ _⟩
  | true =>
    rw [hk] at HK
    have hk2 := mkHid (show k = 1 ∨ k = 2 by unfold kind.kindB at hk; simpa using hk)
    clear hk
    go_enter Tryd.func35, Tryd.ntmps35
    go_wp2_with fail
    refine (HK.out _).mono ?_
    rintro e w1 ⟨rfl, rfl⟩
    go_wp2
    go_ret
    exact ⟨ret_eq (by have := hk2.out; simp [bRight, this]; omega), below_alloc1 _ _⟩

theorem num_spec (k : Int) (w : World) (h : 0 ≤ k) (h2 : k ≤ 2000) :
    Calls Tryd.prog 44 #[.int .i64 k] w fun e w' => e = .returned (.string (numB k)) ∧ Below w.heap.size w w' :=
  fnExactPutNum.spec_any k w (by omega) (by omega) (2 * k.toNat) (by unfold fnExactPutNum.fold; rw [if_neg (by omega)]; omega) (by omega)
theorem num_impl (k : Int) (w : World) (h : 0 ≤ k) (h2 : k ≤ 2000) :
    Calls Tryd.prog 48 #[.int .i64 k] w fun e w' => e = .returned (.string (numB k)) ∧ Below w.heap.size w w' :=
  fnExactPutNum.impl_any k w (by omega) (by omega) (2 * k.toNat) (by unfold fnExactPutNum.fold; rw [if_neg (by omega)]; omega) (by omega)

set_option maxRecDepth 100000 in
theorem key_spec (k : Int) (t : ByteArray) (w : World) :
    Calls Tryd.prog 33 #[.agg #[.int .i64 k, .string t]] w fun e w' => e = .returned (.string (bKey (k, t))) ∧ Below w.heap.size w w' := by
  have HR := mkHid (fun wx => right_spec k t wx)
  cases hr : bRight (k, t)
  · rw [hr] at HR
    have E := mkHid (bRight_no hr)
    go_enter Tryd.func33, Tryd.ntmps33
    go_wp2_with fail
    refine (HR.out _).mono ?_
    rintro e w1 ⟨rfl, hb1⟩
    go_wp2
    go_ret
    exact ⟨ret_eq (by rw [E.out]; rfl), below_allocs (os := [_]) hb1⟩
  · rw [hr] at HR
    obtain ⟨h1, h2⟩ := bRight_parts hr
    have h3 := numB_size hr
    have E := mkHid (show bKey (k, t) = digest (numB k ++ t) by unfold bKey; rw [if_pos hr])
    have HN := mkHid (fun wx => num_spec k wx (by simp at h1; omega) (by simp at h1; omega))
    have HD := mkHid (fun wx => sha.digest_any (numB k ++ t) wx (by rw [ByteArray.size_append]; simp at h2 h3; omega))
    have hsum : (numB k).size + t.size ≤ 9223372036854775807 := by simp at h2 h3; omega
    have hadd := fun wx => run_string_add_sum (P := Tryd.prog) wx (numB k) t hsum
    generalize numB k = p at *
    clear h1 h2 h3 hr hsum
    go_enter Tryd.func33, Tryd.ntmps33
    go_wp2_with fail
    refine (HR.out _).mono ?_
    rintro e w1 ⟨rfl, hb1⟩
    have B1 := mkHid (below_allocs (os := [_]) hb1)
    have K1 := mkHid (blk_below (blk_new w (.cells #[.int .i64 k, .string t] 37) w.heap.size rfl) hb1)
    have c0 : w1.cell? ⟨w.heap.size, 0, none⟩ = some (.int .i64 k) := by simp [World.cell?, K1.out]
    have c1 : w1.cell? ⟨w.heap.size, 1, none⟩ = some (.string t) := by simp [World.cell?, K1.out]
    clear hb1 HR
    go_wp2_with fail
    go_region_held3 (fun w' => w'.cell? ⟨w.heap.size, 0, none⟩ = some (.int .i64 k) ∧ w'.cell? ⟨w.heap.size, 1, none⟩ = some (.string t)) (go_keep)
      ((first
        | (go_at_call 44; refine Calls.mono (HN.out _) ?_; rintro e w2 ⟨rfl, hb2⟩; have B2 := mkHid (B1.out.trans ((re (w := w1) hb2 rfl rfl rfl rfl).mono B1.out.size)); have K2 := mkHid (blk_below K1.out (re hb2 rfl rfl rfl rfl)); obtain ⟨a0, a1⟩ := cel2 K2.out; clear hb2)
        | (go_at_call 43; refine Calls.mono (HD.out _) ?_; rintro e w3 ⟨rfl, hb3⟩; have B3 := mkHid (B2.out.trans ((re (w := w2) hb3 rfl rfl rfl rfl).mono B2.out.size)); have K3 := mkHid (blk_below K2.out (re hb3 rfl rfl rfl rfl)); obtain ⟨d0, d1⟩ := cel2 K3.out; clear hb3)))
    go_wp2
    go_ret
    exact ⟨ret_eq (by rw [E.out]; rfl), B3.out⟩
set_option maxRecDepth 100000 in
theorem key_impl (k : Int) (t : ByteArray) (w : World) (I : himpl.IDigest) (hG : GV w) :
    Calls Tryd.prog 36 #[.agg #[.int .i64 k, .string t]] w fun e w' => e = .returned (.string (bKey (k, t))) ∧ Below w.heap.size w w' := by
  have HR := mkHid (fun wx => right_impl k t wx)
  cases hr : bRight (k, t)
  · rw [hr] at HR
    have E := mkHid (bRight_no hr)
    go_enter Tryd.func36, Tryd.ntmps36
    go_wp2_with fail
    refine (HR.out _).mono ?_
    rintro e w1 ⟨rfl, hb1⟩
    go_wp2
    go_ret
    exact ⟨ret_eq (by rw [E.out]; rfl), below_allocs (os := [_]) hb1⟩
  · rw [hr] at HR
    obtain ⟨h1, h2⟩ := bRight_parts hr
    have h3 := numB_size hr
    have E := mkHid (show bKey (k, t) = digest (numB k ++ t) by unfold bKey; rw [if_pos hr])
    have HN := mkHid (fun wx => num_impl k wx (by simp at h1; omega) (by simp at h1; omega))
    have HD := mkHid (fun wx (hb : Below w.heap.size w wx) => I (numB k ++ t) wx (by rw [ByteArray.size_append]; simp at h2 h3; omega) (hG.below hb hG.lt))
    have hsum : (numB k).size + t.size ≤ 9223372036854775807 := by simp at h2 h3; omega
    have hadd := fun wx => run_string_add_sum (P := Tryd.prog) wx (numB k) t hsum
    generalize numB k = p at *
    clear h1 h2 h3 hr hsum hG I
    go_enter Tryd.func36, Tryd.ntmps36
    go_wp2_with fail
    refine (HR.out _).mono ?_
    rintro e w1 ⟨rfl, hb1⟩
    have B1 := mkHid (below_allocs (os := [_]) hb1)
    have K1 := mkHid (blk_below (blk_new w (.cells #[.int .i64 k, .string t] 37) w.heap.size rfl) hb1)
    have c0 : w1.cell? ⟨w.heap.size, 0, none⟩ = some (.int .i64 k) := by simp [World.cell?, K1.out]
    have c1 : w1.cell? ⟨w.heap.size, 1, none⟩ = some (.string t) := by simp [World.cell?, K1.out]
    clear hb1 HR
    go_wp2_with fail
    go_region_held3 (fun w' => w'.cell? ⟨w.heap.size, 0, none⟩ = some (.int .i64 k) ∧ w'.cell? ⟨w.heap.size, 1, none⟩ = some (.string t)) (go_keep)
      ((first
        | (go_at_call 48; refine Calls.mono (HN.out _) ?_; rintro e w2 ⟨rfl, hb2⟩; have B2 := mkHid (B1.out.trans ((re (w := w1) hb2 rfl rfl rfl rfl).mono B1.out.size)); have K2 := mkHid (blk_below K1.out (re hb2 rfl rfl rfl rfl)); obtain ⟨a0, a1⟩ := cel2 K2.out; clear hb2)
        | (go_at_call 47; refine Calls.mono (HD.out _ (by first | exact B2.out | exact B2.out.drew)) ?_; rintro e w3 ⟨rfl, hb3⟩; have B3 := mkHid (B2.out.trans ((re (w := w2) hb3 rfl rfl rfl rfl).mono B2.out.size)); have K3 := mkHid (blk_below K2.out (re hb3 rfl rfl rfl rfl)); obtain ⟨d0, d1⟩ := cel2 K3.out; clear hb3)))
    go_wp2
    go_ret
    exact ⟨ret_eq (by rw [E.out]; rfl), B3.out⟩
end Go.Proofs.YtlmhdebjmkcanabDoor.pack
namespace Go.Proofs.YtlmhdebjmkcanabDoor.pack
open Go.RowKit Go.Joins
open Go.Proofs.YtlmhdebjmkcanabDoor.base Go.Proofs.YtlmhdebjmkcanabDoor.blk Go.Proofs.YtlmhdebjmkcanabDoor.aid
set_option linter.unusedVariables false

/-- no record is told -/
def ANo (w : World) (e : Ending) (w' : World) : Prop :=
  ∃ (x : ByteArray) (k p n : Int) (k' : Int) (t : ByteArray) (q : Int), e = .returned (.tuple #[.agg #[.string x, .int .i64 k, .int .i64 p, .int .i64 n], .agg #[.int .i64 k', .string t], .int .i64 q, .bool false]) ∧ Below w.heap.size w w'
def AYes (w : World) (s : ByteArray) (a : Nat) (k : Int) (q n : Nat) (e : Ending) (w' : World) : Prop :=
  e = .returned (.tuple #[.agg #[.string (keyAt s a), .int .i64 k, .int .i64 (q : Int), .int .i64 (n : Int)], .agg #[.int .i64 k, .string (s.extract q (q + n))], .int .i64 ((q + n : Nat) : Int), .bool true]) ∧ Below w.heap.size w w'
def APost (w : World) (s : ByteArray) (a : Nat) (e : Ending) (w' : World) : Prop :=
  match recAt s a with
  | none => ANo w e w'
  | some (k, q, n) => AYes w s a k q n e w'
theorem APost.no {w w' : World} {s : ByteArray} {a : Nat} {e : Ending} (h : recAt s a = none) (hp : ANo w e w') : APost w s a e w' := by
  unfold APost
  rw [h]
  exact hp
theorem APost.yes {w w' : World} {s : ByteArray} {a : Nat} {e : Ending} {k : Int} {q n : Nat} (h : recAt s a = some (k, q, n)) (hp : AYes w s a k q n e w') : APost w s a e w' := by
  unfold APost
  rw [h]
  exact hp

def IAt : Prop := ∀ (s : ByteArray) (a : Nat) (w : World), s.size ≤ 20000 → a ≤ s.size → Calls Tryd.prog 21 #[.string s, .int .i64 a] w (APost w s a)
end Go.Proofs.YtlmhdebjmkcanabDoor.pack
