/-
  What spec.l08Bytes, DriveRight, OpRight, l08Find answer and leave. Conditions: at most 1,048,576 files, which lie in memory, of texts of at most 1,048,576 bytes.
-/
import Derived.Test.YtlcdbkelonbcfaaDrvP
import Derived.Deep.RegionHeld3
import Derived.Deep.QuietTactic
import Derived.BigQuiet
import Derived.BigRegion
namespace Go.Proofs.Ytlcdbkelonbcfaa.drv
open Go.RowKit Go.Joins
open Go.Proofs.Ytlcdbkelonbcfaa.base Go.Proofs.Ytlcdbkelonbcfaa.blk Go.Proofs.Ytlcdbkelonbcfaa.aid
open Go.Proofs.Ytlcdbkelonbcfaa.row (Rd Own OwnV)
open Go.Proofs.Ytlcdbkelonbcfaa.rwStored (cs)
set_option linter.unusedVariables false

/-- texts are small -/
def Small (l : List (ByteArray × ByteArray × Int)) : Prop := ∀ f ∈ l, f.1.size ≤ 1048576 ∧ f.2.1.size ≤ 1048576

set_option maxRecDepth 100000 in
theorem bytes_any (a : Option Addr) (c : Nat) (l : List (ByteArray × ByteArray × Int)) (r : Int) (w : World) (hl : l.length ≤ 1048576) (hs : Small l) (hr : Rd w a (cs l)) :
    Calls Try.prog 90 #[.agg #[.slice a l.length c, .int .i64 r]] w fun e w' => e = .returned (.int .i64 (bytes l)) ∧ Below w.heap.size w w' := by
  have hc0 := (cel2 (blk_new w (.cells #[.slice a l.length c, .int .i64 r] 92) w.heap.size rfl)).1
  have hr0 := hr.alloc (.cells #[.slice a l.length c, .int .i64 r] 92)
  have hB := mkHid (below_alloc1 w (.cells #[.slice a l.length c, .int .i64 r] 92))
  have hbs := bytes_le l (fun f hf => (hs f hf).2)
  clear hr
  go_enter Try.func90, Try.ntmps90
  go_wp2_with fail
  generalize w.alloc (.cells #[.slice a l.length c, .int .i64 r] 92) = W at *
  go_loopw [3, 4] (fun n i wr => ∃ k : Nat, k ≤ l.length ∧ i = .int .i64 k ∧ n = .int .i64 (bytes (l.take k)) ∧ wr = W)
    (fun _ i _ => l.length - (intOf i).toNat)
  case atStart => exact ⟨0, Nat.zero_le _, rfl, rfl, rfl⟩
  case round =>
    obtain ⟨k, hk, rfl, rfl, rfl⟩ := hrel
    by_cases hlt : k < l.length
    · have hlti : (k : Int) < (l.length : Int) := by omega
      obtain ⟨⟨x0, x1, x2⟩, hx⟩ : ∃ y, l[k]? = some y := ⟨_, List.getElem?_eq_getElem hlt⟩
      obtain ⟨g1, o1, rfl, c0, c1, c2, l1⟩ := rwStored.el hr0 hx
      have ht : l.take (k + 1) = l.take k ++ [(x0, x1, x2)] := by rw [List.take_add_one, hx]; rfl
      have hsum : bytes (l.take (k + 1)) = bytes (l.take k) + (x1.size : Int) := by rw [ht, bytes_app]; simp [bytes]
      have h1 := bytes_pos (l.take k)
      have h2 : bytes (l.take (k + 1)) ≤ bytes l := by
        have e := bytes_app (l.take (k + 1)) (l.drop (k + 1))
        rw [List.take_append_drop] at e
        have := bytes_pos (l.drop (k + 1))
        omega
      have hxs : (x1.size : Int) ≤ 1048576 := by have := (hs _ (List.mem_of_getElem? hx)).2; simp only at this; omega
      have HS := mkHid hsum
      have hb1 : bytes (l.take k) ≤ 1099511627776 := by omega
      generalize bytes (l.take k) = z at *
      clear hx ht hsum h2 hs hr0
      go_wp2
      exact ⟨⟨k + 1, by omega, by go_num, by rw [HS.out], by trivial⟩, by simp [intOf]; omega⟩
    · obtain rfl : k = l.length := by omega
      rw [List.take_of_length_le (Nat.le_refl _)]
      go_wp2
      go_ret
      exact ⟨rfl, hB.out⟩

theorem bytes_ne {r s : ByteArray} (h : ¬ r = s) : (r.toList == s.toList) = false := by
  rw [ByteArray.toList_eq, ByteArray.toList_eq]
  simp
  intro e
  apply h
  apply ByteArray.ext
  exact e
theorem empty_or (t : ByteArray) : t = ⟨#[]⟩ ∨ (t ≠ ⟨#[]⟩ ∧ t.toList.isEmpty = false) := by
  by_cases h : t = ⟨#[]⟩
  · exact .inl h
  · refine .inr ⟨h, ?_⟩
    cases hq : t.toList.isEmpty
    · rfl
    · exact absurd (ByteArray.ext (Array.toList_inj.1 (by rw [ByteArray.toList_eq] at hq; simpa using hq))) h
end Go.Proofs.Ytlcdbkelonbcfaa.drv
