/-
  What strings.Join answers of keys, with nothing between them. Conditions: at most 1,048,576 texts, of which each has 32 bytes, in a row with room for them.
-/
import Derived.Test.YtmmmadehifajlaaJoLay
import Derived.Test.YtmmmadehifajlaaNdP
namespace Go.Proofs.Ytmmmadehifajlaa.nod
open Go.RowKit Go.Joins Go.Shelf
open Go.Proofs.Ytmmmadehifajlaa.base Go.Proofs.Ytmmmadehifajlaa.blk Go.Proofs.Ytmmmadehifajlaa.aid
open Go.Proofs.Ytmmmadehifajlaa.row (Rd)
open Go.Proofs.Ytmmmadehifajlaa.strs (tx)
set_option linter.unusedVariables false

theorem extraJ : Builder.Extra Try.prog Try.lays156_ren where
  sizeBuilder := by kernel_rfl
  liesBuilder := by kernel_rfl
  t5 := Try.underlying5
  a5 := Try.isAgg5
  z5 := Try.sizeOf5
  v5 := Try.zeroValue5
  infoByte := by kernel_rfl
  cellsByte := by kernel_rfl
  sizeByte := by kernel_rfl
  neB5 := by decide
theorem join_flat : ∀ l : List (List UInt8), Lib.join l [] = l.flatten
  | [] => rfl
  | x :: r => by
    rw [Lib.join_cons]
    simp [Lib.joinTail]
theorem join_cat (l : Tx) : Lib.join (l.map (·.data.toList)) [] = catT l := by
  rw [join_flat]
  unfold catT
  rw [List.flatMap_def]
theorem join_any (a : Option Addr) (c : Nat) (l : Tx) (w : World) (hl : l.length ≤ 1048576) (hc : l.length ≤ c) (hs : ∀ t ∈ l, t.size = 32) (hr : Rd w a (tx l)) :
    Calls Try.prog 32 #[.slice a l.length c, .string ⟨#[]⟩] w fun e w' => e = .returned (.string ⟨(catT l).toArray⟩) ∧ Below w.heap.size w w' := by
  cases l with
  | nil =>
    refine (Any.strings_Join_none Try.lays156 extraJ a c ⟨#[]⟩ w).mono ?_
    rintro e w' ⟨rfl, rfl⟩
    exact ⟨rfl, Below.refl _ _⟩
  | cons t r =>
    obtain ⟨g, off, rfl, h0, hg⟩ := tx_el hr (i := 0) (t := t) rfl
    have hcat := catT_len (t :: r) hs
    have hlen : (Lib.join ((t :: r).map (·.data.toList)) (⟨#[]⟩ : ByteArray).data.toList).length ≤ 140737488355328 := by
      have e : (⟨#[]⟩ : ByteArray).data.toList = [] := rfl
      rw [e, join_cat, hcat]
      omega
    have h := Any.strings_Join Try.lays156 extraJ g off c (t :: r) ⟨#[]⟩ w (fun j x hj => by
      obtain ⟨g2, off2, e2, hc2, _⟩ := tx_el hr hj
      simp at e2
      obtain ⟨rfl, rfl⟩ := e2
      exact hc2) hg (by omega) hc hlen
    have e : (⟨#[]⟩ : ByteArray).data.toList = [] := rfl
    rw [e, join_cat] at h
    exact h
end Go.Proofs.Ytmmmadehifajlaa.nod
