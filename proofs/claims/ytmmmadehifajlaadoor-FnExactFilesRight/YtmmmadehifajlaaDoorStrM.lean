/-
  Rows of texts, in the words of rows of cells: what laws.eqStringS, markStringS and heldStringS answer and leave. Condition: at most 1,048,576 texts.
-/
import Derived.Test.YtmmmadehifajlaaDoorStrsB
import Derived.Test.YtmmmadehifajlaaDoorMem
namespace Go.Proofs.YtmmmadehifajlaaDoor.strs
open Go.RowKit Go.Joins
open Go.Proofs.YtmmmadehifajlaaDoor.base Go.Proofs.YtmmmadehifajlaaDoor.blk
open Go.Proofs.YtmmmadehifajlaaDoor.row (Rd Own OwnV)
set_option linter.unusedVariables false

/-- texts as cells -/
def tx (ts : List ByteArray) : List Value := ts.map strV
theorem tx_nil {ts : List ByteArray} (h : tx ts = []) : ts = [] := by unfold tx at h; simpa using h
theorem rd_t {w : World} {a : Option Addr} {ts : List ByteArray} (h : Rd w a (tx ts)) : RdT w a ts := by
  intro i t ht
  exact h i (.string t) (by unfold tx; simp [ht, strV])
theorem own_t {w : World} {a : Option Addr} {ts : List ByteArray} (h : OwnV 9 w a (tx ts)) : OwnVT w a ts := by
  rcases h with h | ⟨g, rfl, ho⟩
  · exact .inl (tx_nil h)
  · exact .inr ⟨g, rfl, ho⟩
theorem own_x {w : World} {a : Option Addr} {ts : List ByteArray} (h : OwnVT w a ts) : OwnV 9 w a (tx ts) := by
  rcases h with rfl | ⟨g, rfl, ho⟩
  · exact .inl rfl
  · exact .inr ⟨g, rfl, ho⟩
theorem from_ne {m n : Nat} {ts : List ByteArray} (hn : ts.length = n) (h : tx (from_ m n) ≠ []) : tx ts ≠ [] := by
  intro e
  have := tx_nil e
  subst this
  simp at hn
  subst hn
  exact h rfl
end Go.Proofs.YtmmmadehifajlaaDoor.strs
