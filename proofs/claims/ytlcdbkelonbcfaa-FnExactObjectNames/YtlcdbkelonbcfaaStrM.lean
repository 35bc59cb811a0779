/-
  Rows of texts, in the words of rows of cells: what laws.eqStringS, markStringS and heldStringS answer and leave. Condition: at most 1,048,576 texts.
-/
import Derived.Test.YtlcdbkelonbcfaaStrsB
import Derived.Test.YtlcdbkelonbcfaaMem
namespace Go.Proofs.Ytlcdbkelonbcfaa.strs
open Go.RowKit Go.Joins
open Go.Proofs.Ytlcdbkelonbcfaa.base Go.Proofs.Ytlcdbkelonbcfaa.blk
open Go.Proofs.Ytlcdbkelonbcfaa.row (Rd Own OwnV)
set_option linter.unusedVariables false

/-- texts as cells -/
def tx (ts : List ByteArray) : List Value := ts.map strV
theorem tx_nil {ts : List ByteArray} (h : tx ts = []) : ts = [] := by unfold tx at h; simpa using h
theorem rd_t {w : World} {a : Option Addr} {ts : List ByteArray} (h : Rd w a (tx ts)) : RdT w a ts := by
  intro i t ht
  exact h i (.string t) (by unfold tx; simp [ht, strV])
theorem own_t {w : World} {a : Option Addr} {ts : List ByteArray} (h : OwnV 9 w a (tx ts)) : OwnVT w a ts := by
  rcases h with h | ⟨g, rfl, ho⟩
  · exact .inl (tx_nil h)
  · exact .inr ⟨g, rfl, ho⟩
theorem own_x {w : World} {a : Option Addr} {ts : List ByteArray} (h : OwnVT w a ts) : OwnV 9 w a (tx ts) := by
  rcases h with rfl | ⟨g, rfl, ho⟩
  · exact .inl rfl
  · exact .inr ⟨g, rfl, ho⟩
theorem eqX_same (a b : Option Addr) (ca cb : Nat) (ts : List ByteArray) (w : World) (hl : ts.length ≤ 1048576) (ha : Rd w a (tx ts)) (hb : Rd w b (tx ts)) :
    Calls Try.prog 12 #[.slice a ts.length ca, .slice b ts.length cb] w fun e w' => e = .returned (.bool true) ∧ Below w.heap.size w w' :=
  (eqT_any a b ca cb ts ts w hl hl (rd_t ha) (rd_t hb)).mono (fun e w' h => ⟨by rw [h.1]; simp, h.2⟩)
theorem markX_any (a : Option Addr) (cap : Nat) (ts : List ByteArray) (m : Nat) (w : World) (hl : ts.length ≤ 1048576) (hm1 : m ≤ 3000000) (hr : OwnV 9 w a (tx ts)) :
    Calls Try.prog 15 #[.slice a ts.length cap, .int .i64 m] w fun e w' => e = .returned (.int .i64 ((m : Int) + ts.length)) ∧ OwnV 9 w' a (tx (from_ m ts.length)) ∧ ∃ r, w.grownBy w' r ∧ ∀ b, r = some b → tx ts ≠ [] ∧ ∃ o s, a = some ⟨b, o, s⟩ := by
  by_cases h0 : ts = []
  · subst h0
    refine (markT_nil cap a m w).mono ?_
    rintro e w1 ⟨rfl, rfl⟩
    exact ⟨by simp, .inl rfl, none, grew_refl _ _, fun b e => by cases e⟩
  · rcases own_t hr with h | ⟨g, rfl, ho⟩
    · exact absurd h h0
    · refine (markT_any g cap ts m w hl hm1 ho).mono ?_
      rintro e w1 ⟨rfl, h1, h2⟩
      exact ⟨rfl, .inr ⟨g, rfl, h1⟩, some g, h2, fun b e => by cases e; exact ⟨fun e => h0 (tx_nil e), 0, none, rfl⟩⟩
theorem heldX_any (a : Option Addr) (cap n : Nat) (m : Nat) (w : World) (hl : n ≤ 1048576) (hm1 : m ≤ 3000000) (hr : Rd w a (tx (from_ m n))) :
    Calls Try.prog 16 #[.slice a n cap, .int .i64 m] w fun e w' => e = .returned (.int .i64 ((m : Int) + n)) ∧ Below w.heap.size w w' :=
  heldT_any a cap n m w hl hm1 (rd_t hr)
theorem from_ne {m n : Nat} {ts : List ByteArray} (hn : ts.length = n) (h : tx (from_ m n) ≠ []) : tx ts ≠ [] := by
  intro e
  have := tx_nil e
  subst this
  simp at hn
  subst hn
  exact h rfl
end Go.Proofs.Ytlcdbkelonbcfaa.strs
