/-
  Answers with a row of places and a code: posts of both sides. No condition.
-/
import Derived.Test.YtmmmadehifajlaaAdP
namespace Go.Proofs.Ytmmmadehifajlaa.plc
open Go.RowKit Go.Joins Go.Sort
open Go.Proofs.Ytmmmadehifajlaa.base Go.Proofs.Ytmmmadehifajlaa.blk Go.Proofs.Ytmmmadehifajlaa.aid
open Go.Proofs.Ytmmmadehifajlaa.row (Rd Own OwnV)
open Go.Proofs.Ytmmmadehifajlaa.rwPlace (cs el)
set_option linter.unusedVariables false
set_option linter.unusedSimpArgs false

theorem rd_keep {w w' : World} {a : Option Addr} {xs : List Value} {r : Option Nat} (h : Rd w a xs) (hg : w.grownBy w' r) (hr : ∀ b o s, a = some ⟨b, o, s⟩ → some b ≠ r) : Rd w' a xs :=
  h.block (fun b off e hl => hg.block b hl (hr b off none e))
/-- a result of the call's own: a row and a code, nothing yet -/
def zeroA : Obj := .cells #[.slice none 0 0, .int .i64 0] 34
/-- the answer and what is left -/
def APost (w : World) (r : List Pl × Int) (e : Ending) (w' : World) : Prop :=
  ∃ a' c', e = .returned (.agg #[.slice a' r.1.length c', .int .i64 r.2]) ∧ Rd w' a' (cs r.1) ∧ (∀ b o s, a' = some ⟨b, o, s⟩ → w.heap.size ≤ b) ∧ Below w.heap.size w w' ∧ r.1.length ≤ c'
theorem belowS {w w1 : World} {g : Nat} (hb : Below w.heap.size w w1) (hg : w.heap.size ≤ g) (x0 x1 : Value) : Below w.heap.size w ((w1.setCell ⟨g, 0, none⟩ x0).setCell ⟨g, 1, none⟩ x1) :=
  (hb.setCell (p := ⟨g, 0, none⟩) hg x0).setCell (p := ⟨g, 1, none⟩) hg x1
theorem apost_no {w w1 : World} {r : List Pl × Int} {k : Int} (hb : Below w.heap.size w w1) (hr : r = ([], k)) : APost w r (.returned (.agg #[.slice none 0 0, .int .i64 k])) ((w1.setCell ⟨w.heap.size, 0, none⟩ (.slice none 0 0)).setCell ⟨w.heap.size, 1, none⟩ (.int .i64 k)) := by
  subst hr
  exact ⟨none, 0, rfl, Rd.nil _ _, (fun _ _ _ e => by cases e), belowS hb (Nat.le_refl _) _ _, Nat.le_refl _⟩
theorem apost_new {w : World} {r : List Pl × Int} {k : Int} (hr : r = ([], k)) : APost w r (.returned (.agg #[.slice none 0 0, .int .i64 k])) (w.alloc (.cells #[.slice none 0 0, .int .i64 k] 34)) := by
  subst hr
  exact ⟨none, 0, rfl, Rd.nil _ _, (fun _ _ _ e => by cases e), below_alloc1 _ _, Nat.le_refl _⟩
theorem apost_of {w w1 : World} {r : List Pl × Int} {a' : Option Addr} {n c' : Nat} {k : Int} (hb : Below w.heap.size w w1) (hn : r.1.length = n) (hk : r.2 = k) (hrd : Rd w1 a' (cs r.1)) (hf : ∀ b o s, a' = some ⟨b, o, s⟩ → w.heap.size + 1 ≤ b) (hc : n ≤ c') :
    APost w r (.returned (.agg #[.slice a' n c', .int .i64 k])) ((w1.setCell ⟨w.heap.size, 0, none⟩ (.slice a' n c')).setCell ⟨w.heap.size, 1, none⟩ (.int .i64 k)) := by
  subst hn hk
  refine ⟨a', c', rfl, ?_, (fun b o s e => by have := hf b o s e; omega), belowS hb (Nat.le_refl _) _ _, hc⟩
  have hne : ∀ b o s, a' = some ⟨b, o, s⟩ → some b ≠ some w.heap.size := fun b o s e h => by have := hf b o s e; injection h with h; omega
  exact rd_keep (rd_keep hrd (grew_cell w1 w.heap.size 0 _) hne) (grew_cell _ w.heap.size 1 _) hne
/-- the answer, a row of our own, and what is left -/
def AOwn (w : World) (r : List Pl × Int) (e : Ending) (w' : World) : Prop :=
  ∃ a' c', e = .returned (.agg #[.slice a' r.1.length c', .int .i64 r.2]) ∧ OwnV 75 w' a' (cs r.1) ∧ (∀ b o s, a' = some ⟨b, o, s⟩ → w.heap.size ≤ b) ∧ Below w.heap.size w w' ∧ r.1.length ≤ c'
theorem aown_new {w : World} {r : List Pl × Int} {k : Int} (hr : r = ([], k)) : AOwn w r (.returned (.agg #[.slice none 0 0, .int .i64 k])) (w.alloc (.cells #[.slice none 0 0, .int .i64 k] 34)) := by
  subst hr
  exact ⟨none, 0, rfl, .inl rfl, (fun _ _ _ e => by cases e), below_alloc1 _ _, Nat.le_refl _⟩
theorem aown_no {w w1 : World} {r : List Pl × Int} {k : Int} (hb : Below w.heap.size w w1) (hr : r = ([], k)) : AOwn w r (.returned (.agg #[.slice none 0 0, .int .i64 k])) ((w1.setCell ⟨w.heap.size, 0, none⟩ (.slice none 0 0)).setCell ⟨w.heap.size, 1, none⟩ (.int .i64 k)) := by
  subst hr
  exact ⟨none, 0, rfl, .inl rfl, (fun _ _ _ e => by cases e), belowS hb (Nat.le_refl _) _ _, Nat.le_refl _⟩
theorem own_v {w : World} {base n c : Nat} {a : Option Addr} {l : List Pl} (h : w.ownsRow base 75 5 (.slice a n c) n (cs l)) : OwnV 75 w a (cs l) := by
  rcases h.2 with ⟨h1, h2⟩ | ⟨g, cap, cur, h1, _⟩
  · have h3 := h.1
    rw [h2, Nat.zero_mul] at h3
    exact .inl (List.eq_nil_of_length_eq_zero h3)
  · simp at h1
    obtain ⟨rfl, _⟩ := h1
    exact .inr ⟨g, rfl, Own.owns h⟩
theorem aown_of {w w1 : World} {r : List Pl × Int} {a' : Option Addr} {n c' : Nat} {k : Int} (hb : Below w.heap.size w w1) (hn : r.1.length = n) (hk : r.2 = k) (ho : w1.ownsRow (w.heap.size + 1) 75 5 (.slice a' n c') n (cs r.1)) :
    AOwn w r (.returned (.agg #[.slice a' n c', .int .i64 k])) ((w1.setCell ⟨w.heap.size, 0, none⟩ (.slice a' n c')).setCell ⟨w.heap.size, 1, none⟩ (.int .i64 k)) := by
  subst hn hk
  have h2 := ownsRow_setCell_below (ownsRow_setCell_below ho (a := ⟨w.heap.size, 0, none⟩) (Nat.lt_succ_self _) (.slice a' r.1.length c')) (a := ⟨w.heap.size, 1, none⟩) (Nat.lt_succ_self _) (.int .i64 r.2)
  exact ⟨a', c', rfl, own_v h2, (fun b o s e => by have := (ho.lt b (by rw [e]; rfl)).1; omega), belowS hb (Nat.le_refl _) _ _, (cap_of ho).2⟩
theorem row_keep {W W' : World} {B n : Nat} {v : Value} {xs : List Value} {r : Option Nat} (h : W.ownsRow B 75 5 v n xs) (hg : W.grownBy W' r) (hr : ∀ g, v.ownBlock = some g → r ≠ some g) : W'.ownsRow B 75 5 v n xs :=
  h.kept hg (by
    cases hv : v.ownBlock with
    | none => exact .inl rfl
    | some g => exact .inr (fun e => hr g hv e.symm))
end Go.Proofs.Ytmmmadehifajlaa.plc
