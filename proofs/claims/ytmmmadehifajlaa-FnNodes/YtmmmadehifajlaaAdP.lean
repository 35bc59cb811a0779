/-
  What spec.l10Put and spec.l10Copy answer and leave. Conditions: places that lie in memory, in a slice that holds them.
-/
import Derived.Test.YtmmmadehifajlaaPlRow
import Derived.Test.YtmmmadehifajlaaPlRS
namespace Go.Proofs.Ytmmmadehifajlaa.plc
open Go.RowKit Go.Joins Go.Sort
open Go.Proofs.Ytmmmadehifajlaa.base Go.Proofs.Ytmmmadehifajlaa.blk Go.Proofs.Ytmmmadehifajlaa.aid
open Go.Proofs.Ytmmmadehifajlaa.row (Rd Own OwnV appSem app_fold)
open Go.Proofs.Ytmmmadehifajlaa.rwPlace (cs el)
set_option linter.unusedVariables false
set_option linter.unusedSimpArgs false
attribute [local go_sem ↓] app_fold slice_fold

theorem own_rd {w : World} {base T n size c : Nat} {a : Option Addr} {xs : List Value} (h : w.ownsRow base T size (.slice a n c) n xs) : Rd w a xs := by
  rcases h.2 with ⟨h1, h2⟩ | ⟨g, cap, cur, h1, _⟩
  · have h3 := h.1
    rw [h2, Nat.zero_mul] at h3
    have := List.eq_nil_of_length_eq_zero h3
    subst this
    exact Rd.nil _ _
  · simp at h1
    obtain ⟨rfl, _⟩ := h1
    exact (OwnV.rd (.inr ⟨g, rfl, Own.owns h⟩))
theorem empty_row (w : World) : (w.alloc (.cells #[] 75)).ownsRow w.heap.size 75 5 (.slice (some ⟨w.heap.size, 0, none⟩) 0 0) 0 (cs []) :=
  World.ownsRow_made (size := 5) w #[] 0 (Nat.le_refl _) (by unfold maxLen; omega) rfl
/-- first places, one, and the rest, in a row of our own -/
theorem three (a : Option Addr) (c : Nat) (l : List Pl) (x0 x1 : ByteArray) (x2 x3 x4 : Int) (k : Nat) (w : World) (hk : k ≤ l.length) (hl : l.length ≤ 1048576) (hc : l.length ≤ c) (hr : Rd w a (cs l)) :
    ∃ a1 c1 w1 a2 c2 w2 a3 c3 w3, (appSem #[32, 32] 32 #[.slice (some ⟨w.heap.size, 0, none⟩) 0 0, .slice a k c]).run Try.prog (w.alloc (.cells #[] 75)) = .ok (.slice a1 k c1) w1 ∧
      (appSem #[32, 32] 32 #[.slice a1 k c1, .slice (some ⟨w1.heap.size, 0, none⟩) 1 1]).run Try.prog (w1.alloc (.cells #[.string x0, .string x1, .int .i64 x2, .int .i64 x3, .int .i64 x4] 75)) = .ok (.slice a2 (k + 1) c2) w2 ∧
      (appSem #[32, 32] 32 #[.slice a2 (k + 1) c2, .slice (lo a k c) (l.length - k) (c - k)]).run Try.prog w2 = .ok (.slice a3 (k + 1 + (l.length - k)) c3) w3 ∧
      Rd w3 a3 (cs (l.take k ++ [(x0, x1, x2, x3, x4)] ++ l.drop k)) ∧ (∀ b o s, a3 = some ⟨b, o, s⟩ → w.heap.size ≤ b) ∧ Below w.heap.size w w3 ∧ k + 1 + (l.length - k) ≤ c3 ∧ Below w.heap.size w w1 := by
  have hB0 := below_alloc1 w (.cells #[] 75)
  have q1 : (l.take k).length = k := by simp; omega
  obtain ⟨v1, w1, happ1, hown1, hgr1⟩ := appRP (w.alloc (.cells #[] 75)) w.heap.size _ 0 [] (empty_row w) hB0.size a c (l.take k) (rd_take (hr.alloc _) k) (by omega)
  rw [q1, Nat.zero_add] at hown1
  rw [q1] at happ1
  obtain ⟨a1, c1, rfl⟩ := slice_of hown1
  have hB1 : Below w.heap.size w w1 := hB0.grown hgr1 hB0.size (fun j hj => ((empty_row w).lt j hj).1)
  obtain ⟨g2, c2, w2, happ2, hown2, hgr2⟩ := rwPlace.app (W := w1) (base := w.heap.size) (.slice a1 k c1) k (l.take k) x0 x1 x2 x3 x4 q1 hown1 hB1.size (by omega)
  have hB1' : Below w.heap.size w (w1.alloc (.cells #[.string x0, .string x1, .int .i64 x2, .int .i64 x3, .int .i64 x4] 75)) := hB1.alloc hB1.size _
  have hB2 : Below w.heap.size w w2 := hB1'.grown hgr2 hB1'.size (fun j hj => (hown1.lt j hj).1)
  have q3 : (l.drop k).length = l.length - k := by simp
  obtain ⟨v3, w3, happ3, hown3, hgr3⟩ := appRP w2 w.heap.size _ (k + 1) (l.take k ++ [(x0, x1, x2, x3, x4)]) hown2 hB2.size (lo a k c) (c - k) (l.drop k) (rd_drop (hr.below hB2) k hk hc) (by omega)
  rw [q3] at happ3 hown3
  obtain ⟨a3, c3, rfl⟩ := slice_of hown3
  have hB3 : Below w.heap.size w w3 := hB2.grown hgr3 hB2.size (fun j hj => (hown2.lt j hj).1)
  exact ⟨a1, c1, w1, _, c2, w2, a3, c3, w3, happ1, happ2, happ3, own_rd hown3, fun b o s e => (hown3.lt b (by rw [e]; rfl)).1, hB3, (cap_of hown3).2, hB1⟩
/-- places that can be read are the answer: the argument's own or fresh ones -/
def PtPost (w : World) (a : Option Addr) (ts : List Pl) (e : Ending) (w' : World) : Prop :=
  ∃ a' c', e = .returned (.slice a' ts.length c') ∧ Rd w' a' (cs ts) ∧ (a' = a ∨ ∀ b o s, a' = some ⟨b, o, s⟩ → w.heap.size ≤ b) ∧ Below w.heap.size w w' ∧ ts.length ≤ c'
theorem pt_of {w w' : World} {a a' : Option Addr} {ts : List Pl} {n c' : Nat} (hn : ts.length = n) (hr : Rd w' a' (cs ts)) (hf : a' = a ∨ ∀ b o s, a' = some ⟨b, o, s⟩ → w.heap.size ≤ b) (hb : Below w.heap.size w w') (hc : n ≤ c') : PtPost w a ts (.returned (.slice a' n c')) w' := by
  subst hn
  exact ⟨a', c', rfl, hr, hf, hb, hc⟩
theorem put_ins {l : List Pl} {x : Pl} {k : Nat} (hk : spot x l 0 = k) (h : ∀ f, l[k]? = some f → lessP x f = true) : put l x = l.take k ++ [x] ++ l.drop k := by
  subst hk
  unfold put
  cases hg : l[spot x l 0]? with
  | none => rfl
  | some f => simp only [h f hg, if_true]
theorem put_old {l : List Pl} {x f : Pl} {k : Nat} (hk : spot x l 0 = k) (hf : l[k]? = some f) (h : lessP x f = false) : put l x = l := by
  subst hk
  unfold put
  rw [hf]
  simp [h]
theorem ins_len (l : List Pl) (x : Pl) (k : Nat) (hk : k ≤ l.length) : (l.take k ++ [x] ++ l.drop k).length = k + 1 + (l.length - k) := by simp; omega
end Go.Proofs.Ytmmmadehifajlaa.plc
