/-
  What laws.eqPlacesOut, markPlacesOut and heldPlacesOut answer and leave. Conditions: at most 1,048,576 places.
-/
import Derived.Test.YtmmmadehifajlaaAdO
import Derived.Test.YtmmmadehifajlaaMem
namespace Go.Proofs.Ytmmmadehifajlaa.plc
open Go.RowKit Go.Joins
open Go.Proofs.Ytmmmadehifajlaa.base Go.Proofs.Ytmmmadehifajlaa.blk Go.Proofs.Ytmmmadehifajlaa.aid
open Go.Proofs.Ytmmmadehifajlaa.row (Rd Own OwnV)
open Go.Proofs.Ytmmmadehifajlaa.rwPlace (cs szF me SPost)
set_option linter.unusedVariables false
set_option linter.unusedSimpArgs false

theorem me_ne {n : Nat} {l : List Pl} (hn : l.length = n) (h : cs (me 1 n) ≠ []) : cs l ≠ [] := by
  intro e
  have := rwPlace.cs_zero e
  subst this
  simp at hn
  subst hn
  exact h rfl
theorem me_neM {k n : Nat} {l : List Pl} (hn : l.length = n) (h : cs (me k n) ≠ []) : cs l ≠ [] := by
  intro e
  have := rwPlace.cs_zero e
  subst this
  simp at hn
  subst hn
  exact h rfl
theorem mark_at (a : Option Addr) (cap : Nat) (l : List Pl) (m : Nat) (k : Int) (w : World) (hk : (m : Int) = k) (hl : l.length ≤ 1048576) (hm1 : m ≤ 8000000) (hr : OwnV 75 w a (cs l)) :
    Calls Try.prog 49 #[.slice a l.length cap, .int .i64 k] w fun e w' => e = .returned (.int .i64 (k + 5 * l.length)) ∧ OwnV 75 w' a (cs (me m l.length)) ∧ ∃ r, w.grownBy w' r ∧ ∀ b, r = some b → cs l ≠ [] ∧ ∃ o s, a = some ⟨b, o, s⟩ := by
  subst hk
  exact rwPlace.mark_any a cap l m w hl hm1 hr
theorem grew_alloc (w : World) (o : Obj) (r : Option Nat) : w.grownBy (w.alloc o) r := below_grew (below_alloc1 w o) r
set_option maxRecDepth 100000 in
theorem eqOuts_same (a b : Option Addr) (ca cb : Nat) (l : List Pl) (q : Int) (w : World) (hl : l.length ≤ 1048576) (ha : Rd w a (cs l)) (hb : Rd w b (cs l)) :
    Calls Try.prog 17 #[.agg #[.slice a l.length ca, .int .i64 q], .agg #[.slice b l.length cb, .int .i64 q]] w fun e w' => e = .returned (.bool true) ∧ Below w.heap.size w w' := by
  have B0 := mkHid (rwPlace.below2 w (.cells #[.slice a l.length ca, .int .i64 q] 34) (.cells #[.slice b l.length cb, .int .i64 q] 34))
  have b1 := mkHid (blk_old (blk_new w (.cells #[.slice a l.length ca, .int .i64 q] 34) w.heap.size rfl) (.cells #[.slice b l.length cb, .int .i64 q] 34))
  have b2 := mkHid (blk_new (w.alloc (.cells #[.slice a l.length ca, .int .i64 q] 34)) (.cells #[.slice b l.length cb, .int .i64 q] 34) (w.heap.size + 1) (by simp))
  have HE := mkHid (rwPlace.eqS_same a b ca cb l _ hl (ha.below B0.out) (hb.below B0.out))
  have h5 : (q != q) = false := by simp
  clear ha hb
  go_enter Try.func17, Try.ntmps17
  go_wp2_with fail
  refine HE.out.mono ?_
  rintro e w1 ⟨rfl, hb⟩
  obtain ⟨_, c5⟩ := cel2 (blk_below b1.out hb)
  obtain ⟨_, d5⟩ := cel2 (blk_below b2.out hb)
  have B1 := mkHid (below_trans B0.out hb)
  clear hb b1 b2 B0 HE
  go_wp2
  go_ret
  exact ⟨rfl, B1.out⟩
set_option maxRecDepth 100000 in
theorem markOut_any (a : Option Addr) (cap : Nat) (l : List Pl) (q : Int) (w : World) (hl : l.length ≤ 1048576) (hr : OwnV 75 w a (cs l)) :
    Calls Try.prog 18 #[.agg #[.slice a l.length cap, .int .i64 q], .int .i64 1] w fun e w' => e = .returned (.int .i64 (1 + 5 * l.length)) ∧ OwnV 75 w' a (cs (me 1 l.length)) ∧ ∃ r, w.grownBy w' r ∧ ∀ b, r = some b → cs l ≠ [] ∧ ∃ o s, a = some ⟨b, o, s⟩ := by
  have HM := mkHid (mark_at a cap l 1 1 (w.alloc (.cells #[.slice a l.length cap, .int .i64 q] 34)) rfl hl (by omega) (mem.own_off hr (grew_alloc w _ none) (fun _ e => by cases e)))
  clear hr
  go_enter Try.func18, Try.ntmps18
  go_wp2_with fail
  refine HM.out.mono ?_
  rintro e w1 ⟨rfl, ho, r, hg, hq⟩
  have F := mkHid (And.intro ho (And.intro (World.grownBy.andThen (row := r) (grew_alloc w (.cells #[.slice a l.length cap, .int .i64 q] 34) r) hg (fun j hj => .inr hj)) hq))
  clear ho hg hq HM
  go_wp2
  go_ret
  exact ⟨rfl, F.out.1, r, F.out.2⟩
set_option maxRecDepth 100000 in
theorem heldOut_any (a : Option Addr) (cap n : Nat) (q : Int) (w : World) (hl : n ≤ 1048576) (hr : Rd w a (cs (me 1 n))) :
    Calls Try.prog 19 #[.agg #[.slice a n cap, .int .i64 q], .int .i64 1] w fun e w' => e = .returned (.int .i64 (1 + 5 * n)) ∧ Below w.heap.size w w' := by
  have HH := mkHid (rwPlace.held_any a cap n 1 (w.alloc (.cells #[.slice a n cap, .int .i64 q] 34)) hl (by omega) (hr.alloc _))
  have h0 : (((1 : Nat) : Int) + 5 * (n : Int) < 0) = False := eq_false (by omega)
  have h1 : (1 + 5 * (n : Int) < 0) = False := eq_false (by omega)
  clear hr
  go_enter Try.func19, Try.ntmps19
  go_wp2_with fail
  refine HH.out.mono ?_
  rintro e w1 ⟨rfl, hb⟩
  have B1 := mkHid (below_trans (below_alloc1 w (.cells #[.slice a n cap, .int .i64 q] 34)) hb)
  clear hb HH
  go_wp2
  go_ret
  exact ⟨by first | rfl | simp, B1.out⟩
end Go.Proofs.Ytmmmadehifajlaa.plc
