/-
  What impl.readPlace answers and leaves. Conditions: a text of at most 20,000 bytes, a place within it.
-/
import Derived.Test.YtmmmadehifajlaaRrB
import Derived.Test.YtmmmadehifajlaaRdNs
import Derived.Test.YtmmmadehifajlaaTextR
import Derived.Test.YtmmmadehifajlaaRdKey
import Derived.Test.YtmmmadehifajlaaCmpI
namespace Go.Proofs.Ytmmmadehifajlaa.plc
open Go.RowKit Go.Joins
open Go.Proofs.Ytmmmadehifajlaa.base Go.Proofs.Ytmmmadehifajlaa.blk Go.Proofs.Ytmmmadehifajlaa.aid
open Go.Proofs.Ytmmmadehifajlaa.row (Rd)
open Go.Proofs.Ytmmmadehifajlaa.rwPlace (cs)
open Go.Proofs.Ytmmmadehifajlaa.num (G T ttup)
open Go.Proofs.Ytmmmadehifajlaa.rdn (setL ptrL ptrL_at nums_any)
open Go.Proofs.Ytmmmadehifajlaa.nbk (rdA rdA_ok rdA_err)
set_option linter.unusedVariables false
set_option linter.unusedSimpArgs false

theorem below_setL {B : Nat} {w : World} (g : Nat) (hg : B ≤ g) : ∀ (l : List Int) (W : World) (o : Nat), Below B w W → Below B w (setL W g o l)
  | [], W, o, h => h
  | z :: l, W, o, h => by
    have := below_setL g hg l (W.setCell ⟨g, o, none⟩ (.int .i64 z)) (o + 1) (h.setCell (p := ⟨g, o, none⟩) hg _)
    exact this
theorem below5r {w w1 : World} {g : Nat} (hb : Below w.heap.size w w1) (hg : w.heap.size ≤ g) (x0 x1 x2 x3 x4 : Value) : Below w.heap.size w (((((w1.setCell ⟨g, 0, none⟩ x0).setCell ⟨g, 1, none⟩ x1).setCell ⟨g, 2, none⟩ x2).setCell ⟨g, 3, none⟩ x3).setCell ⟨g, 4, none⟩ x4) :=
  ((((hb.setCell (p := ⟨g, 0, none⟩) hg x0).setCell (p := ⟨g, 1, none⟩) hg x1).setCell (p := ⟨g, 2, none⟩) hg x2).setCell (p := ⟨g, 3, none⟩) hg x3).setCell (p := ⟨g, 4, none⟩) hg x4
theorem numS_err {s : ByteArray} {a : Nat} {c : Int} (h : G s (a : Int) = .error c) : numS s (a, false) = (0, (a, true)) := by unfold numS; simp only [Bool.false_eq_true, if_false, h]
/-- three numbers, one behind the other -/
theorem three_no {s : ByteArray} {p : Nat} (h : rdA s 3 p [] = none) : (numS s (numS s (numS s (p, false)).2).2).2.2 = true := by
  cases h1 : G s (p : Int) with
  | error c => rw [numS_err h1]; simp only; rw [numS_bad]; simp only; rw [numS_bad]
  | ok r =>
    obtain ⟨n1, p1⟩ := r
    obtain ⟨P1, rfl, _, e1⟩ := numS_yes s p n1 p1 h1
    rw [rdA_ok h1] at h
    rw [e1]
    simp only
    cases h2 : G s (P1 : Int) with
    | error c => rw [numS_err h2]; simp only; rw [numS_bad]
    | ok r =>
      obtain ⟨n2, p2⟩ := r
      obtain ⟨P2, rfl, _, e2⟩ := numS_yes s P1 n2 p2 h2
      rw [rdA_ok h2] at h
      rw [e2]
      simp only
      cases h3 : G s (P2 : Int) with
      | error c => rw [numS_err h3]
      | ok r =>
        obtain ⟨n3, p3⟩ := r
        obtain ⟨P3, rfl, _, e3⟩ := numS_yes s P2 n3 p3 h3
        rw [rdA_ok h3] at h
        simp [rdA] at h
theorem three_yes {s : ByteArray} {p q : Nat} {l : List Int} (h : rdA s 3 p [] = some (l, q)) : ∃ n1 n2 n3, l = [n1, n2, n3] ∧ (numS s (p, false)).1 = n1 ∧ (numS s (numS s (p, false)).2).1 = n2 ∧ numS s (numS s (numS s (p, false)).2).2 = (n3, (q, false)) := by
  cases h1 : G s (p : Int) with
  | error c => rw [rdA_err h1] at h; cases h
  | ok r =>
    obtain ⟨n1, p1⟩ := r
    obtain ⟨P1, rfl, _, e1⟩ := numS_yes s p n1 p1 h1
    rw [rdA_ok h1] at h
    rw [e1]
    simp only
    cases h2 : G s (P1 : Int) with
    | error c => rw [rdA_err h2] at h; cases h
    | ok r =>
      obtain ⟨n2, p2⟩ := r
      obtain ⟨P2, rfl, _, e2⟩ := numS_yes s P1 n2 p2 h2
      rw [rdA_ok h2] at h
      rw [e2]
      simp only
      cases h3 : G s (P2 : Int) with
      | error c => rw [rdA_err h3] at h; cases h
      | ok r =>
        obtain ⟨n3, p3⟩ := r
        obtain ⟨P3, rfl, _, e3⟩ := numS_yes s P2 n3 p3 h3
        rw [rdA_ok h3] at h
        simp [rdA] at h
        obtain ⟨rfl, rfl⟩ := h
        exact ⟨n1, n2, n3, rfl, rfl, rfl, e3⟩
theorem place_short {s : ByteArray} {a : Nat} (h : s.size < a + 32) : (placeS s (a, false)).2.2 = true := by
  have e : bytS s (a, false) = (⟨#[]⟩, (a, true)) := by unfold bytS; rw [if_pos (.inr h)]
  unfold placeS
  rw [e]
  simp only
  rw [txtS_bad]
  simp only
  rw [numS_bad]
  simp only
  rw [numS_bad]
  simp only
  rw [numS_bad]
theorem bytS_yes {s : ByteArray} {a : Nat} (h : ¬ s.size < a + 32) : bytS s (a, false) = (s.extract a (a + 32), (a + 32, false)) := by unfold bytS; rw [if_neg (by simp; omega)]
theorem place_text {s : ByteArray} {a : Nat} {c : Int} (h : ¬ s.size < a + 32) (hT : T s ((a + 32 : Nat) : Int) = .error c) : (placeS s (a, false)).2.2 = true := by
  have e : txtS s (a + 32, false) = (⟨#[]⟩, (a + 32, true)) := by unfold txtS; simp only [Bool.false_eq_true, if_false, hT]
  unfold placeS
  rw [bytS_yes h]
  simp only
  rw [e]
  simp only
  rw [numS_bad]
  simp only
  rw [numS_bad]
  simp only
  rw [numS_bad]
theorem place_nums {s t : ByteArray} {a P : Nat} (h : ¬ s.size < a + 32) (hT : txtS s (a + 32, false) = (t, (P, false))) (hn : rdA s 3 P [] = none) : (placeS s (a, false)).2.2 = true := by
  unfold placeS
  rw [bytS_yes h]
  simp only
  rw [hT]
  exact three_no hn
theorem place_yes {s t : ByteArray} {a P q : Nat} {n1 n2 n3 : Int} (h : ¬ s.size < a + 32) (hT : txtS s (a + 32, false) = (t, (P, false))) (hn : rdA s 3 P [] = some ([n1, n2, n3], q)) : placeS s (a, false) = ((s.extract a (a + 32), t, n1, n2, n3), (q, false)) := by
  obtain ⟨m1, m2, m3, e0, e1, e2, e3⟩ := three_yes hn
  simp at e0
  obtain ⟨rfl, rfl, rfl⟩ := e0
  unfold placeS
  rw [bytS_yes h]
  simp only
  rw [hT]
  simp only
  rw [e3, e1, e2]
/-- what readPlace answers and leaves -/
def PlPost (s : ByteArray) (a : Nat) (w : World) (e : Ending) (w' : World) : Prop :=
  ((∃ (x0 x1 : ByteArray) (x2 x3 x4 : Int) (q : Nat), placeS s (a, false) = ((x0, x1, x2, x3, x4), (q, false)) ∧ e = .returned (.tuple #[.agg #[.string x0, .string x1, .int .i64 x2, .int .i64 x3, .int .i64 x4], .int .i64 (q : Int), .nilIface])) ∨
   ((placeS s (a, false)).2.2 = true ∧ ∃ T v, e = .returned (.tuple #[.agg #[.string ⟨#[]⟩, .string ⟨#[]⟩, .int .i64 0, .int .i64 0, .int .i64 0], .int .i64 0, .iface T v]))) ∧ Below w.heap.size w w'
theorem pl_no {s : ByteArray} {a : Nat} {w w' : World} (T : TypeId) (v : Value) (h : (placeS s (a, false)).2.2 = true) (hb : Below w.heap.size w w') : PlPost s a w (.returned (.tuple #[.agg #[.string ⟨#[]⟩, .string ⟨#[]⟩, .int .i64 0, .int .i64 0, .int .i64 0], .int .i64 0, .iface T v])) w' := ⟨.inr ⟨h, T, v, rfl⟩, hb⟩
theorem ptr_rd {w : World} {hb g : Nat} (h : w.heap[hb]? = some (.cells #[.pointer (some ⟨g, 2, none⟩), .pointer (some ⟨g, 3, none⟩), .pointer (some ⟨g, 4, none⟩)] 105)) : Rd w (some ⟨hb, 0, none⟩) (ptrL g 2 3) := by
  intro i u hi
  refine ⟨hb, 0, rfl, ?_⟩
  have h1 := cel3 h
  have hlt : i < 3 := by have := (List.getElem?_eq_some_iff.1 hi).1; simpa [ptrL] using this
  rw [ptrL_at _ _ _ _ hlt] at hi
  cases hi
  rcases (show i = 0 ∨ i = 1 ∨ i = 2 by omega) with rfl | rfl | rfl
  · exact h1.1
  · exact h1.2.1
  · exact h1.2.2
theorem five_z {w : World} : Below w.heap.size w ((w.alloc (.cells #[.string ⟨#[]⟩, .string ⟨#[]⟩, .int .i64 0, .int .i64 0, .int .i64 0] 75)).alloc (.cells #[.string ⟨#[]⟩, .string ⟨#[]⟩, .int .i64 0, .int .i64 0, .int .i64 0] 75)) := (below_alloc1 w _).alloc (by simp) _
set_option maxRecDepth 100000 in
set_option maxHeartbeats 4000000 in
theorem readPlace_any (s : ByteArray) (a : Nat) (w : World) (hs : s.size ≤ 20000) (ha : a ≤ s.size) :
    Calls Try.prog 46 #[.string s, .int .i64 (a : Int)] w (PlPost s a w) := by
  have hsi : (s.size : Int) ≤ 20000 := by omega
  have hai : (a : Int) ≤ 20000 := by omega
  have B0 : Hid (Below w.heap.size w ((w.alloc (.cells #[.string ⟨#[]⟩, .string ⟨#[]⟩, .int .i64 0, .int .i64 0, .int .i64 0] 75)).alloc (.cells #[.string ⟨#[]⟩, .string ⟨#[]⟩, .int .i64 0, .int .i64 0, .int .i64 0] 75))) := mkHid five_z
  have r0 := mkHid (blk_old (blk_new w (.cells #[.string ⟨#[]⟩, .string ⟨#[]⟩, .int .i64 0, .int .i64 0, .int .i64 0] 75) w.heap.size rfl) (.cells #[.string ⟨#[]⟩, .string ⟨#[]⟩, .int .i64 0, .int .i64 0, .int .i64 0] 75))
  have p0 := mkHid (blk_new (w.alloc (.cells #[.string ⟨#[]⟩, .string ⟨#[]⟩, .int .i64 0, .int .i64 0, .int .i64 0] 75)) (.cells #[.string ⟨#[]⟩, .string ⟨#[]⟩, .int .i64 0, .int .i64 0, .int .i64 0] 75) (w.heap.size + 1) (by simp))
  have sz0 : ((w.alloc (.cells #[.string ⟨#[]⟩, .string ⟨#[]⟩, .int .i64 0, .int .i64 0, .int .i64 0] 75)).alloc (.cells #[.string ⟨#[]⟩, .string ⟨#[]⟩, .int .i64 0, .int .i64 0, .int .i64 0] 75)).heap.size = w.heap.size + 2 := by simp
  by_cases hlt : s.size < a + 32
  · have HK := mkHid (rdk.key_no s a ((w.alloc (.cells #[.string ⟨#[]⟩, .string ⟨#[]⟩, .int .i64 0, .int .i64 0, .int .i64 0] 75)).alloc (.cells #[.string ⟨#[]⟩, .string ⟨#[]⟩, .int .i64 0, .int .i64 0, .int .i64 0] 75)) hs ha hlt)
    have HE := mkHid (place_short hlt)
    obtain ⟨y0, y1, y2, y3, y4⟩ := cel5 p0.out
    have uy := unfrozen p0.out
    obtain ⟨z0, z1, z2, z3, z4⟩ := cel5 r0.out
    have uf := unfrozen r0.out
    have F := mkHid (pl_no (w := w) 129 (.agg #[.int .i64 4]) HE.out B0.out)
    clear HE B0 r0 p0 sz0
    go_enter Try.func46, Try.ntmps46
    go_wp2_with fail
    refine HK.out.mono ?_
    rintro e w1 ⟨rfl, rfl⟩
    clear HK
    go_wp2
    refine bodyPost_ret (v := .tuple #[.agg #[.string ⟨#[]⟩, .string ⟨#[]⟩, .int .i64 0, .int .i64 0, .int .i64 0], .int .i64 0, .iface 129 (.agg #[.int .i64 4])]) ?_ rfl ?_
    rotate_left
    · exact F.out
    · simp [results, Try.results46, go_sem, z0, z1, z2, z3, z4]
  have HK := mkHid (rdk.key_yes s a ((w.alloc (.cells #[.string ⟨#[]⟩, .string ⟨#[]⟩, .int .i64 0, .int .i64 0, .int .i64 0] 75)).alloc (.cells #[.string ⟨#[]⟩, .string ⟨#[]⟩, .int .i64 0, .int .i64 0, .int .i64 0] 75)) hs (by omega))
  have HT := mkHid (fun wx => num.rtext_any s ((a + 32 : Nat) : Int) wx (by omega) (by omega) (by omega))
  have e32 : ((a + 32 : Nat) : Int) = (a : Int) + 32 := by omega
  cases hT : T s ((a + 32 : Nat) : Int) with
  | error c =>
    rw [hT] at HT
    rw [e32] at HT
    have HE := mkHid (place_text hlt hT)
    clear hT e32
    go_enter Try.func46, Try.ntmps46
    go_wp2_with fail
    refine HK.out.mono ?_
    rintro e w1 ⟨rfl, hb⟩
    have B1 := mkHid ((below_trans B0.out hb).setCell (p := ⟨w.heap.size + 1, 0, none⟩) (by simp) (.string (s.extract a (a + 32))))
    have r1 := mkHid (blk_set (blk_below r0.out hb) ⟨w.heap.size + 1, 0, none⟩ (.string (s.extract a (a + 32))) (by simp))
    have p1 := blk_below p0.out hb
    have p2 : Hid ((w1.setCell ⟨w.heap.size + 1, 0, none⟩ (.string (s.extract a (a + 32)))).heap[w.heap.size + 1]? = some (.cells #[.string (s.extract a (a + 32)), .string ⟨#[]⟩, .int .i64 0, .int .i64 0, .int .i64 0] 75)) := mkHid (by have h := heap_setCell_same w1 (w.heap.size + 1) 0 _ _ (.string (s.extract a (a + 32))) p1; simpa using h)
    obtain ⟨y0, y1, y2, y3, y4⟩ := cel5 p1
    have uy := unfrozen p1
    clear hb p1 p0 r0 B0 HK sz0
    go_wp2_with fail
    clear y0 y1 y2 y3 y4 uy
    generalize w1.setCell ⟨w.heap.size + 1, 0, none⟩ (.string (s.extract a (a + 32))) = W1 at *
    refine (HT.out _).mono ?_
    rintro e w2 ⟨rfl, hb⟩
    have B2 := mkHid (below_trans B1.out hb)
    have r2 := mkHid (blk_below r1.out hb)
    have p3 := blk_below p2.out hb
    obtain ⟨y0, y1, y2, y3, y4⟩ := cel5 p3
    have uy := unfrozen p3
    have r3 := blk_set r2.out ⟨w.heap.size + 1, 1, none⟩ (.string ⟨#[]⟩) (by simp)
    obtain ⟨z0, z1, z2, z3, z4⟩ := cel5 r3
    have uf := unfrozen r3
    have F := mkHid (pl_no (w := w) 129 (.agg #[.int .i64 c]) HE.out (below5r (B2.out.setCell (p := ⟨w.heap.size + 1, 1, none⟩) (by simp) (.string ⟨#[]⟩)) (Nat.le_refl _) (.string ⟨#[]⟩) (.string ⟨#[]⟩) (.int .i64 0) (.int .i64 0) (.int .i64 0)))
    clear hb B1 r1 p2 p3 HT HE B2 r2 r3
    unfold ttup
    go_wp2
    refine bodyPost_ret (v := .tuple #[.agg #[.string ⟨#[]⟩, .string ⟨#[]⟩, .int .i64 0, .int .i64 0, .int .i64 0], .int .i64 0, .iface 129 (.agg #[.int .i64 c])]) ?_ rfl ?_
    rotate_left
    · exact F.out
    · simp [results, Try.results46, go_sem, z0, z1, z2, z3, z4]
  | ok r =>
    obtain ⟨t, p⟩ := r
    obtain ⟨P, rfl, hP, hTx⟩ := txtS_yes s (a + 32) t p hT
    rw [hT] at HT
    rw [e32] at HT
    have hPi : (P : Int) ≤ 20000 := by omega
    have HX := mkHid hTx
    clear hT e32 hTx
    go_enter Try.func46, Try.ntmps46
    go_wp2_with fail
    refine HK.out.mono ?_
    rintro e w1 ⟨rfl, hb⟩
    have B1 := mkHid ((below_trans B0.out hb).setCell (p := ⟨w.heap.size + 1, 0, none⟩) (by simp) (.string (s.extract a (a + 32))))
    have r1 := mkHid (blk_set (blk_below r0.out hb) ⟨w.heap.size + 1, 0, none⟩ (.string (s.extract a (a + 32))) (by simp))
    have p1 := blk_below p0.out hb
    have p2 : Hid ((w1.setCell ⟨w.heap.size + 1, 0, none⟩ (.string (s.extract a (a + 32)))).heap[w.heap.size + 1]? = some (.cells #[.string (s.extract a (a + 32)), .string ⟨#[]⟩, .int .i64 0, .int .i64 0, .int .i64 0] 75)) := mkHid (by have h := heap_setCell_same w1 (w.heap.size + 1) 0 _ _ (.string (s.extract a (a + 32))) p1; simpa using h)
    obtain ⟨y0, y1, y2, y3, y4⟩ := cel5 p1
    have uy := unfrozen p1
    clear hb p1 p0 r0 B0 HK sz0
    go_wp2_with fail
    clear y0 y1 y2 y3 y4 uy
    generalize w1.setCell ⟨w.heap.size + 1, 0, none⟩ (.string (s.extract a (a + 32))) = W1 at *
    refine (HT.out _).mono ?_
    rintro e w2 ⟨rfl, hb⟩
    have hQ2 : w.heap.size + 1 < w2.heap.size := (Array.getElem?_eq_some_iff.1 (blk_below p2.out hb)).1
    have hR : w.heap.size ≠ w.heap.size + 1 := by omega
    have hQ0 : w.heap.size ≤ w.heap.size + 1 := by omega
    generalize hQ : w.heap.size + 1 = Q at *
    have B2 := mkHid ((below_trans B1.out hb).setCell (p := ⟨Q, 1, none⟩) hQ0 (.string t))
    have b2 := mkHid (blk_set (blk_below r1.out hb) ⟨Q, 1, none⟩ (.string t) hR)
    have p3 := blk_below p2.out hb
    obtain ⟨y0, y1, y2, y3, y4⟩ := cel5 p3
    have uy := unfrozen p3
    have p4 : Hid ((w2.setCell ⟨Q, 1, none⟩ (.string t)).heap[Q]? = some (.cells #[.string (s.extract a (a + 32)), .string t, .int .i64 0, .int .i64 0, .int .i64 0] 75)) := mkHid (by have h := heap_setCell_same w2 Q 1 _ _ (.string t) p3; simpa using h)
    have sz2 : (w2.setCell ⟨Q, 1, none⟩ (.string t)).heap.size = w2.heap.size := by simp
    have HNs := mkHid (nums_any s P w2.heap.size 3 3 Q 2 _ _ ((w2.setCell ⟨Q, 1, none⟩ (.string t)).alloc (.cells #[.pointer (some ⟨Q, 2, none⟩), .pointer (some ⟨Q, 3, none⟩), .pointer (some ⟨Q, 4, none⟩)] 105)) hs hP (by omega) (ptr_rd (blk_new (w2.setCell ⟨Q, 1, none⟩ (.string t)) _ w2.heap.size sz2.symm)) (by omega) (blk_old p4.out _) (by simp))
    clear hb B1 r1 p2 p3 HT hQ
    unfold ttup
    go_wp2_with fail
    refine HNs.out.mono ?_
    rintro e w3 (⟨q, l, rfl, hrd, hlen, hq, hw3⟩ | ⟨TT, v, l, rfl, hrd, hlen, hw3⟩)
    · obtain ⟨n1, n2, n3, rfl, _⟩ := three_yes hrd
      have hbw : Below w.heap.size w w3 := by rw [hw3]; exact below_setL Q hQ0 _ _ _ (B2.out.alloc B2.out.size _)
      have hbz : w3.heap[w.heap.size]? = some (.cells #[.string ⟨#[]⟩, .string ⟨#[]⟩, .int .i64 0, .int .i64 0, .int .i64 0] 75) := by rw [hw3, rdn.setL_block _ _ _ _ _ hR]; exact blk_old b2.out _
      have hpz : w3.heap[Q]? = some (.cells #[.string (s.extract a (a + 32)), .string t, .int .i64 n1, .int .i64 n2, .int .i64 n3] 75) := by
        rw [hw3]
        have h1 := heap_setCell_same _ Q 4 _ _ (.int .i64 n3) (heap_setCell_same _ Q 3 _ _ (.int .i64 n2) (heap_setCell_same _ Q 2 _ _ (.int .i64 n1) (blk_old p4.out (.cells #[.pointer (some ⟨Q, 2, none⟩), .pointer (some ⟨Q, 3, none⟩), .pointer (some ⟨Q, 4, none⟩)] 105))))
        simpa [setL] using h1
      clear y0 y1 y2 y3 y4 uy
      obtain ⟨y0, y1, y2, y3, y4⟩ := cel5 hpz
      obtain ⟨z0, z1, z2, z3, z4⟩ := cel5 hbz
      have uf := unfrozen hbz
      have F : Hid (PlPost s a w (.returned (.tuple #[.agg #[.string (s.extract a (a + 32)), .string t, .int .i64 n1, .int .i64 n2, .int .i64 n3], .int .i64 (q : Int), .nilIface])) _) := mkHid ⟨.inl ⟨_, _, _, _, _, q, place_yes hlt HX.out hrd, rfl⟩, below5r hbw (Nat.le_refl _) (.string (s.extract a (a + 32))) (.string t) (.int .i64 n1) (.int .i64 n2) (.int .i64 n3)⟩
      clear hbw hbz hpz hw3 hrd HNs B2 b2 p4 HX hq hlen
      go_wp2
      refine bodyPost_ret (v := .tuple #[.agg #[.string (s.extract a (a + 32)), .string t, .int .i64 n1, .int .i64 n2, .int .i64 n3], .int .i64 (q : Int), .nilIface]) ?_ rfl ?_
      rotate_left
      · exact F.out
      · simp [results, Try.results46, go_sem, z0, z1, z2, z3, z4]
    · have hbw : Below w.heap.size w w3 := by rw [hw3]; exact below_setL Q hQ0 _ _ _ (B2.out.alloc B2.out.size _)
      have hbz : w3.heap[w.heap.size]? = some (.cells #[.string ⟨#[]⟩, .string ⟨#[]⟩, .int .i64 0, .int .i64 0, .int .i64 0] 75) := by rw [hw3, rdn.setL_block _ _ _ _ _ hR]; exact blk_old b2.out _
      obtain ⟨z0, z1, z2, z3, z4⟩ := cel5 hbz
      have uf := unfrozen hbz
      have F := mkHid (pl_no TT v (place_nums hlt HX.out hrd) (below5r hbw (Nat.le_refl _) (.string ⟨#[]⟩) (.string ⟨#[]⟩) (.int .i64 0) (.int .i64 0) (.int .i64 0)))
      clear hbw hbz hw3 hrd HNs B2 b2 p4 HX hlen uy
      go_wp2
      refine bodyPost_ret (v := .tuple #[.agg #[.string ⟨#[]⟩, .string ⟨#[]⟩, .int .i64 0, .int .i64 0, .int .i64 0], .int .i64 0, .iface TT v]) ?_ rfl ?_
      rotate_left
      · exact F.out
      · simp [results, Try.results46, go_sem, z0, z1, z2, z3, z4]
end Go.Proofs.Ytmmmadehifajlaa.plc
