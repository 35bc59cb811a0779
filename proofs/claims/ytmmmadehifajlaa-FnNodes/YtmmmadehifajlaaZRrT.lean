/-
  What spec.PlacesRead answers and leaves. Condition: a text of at most 1,048,576 bytes.
-/
import Derived.Test.YtmmmadehifajlaaZRrA
import Derived.Test.YtmmmadehifajlaaAdO
import Derived.Deep.CutRange
import Derived.Deep.DeepCutAuto
namespace Go.Proofs.Ytmmmadehifajlaa.plc
open Go.RowKit Go.Joins
open Go.Proofs.Ytmmmadehifajlaa.base Go.Proofs.Ytmmmadehifajlaa.blk Go.Proofs.Ytmmmadehifajlaa.aid
open Go.Proofs.Ytmmmadehifajlaa.row (Rd Own OwnV appSem app_fold)
open Go.Proofs.Ytmmmadehifajlaa.rwPlace (cs el)
set_option linter.unusedVariables false
set_option linter.unusedSimpArgs false
attribute [local go_sem ↓] app_fold

theorem numS_le (s : ByteArray) (st : St) (h : st.1 ≤ s.size) : (numS s st).2.1 ≤ s.size := by
  obtain ⟨a, f⟩ := st
  cases f with
  | true => rw [numS_bad]; exact h
  | false =>
    cases hG : num.G s (a : Int) with
    | error c => unfold numS; simp only [Bool.false_eq_true, if_false, hG]; exact h
    | ok r =>
      obtain ⟨P, _, h2, h3⟩ := numS_yes s a r.1 r.2 hG
      rw [h3]
      exact h2
theorem txtS_le (s : ByteArray) (st : St) (h : st.1 ≤ s.size) : (txtS s st).2.1 ≤ s.size := by
  obtain ⟨a, f⟩ := st
  cases f with
  | true => rw [txtS_bad]; exact h
  | false =>
    cases hT : num.T s (a : Int) with
    | error c => unfold txtS; simp only [Bool.false_eq_true, if_false, hT]; exact h
    | ok r =>
      obtain ⟨P, _, h2, h3⟩ := txtS_yes s a r.1 r.2 hT
      rw [h3]
      exact h2
theorem bytS_le (s : ByteArray) (st : St) (h : st.1 ≤ s.size) : (bytS s st).2.1 ≤ s.size := by
  unfold bytS
  split
  · exact h
  · rename_i hn
    simp only [not_or] at hn
    simp only
    omega
/-- what lies there while places are read -/
structure Rk (w : World) (s : ByteArray) (acc : List Pl) (a : Option Addr) (c : Nat) (st : St) (W : World) : Prop where
  below : Below w.heap.size w W
  out : W.heap[w.heap.size]? = some (.cells #[.slice none 0 0, .int .i64 0] 34)
  rdr : W.heap[w.heap.size + 1]? = some (rdO s st)
  row : W.ownsRow (w.heap.size + 2) 75 5 (.slice a acc.length c) acc.length (cs acc)
  lt : w.heap.size + 2 ≤ W.heap.size
theorem Rk.next {w W W' : World} {s : ByteArray} {acc : List Pl} {a : Option Addr} {c : Nat} {st : St} (h : Rk w s acc a c st W) (hb : Below W.heap.size W W') : Rk w s acc a c st W' :=
  ⟨below_trans h.below hb, blk_below h.out hb, blk_below h.rdr hb, row_keep h.row (below_grew hb none) (fun _ _ e => by cases e), Nat.le_trans h.lt hb.size⟩
theorem Rk.call {w W W' : World} {s : ByteArray} {acc : List Pl} {a : Option Addr} {c : Nat} {st st' : St} (h : Rk w s acc a c st W) (hp : RPost W (w.heap.size + 1) s st' W') : Rk w s acc a c st' W' :=
  ⟨h.below.grown hp.grew h.below.size (fun j hj => by cases hj; omega), (hp.grew.block _ (by have := h.lt; omega) (by simp)).trans h.out, hp.at_, row_keep h.row hp.grew (fun g hg e => by have := (h.row.lt g hg).1; simp at e; omega), Nat.le_trans h.lt hp.grew.size⟩
theorem Rk.set {w W : World} {s : ByteArray} {acc : List Pl} {a : Option Addr} {c : Nat} {st : St} (h : Rk w s acc a c st W) (B i : Nat) (v : Value) (hB : w.heap.size + 2 ≤ B) (hn : ∀ g, (Value.slice a acc.length c).ownBlock = some g → g ≠ B) : Rk w s acc a c st (W.setCell ⟨B, i, none⟩ v) :=
  ⟨h.below.setCell (p := ⟨B, i, none⟩) (by show w.heap.size ≤ B; omega) v, blk_set h.out _ _ (by show w.heap.size ≠ B; omega), blk_set h.rdr _ _ (by show w.heap.size + 1 ≠ B; omega), row_keep h.row (grew_cell W B i v) (fun g hg e => hn g hg (by cases e; rfl)), by have := h.lt; have e := (grew_cell W B i v).size; omega⟩
theorem Rk.app {w W : World} {s : ByteArray} {acc : List Pl} {a : Option Addr} {c : Nat} {st : St} (h : Rk w s acc a c st W) (x0 x1 : ByteArray) (x2 x3 x4 : Int) (hl : acc.length ≤ 1048576) :
    ∃ g' c' w2, (appSem #[32, 32] 32 #[.slice a acc.length c, .slice (some ⟨W.heap.size, 0, none⟩) 1 1]).run Try.prog (W.alloc (.cells #[.string x0, .string x1, .int .i64 x2, .int .i64 x3, .int .i64 x4] 75)) = .ok (.slice (some ⟨g', 0, none⟩) (acc.length + 1) c') w2 ∧ Rk w s (acc ++ [(x0, x1, x2, x3, x4)]) (some ⟨g', 0, none⟩) c' st w2 := by
  obtain ⟨g', c', w2, happ, hown, hg⟩ := rwPlace.app (W := W) (base := w.heap.size + 2) (.slice a acc.length c) acc.length acc x0 x1 x2 x3 x4 rfl h.row h.lt hl
  have h1 := h.next (below_alloc1 W (.cells #[.string x0, .string x1, .int .i64 x2, .int .i64 x3, .int .i64 x4] 75))
  have hlen : (acc ++ [(x0, x1, x2, x3, x4)]).length = acc.length + 1 := by rw [List.length_append, List.length_singleton]
  have hoff : ∀ k, k < w.heap.size + 2 → some k ≠ (Value.slice a acc.length c).ownBlock := fun k hk e => by have := (h.row.lt k e.symm).1; omega
  refine ⟨g', c', w2, happ, ⟨h1.below.grown hg h1.below.size (fun j hj => by have := (h.row.lt j hj).1; omega), ?_, ?_, by rw [hlen]; exact hown, Nat.le_trans h1.lt hg.size⟩⟩
  · exact (hg.block _ (by have := h1.lt; omega) (hoff _ (by omega))).trans h1.out
  · exact (hg.block _ (by have := h1.lt; omega) (hoff _ (by omega))).trans h1.rdr
theorem five (W : World) (B i : Nat) (T : TypeId) (c0 c1 c2 c3 c4 v : Value) (h : W.heap[B]? = some (.cells #[c0, c1, c2, c3, c4] T)) : (W.setCell ⟨B, i, none⟩ v).heap[B]? = some (.cells ((#[c0, c1, c2, c3, c4] : Array Value).setIfInBounds i v) T) := heap_setCell_same W B i _ _ _ h
set_option maxRecDepth 100000 in
set_option maxHeartbeats 4000000 in
theorem readS_any (s : ByteArray) (w : World) (hs : s.size ≤ 1048576) :
    Calls Try.prog 15 #[.string s] w (APost w (readA s)) := by
  have hb0 := blk_new w zeroA w.heap.size rfl
  have HB0 := mkHid (below_alloc1 w zeroA)
  unfold zeroA at hb0 HB0
  obtain ⟨z0, z1⟩ := cel2 hb0
  have uf := unfrozen hb0
  have hsi : (s.size : Int) ≤ 1048576 := by omega
  by_cases h1 : 20000 < s.size
  · have F : Hid (APost w (readA s) _ _) := mkHid (apost_new (k := 2) (by unfold readA; rw [if_pos h1]))
    have h1i : (20000 : Int) < (s.size : Int) := by omega
    clear hb0 HB0 z0 z1 uf
    go_enter Try.func15, Try.ntmps15
    go_wp2
    refine bodyPost_ret (v := .agg #[.slice none 0 0, .int .i64 2]) ?_ rfl F.out
    simp [results, Try.results15, go_sem]
  have h1i : (s.size : Int) ≤ 20000 := by omega
  have hs2 : s.size ≤ 20000 := by omega
  cases hn : numS s (0, false) with
  | mk z st0 =>
    have hst0 : st0.1 ≤ s.size := by have := numS_le s (0, false) (Nat.zero_le _); rw [hn] at this; exact this
    obtain ⟨q0, f0⟩ := st0
    simp only at hst0
    have HA : Hid (readA s = fin s (runS s z.toNat (q0, f0 || decide (z < 0) || decide (300 < z)) [])) := mkHid (by unfold readA; rw [if_neg (by omega), hn])
    have K0 : Hid (Rk w s [] (some ⟨w.heap.size + 2, 0, none⟩) 0 (0, false) (((w.alloc zeroA).alloc (rdO s (0, false))).alloc (.cells #[] 75))) := mkHid (by
      have e1 : (w.alloc zeroA).heap.size = w.heap.size + 1 := by simp
      have e2 : ((w.alloc zeroA).alloc (rdO s (0, false))).heap.size = w.heap.size + 2 := by simp
      refine ⟨((below_alloc1 w _).alloc (by omega) _).alloc (by omega) _, blk_old (blk_old (blk_new w zeroA w.heap.size rfl) _) _, blk_old (blk_new (w.alloc zeroA) (rdO s (0, false)) (w.heap.size + 1) e1.symm) _, ?_, by simp⟩
      have := empty_row ((w.alloc zeroA).alloc (rdO s (0, false)))
      rw [e2] at this
      exact this)
    have HN := mkHid (num_any (w.heap.size + 1) s (0, false) _ K0.out.rdr hs2 (by simp))
    rw [hn] at HN
    unfold zeroA rdO at K0 HN
    clear hn hb0 HB0 z0 z1 uf
    go_enter Try.func15, Try.ntmps15
    go_wp2_with fail
    refine HN.out.mono ?_
    rintro e w1 ⟨rfl, hp⟩
    have K1 := mkHid (K0.out.call hp)
    clear hp HN K0
    go_upto_region 6 with fail
    go_cut [22] from 17 to 22 (fun v wx => v = .bool (decide (z < 0) || decide (300 < z)) ∧ wx = w1)
    case first =>
      by_cases hz1 : z < 0
      · go_wp2
        go_meet
        exact ⟨by simp [hz1], rfl⟩
      · have hz1' : 0 ≤ z := by omega
        by_cases hz2 : 300 < z
        · go_wp2
          go_meet
          exact ⟨by simp [hz2], rfl⟩
        · have hz2' : z ≤ 300 := by omega
          go_wp2
          go_meet
          exact ⟨by simp [hz1, hz2], rfl⟩
    case rest =>
    obtain ⟨rfl, rfl⟩ := hcut
    have hgood : Hid ((f0 || decide (z < 0) || decide (300 < z)) = false → 0 ≤ z ∧ z ≤ 300) := mkHid (by intro h; simp at h; omega)
    rw [Bool.or_assoc] at HA hgood
    generalize (decide (z < 0) || decide (300 < z)) = b at *
    go_upto_if 22 with fail
    go_cut [5] from 23 to 25 (fun v wx => v = .int .i64 z ∧ Hid (Rk w s [] (some ⟨w.heap.size + 2, 0, none⟩) 0 (q0, f0 || b) wx))
    case first =>
      obtain ⟨d0, d1, d2⟩ := rdO_cells K1.out.rdr
      simp only at d1 d2
      have uf := unfrozen (show _ = some (Obj.cells _ _) from K1.out.rdr)
      have KB := mkHid (K1.out.call ((RPost.start K1.out.rdr).bad))
      cases b with
      | true =>
        clear K1
        go_wp2
        go_meet
        exact ⟨rfl, by rw [Bool.or_true]; exact KB⟩
      | false =>
        clear KB
        go_wp2
        go_meet
        exact ⟨rfl, by rw [Bool.or_false]; exact K1⟩
    case rest =>
      obtain ⟨rfl, K2⟩ := hcut
      clear K1
      generalize (f0 || b) = fl at *
      go_wp2_with fail
      go_loopw [4, 5] (fun v i wr => ∃ (y : Int) (n : Nat) (acc : List Pl) (a : Option Addr) (c : Nat) (st : St), i = .int .i64 y ∧ v = .slice a acc.length c ∧ st.1 ≤ s.size ∧ Hid (Rk w s acc a c st wr) ∧ Hid (runS s z.toNat (q0, fl) [] = runS s n st acc) ∧ Hid (st.2 = false → y = (n : Int) ∧ acc.length + n ≤ 300))
        (fun _ i _ => (intOf i).toNat)
      case atStart => exact ⟨z, z.toNat, [], _, _, (q0, fl), rfl, rfl, hst0, K2, mkHid rfl, mkHid (fun h => by have := hgood.out h; simp; omega)⟩
      case round =>
        obtain ⟨y, n, acc, a, c, ⟨q, f⟩, rfl, rfl, hq, K, HR, HY⟩ := hrel
        simp only at hq
        clear K2
        obtain ⟨d0, d1, d2⟩ := rdO_cells K.out.rdr
        simp only at d1 d2
        by_cases hgo : 0 < y ∧ f = false
        · obtain ⟨hy, rfl⟩ := hgo
          obtain ⟨hyn, hlen⟩ := HY.out rfl
          subst hyn
          obtain ⟨n', rfl⟩ : ∃ n', n = n' + 1 := ⟨n - 1, by omega⟩
          have hst := HR.out.trans (runS_step s n' q acc)
          have HB1 := mkHid (fun W (h : W.heap[w.heap.size + 1]? = some (rdO s (q, false))) => byt_any (w.heap.size + 1) s (q, false) W h hs2 (by simp only; omega))
          have le1 := bytS_le s (q, false) hq
          have hpl : placeS s (q, false) = placeS s (q, false) := rfl
          unfold placeS at hst
          generalize bytS s (q, false) = r1 at *
          obtain ⟨x0, st1⟩ := r1
          simp only at HB1 le1 hst
          have HT1 := mkHid (fun W (h : W.heap[w.heap.size + 1]? = some (rdO s st1)) => txt_any (w.heap.size + 1) s st1 W h hs2 (by omega))
          have le2 := txtS_le s st1 le1
          generalize txtS s st1 = r2 at *
          obtain ⟨x1, st2⟩ := r2
          simp only at HT1 le2 hst
          have HN1 := mkHid (fun W (h : W.heap[w.heap.size + 1]? = some (rdO s st2)) => num_any (w.heap.size + 1) s st2 W h hs2 (by omega))
          have le3 := numS_le s st2 le2
          generalize numS s st2 = r3 at *
          obtain ⟨x2, st3⟩ := r3
          simp only at HN1 le3 hst
          have HN2 := mkHid (fun W (h : W.heap[w.heap.size + 1]? = some (rdO s st3)) => num_any (w.heap.size + 1) s st3 W h hs2 (by omega))
          have le4 := numS_le s st3 le3
          generalize numS s st3 = r4 at *
          obtain ⟨x3, st4⟩ := r4
          simp only at HN2 le4 hst
          have HN3 := mkHid (fun W (h : W.heap[w.heap.size + 1]? = some (rdO s st4)) => num_any (w.heap.size + 1) s st4 W h hs2 (by omega))
          have le5 := numS_le s st4 le4
          generalize numS s st4 = r5 at *
          obtain ⟨x4, st5⟩ := r5
          simp only at HN3 le5 hst
          have HS := mkHid hst
          have hlen' : acc.length ≤ 299 := by omega
          have hleni : (acc.length : Int) ≤ 299 := by omega
          have hB : w.heap.size + 2 ≤ wr.heap.size := K.out.lt
          have hOff : ∀ g, (Value.slice a acc.length c).ownBlock = some g → g ≠ wr.heap.size := fun g hg => by have := (K.out.row.lt g hg).2; omega
          have HOff := mkHid hOff
          have Z0 := mkHid (And.intro (K.out.next (below_alloc1 wr (.cells #[.string ⟨#[]⟩, .string ⟨#[]⟩, .int .i64 0, .int .i64 0, .int .i64 0] 75))) (blk_new wr (.cells #[.string ⟨#[]⟩, .string ⟨#[]⟩, .int .i64 0, .int .i64 0, .int .i64 0] 75) wr.heap.size rfl))
          clear hst hpl K HY HR hOff
          go_wp2_with fail
          refine (HB1.out _ Z0.out.1.rdr).mono ?_
          rintro e w2 ⟨rfl, hp⟩
          have Z1 := mkHid (And.intro (Z0.out.1.call hp) ((hp.grew.block wr.heap.size (by simp) (by simp; omega)).trans Z0.out.2))
          have Z2 := mkHid (And.intro (Z1.out.1.set wr.heap.size 0 (.string x0) hB HOff.out) (five w2 wr.heap.size 0 _ _ _ _ _ _ (.string x0) Z1.out.2))
          simp only [List.setIfInBounds_toArray, List.set_cons_zero, List.set_cons_succ] at Z2
          have uf := unfrozen Z1.out.2
          obtain ⟨g0, g1, g2, g3, g4⟩ := cel5 Z1.out.2
          clear hp Z0 Z1 HB1 d0 d1 d2
          go_wp2_with fail
          refine (HT1.out _ Z2.out.1.rdr).mono ?_
          rintro e w3 ⟨rfl, hp⟩
          have Z3 := mkHid (And.intro (Z2.out.1.call hp) ((hp.grew.block wr.heap.size (Array.getElem?_eq_some_iff.1 Z2.out.2).1 (by simp; omega)).trans Z2.out.2))
          have Z4 := mkHid (And.intro (Z3.out.1.set wr.heap.size 1 (.string x1) hB HOff.out) (five w3 wr.heap.size 1 _ _ _ _ _ _ (.string x1) Z3.out.2))
          simp only [List.setIfInBounds_toArray, List.set_cons_zero, List.set_cons_succ] at Z4
          clear uf g0 g1 g2 g3 g4
          have uf := unfrozen Z3.out.2
          obtain ⟨g0, g1, g2, g3, g4⟩ := cel5 Z3.out.2
          clear hp Z2 HT1
          clear Z3
          go_wp2_with fail
          refine (HN1.out _ Z4.out.1.rdr).mono ?_
          rintro e w4 ⟨rfl, hp⟩
          have Z5 := mkHid (And.intro (Z4.out.1.call hp) ((hp.grew.block wr.heap.size (Array.getElem?_eq_some_iff.1 Z4.out.2).1 (by simp; omega)).trans Z4.out.2))
          have Z6 := mkHid (And.intro (Z5.out.1.set wr.heap.size 2 (.int .i64 x2) hB HOff.out) (five w4 wr.heap.size 2 _ _ _ _ _ _ (.int .i64 x2) Z5.out.2))
          simp only [List.setIfInBounds_toArray, List.set_cons_zero, List.set_cons_succ] at Z6
          clear uf g0 g1 g2 g3 g4
          have uf := unfrozen Z5.out.2
          obtain ⟨g0, g1, g2, g3, g4⟩ := cel5 Z5.out.2
          clear hp Z4 HN1
          clear Z5
          go_wp2_with fail
          refine (HN2.out _ Z6.out.1.rdr).mono ?_
          rintro e w5 ⟨rfl, hp⟩
          have Z7 := mkHid (And.intro (Z6.out.1.call hp) ((hp.grew.block wr.heap.size (Array.getElem?_eq_some_iff.1 Z6.out.2).1 (by simp; omega)).trans Z6.out.2))
          have Z8 := mkHid (And.intro (Z7.out.1.set wr.heap.size 3 (.int .i64 x3) hB HOff.out) (five w5 wr.heap.size 3 _ _ _ _ _ _ (.int .i64 x3) Z7.out.2))
          simp only [List.setIfInBounds_toArray, List.set_cons_zero, List.set_cons_succ] at Z8
          clear uf g0 g1 g2 g3 g4
          have uf := unfrozen Z7.out.2
          obtain ⟨g0, g1, g2, g3, g4⟩ := cel5 Z7.out.2
          clear hp Z6 HN2
          clear Z7
          go_wp2_with fail
          refine (HN3.out _ Z8.out.1.rdr).mono ?_
          rintro e w6 ⟨rfl, hp⟩
          have Z9 := mkHid (And.intro (Z8.out.1.call hp) ((hp.grew.block wr.heap.size (Array.getElem?_eq_some_iff.1 Z8.out.2).1 (by simp; omega)).trans Z8.out.2))
          have Z10 := mkHid (And.intro (Z9.out.1.set wr.heap.size 4 (.int .i64 x4) hB HOff.out) (five w6 wr.heap.size 4 _ _ _ _ _ _ (.int .i64 x4) Z9.out.2))
          simp only [List.setIfInBounds_toArray, List.set_cons_zero, List.set_cons_succ] at Z10
          clear uf g0 g1 g2 g3 g4
          have uf := unfrozen Z9.out.2
          obtain ⟨g0, g1, g2, g3, g4⟩ := cel5 Z9.out.2
          clear hp Z8 HN3
          obtain ⟨g', c', w7, happ, hK⟩ := Z10.out.1.app x0 x1 x2 x3 x4 (by omega)
          have esz : (w6.setCell ⟨wr.heap.size, 4, none⟩ (.int .i64 x4)).heap.size = w6.heap.size := by simp
          rw [esz] at happ
          obtain ⟨i0, i1, i2, i3, i4⟩ := cel5 Z10.out.2
          have N1 := mkHid hK
          have NY : Hid ((acc ++ [(x0, x1, x2, x3, x4)]).length + n' ≤ 300) := mkHid (by rw [List.length_append, List.length_singleton]; omega)
          have hlen1 := mkHid (show (acc ++ [(x0, x1, x2, x3, x4)]).length = acc.length + 1 by rw [List.length_append, List.length_singleton])
          clear hK Z9 Z10
          go_wp2
          go_roundw
          case rel => exact ⟨(n' : Int), n', acc ++ [(x0, x1, x2, x3, x4)], _, c', st5, by go_num, by rw [hlen1.out], le5, N1, HS, mkHid (fun _ => ⟨rfl, NY.out⟩)⟩
          case measure => simp [intOf]
        · have hfin : runS s n (q, f) acc = (acc, (q, f)) := by
            cases f with
            | true => exact runS_bad s n q acc
            | false =>
              have h2 := (HY.out rfl).1
              have h3 : n = 0 := by
                have : ¬ 0 < y := fun h => hgo ⟨h, rfl⟩
                omega
              subst h3
              rfl
          have HF := mkHid (show readA s = fin s (acc, (q, f)) by rw [HA.out, HR.out, hfin])
          have HR2 := mkHid (HR.out.trans hfin)
          obtain ⟨e0, e1⟩ := cel2 K.out.out
          have uf := unfrozen K.out.out
          clear HA HR hfin HY
          cases f with
          | true =>
            have F : Hid (APost w (readA s) _ _) := mkHid (apost_no (k := 3) K.out.below (by rw [HF.out]; unfold fin; rw [if_pos (.inl rfl)]))
            clear K HF HR2
            by_cases hy : 0 < y
            · go_wp2
              refine bodyPost_ret (v := .agg #[.slice none 0 0, .int .i64 3]) ?_ rfl F.out
              simp [results, Try.results15, go_sem, e0, e1]
            · have hy' : y ≤ 0 := by omega
              go_wp2
              refine bodyPost_ret (v := .agg #[.slice none 0 0, .int .i64 3]) ?_ rfl F.out
              simp [results, Try.results15, go_sem, e0, e1]
          | false =>
            have hy' : y ≤ 0 := by
              have : ¬ 0 < y := fun h => hgo ⟨h, rfl⟩
              omega
            by_cases hlt : q < s.size
            · have hlti : (q : Int) < (s.size : Int) := by omega
              have F : Hid (APost w (readA s) _ _) := mkHid (apost_no (k := 3) K.out.below (by rw [HF.out]; unfold fin; rw [if_pos (.inr (.inl hlt))]))
              clear K HF HR2
              go_wp2
              refine bodyPost_ret (v := .agg #[.slice none 0 0, .int .i64 3]) ?_ rfl F.out
              simp [results, Try.results15, go_sem, e0, e1]
            · have hlti : (s.size : Int) ≤ (q : Int) := by omega
              have hfl : fl = false := by
                cases fl with
                | false => rfl
                | true => have h := HR2.out; rw [runS_bad] at h; cases h
              subst hfl
              obtain ⟨m, hm1, hm2, _, _, hm3, _⟩ := runS_ok s z.toNat q0 [] acc q HR2.out hst0
              simp only [List.nil_append] at hm1
              subst hm1
              have hsm : Small acc := fun p hp => by have := hm3 p hp; omega
              have hal : acc.length ≤ 300 := by have := hgood.out rfl; omega
              have HRt := mkHid (rightS_any a c acc wr (by omega) hsm (own_rd K.out.row))
              cases hp : placesB acc with
              | false =>
                rw [hp] at HRt
                have HE := mkHid (show readA s = ([], 3) by rw [HF.out]; unfold fin; rw [if_pos (.inr (.inr hp))])
                clear HF HR2 hm2 hm3 hsm uf e0 e1
                go_wp2_with fail
                refine HRt.out.mono ?_
                rintro e w2 ⟨rfl, hb⟩
                have F : Hid (APost w (readA s) _ _) := mkHid (apost_no (k := 3) (below_trans K.out.below hb) HE.out)
                obtain ⟨e0, e1⟩ := cel2 (blk_below K.out.out hb)
                have uf := unfrozen (blk_below K.out.out hb)
                clear hb K HRt HE d0 d1 d2
                go_wp2
                refine bodyPost_ret (v := .agg #[.slice none 0 0, .int .i64 3]) ?_ rfl F.out
                simp [results, Try.results15, go_sem, e0, e1]
              | true =>
                rw [hp] at HRt
                have HE := mkHid (show readA s = (acc, 0) by rw [HF.out]; unfold fin; rw [if_neg (by simp [hp]; omega)])
                clear HF HR2 hm2 hm3 hsm uf e0 e1
                go_wp2_with fail
                refine HRt.out.mono ?_
                rintro e w2 ⟨rfl, hb⟩
                have F : Hid (APost w (readA s) _ _) := mkHid (apost_of (a' := a) (n := acc.length) (c' := c) (k := 0) (below_trans K.out.below hb) (by rw [HE.out]) (by rw [HE.out]) (by rw [HE.out]; exact (own_rd K.out.row).below hb) (fun b o s e => by have := (K.out.row.lt b (by rw [e]; rfl)).1; omega) (cap_of K.out.row).2)
                obtain ⟨e0, e1⟩ := cel2 (blk_below K.out.out hb)
                have uf := unfrozen (blk_below K.out.out hb)
                clear hb K HRt HE d0 d1 d2
                go_wp2
                refine bodyPost_ret (v := .agg #[.slice a acc.length c, .int .i64 0]) ?_ rfl F.out
                simp [results, Try.results15, go_sem, e0, e1]
end Go.Proofs.Ytmmmadehifajlaa.plc
