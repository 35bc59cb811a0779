/-
  What spec.l12Snap and spec.SnapRead answer and leave. Condition: a text of at most 1,048,576 bytes.
-/
import Derived.Test.YtlcdbkelonbcfaaSnRd
import Derived.Test.YtlcdbkelonbcfaaRrB
namespace Go.Proofs.Ytlcdbkelonbcfaa.snp
open Go.RowKit Go.Joins
open Go.Proofs.Ytlcdbkelonbcfaa.base Go.Proofs.Ytlcdbkelonbcfaa.blk Go.Proofs.Ytlcdbkelonbcfaa.aid
open Go.Proofs.Ytlcdbkelonbcfaa.plc (St numS txtS bytS oneS rdO rdO_cells RPost one_any txt_any num_any byt_any)
set_option linter.unusedVariables false
set_option linter.unusedSimpArgs false

/-- what lies there while a snapshot is read: the result, the reader, the snapshot itself -/
structure Sn (w : World) (s : ByteArray) (X : Nat) (st : St) (a b c : Value) (W : World) : Prop where
  below : Below w.heap.size w W
  res : W.heap[w.heap.size]? = some (.cells #[.string ⟨#[]⟩, .int .i64 0, .string ⟨#[]⟩] 53)
  rdr : W.heap[w.heap.size + 1]? = some (rdO s st)
  hX : w.heap.size + 2 ≤ X
  x : W.heap[X]? = some (.cells #[a, b, c] 53)
theorem Sn.call {w W W' : World} {s : ByteArray} {X : Nat} {st st' : St} {a b c : Value} (h : Sn w s X st a b c W) (hp : RPost W (w.heap.size + 1) s st' W') : Sn w s X st' a b c W' :=
  ⟨h.below.grown hp.grew h.below.size (fun j hj => by cases hj; omega), (hp.grew.block _ (Array.getElem?_eq_some_iff.1 h.res).1 (by simp)).trans h.res, hp.at_, h.hX, (hp.grew.block _ (Array.getElem?_eq_some_iff.1 h.x).1 (by have := h.hX; simp; omega)).trans h.x⟩
theorem Sn.set {w W : World} {s : ByteArray} {X : Nat} {st : St} {a b c a' b' c' : Value} (h : Sn w s X st a b c W) (i : Nat) (v : Value) (hv : (#[a, b, c] : Array Value).setIfInBounds i v = #[a', b', c']) : Sn w s X st a' b' c' (W.setCell ⟨X, i, none⟩ v) :=
  ⟨h.below.setCell (p := ⟨X, i, none⟩) (by have := h.hX; show w.heap.size ≤ X; omega) v, blk_set h.res _ _ (by have := h.hX; show w.heap.size ≠ X; omega), blk_set h.rdr _ _ (by have := h.hX; show w.heap.size + 1 ≠ X; omega), h.hX, by rw [← hv]; exact heap_setCell_same W X i _ _ _ h.x⟩
/-- what l12Snap answers and leaves -/
def SnPost (w : World) (s : ByteArray) (e : Ending) (w' : World) : Prop :=
  (∃ (a c : ByteArray) (b : Int) (o : Bool), e = .returned (.tuple #[.agg #[.string a, .int .i64 b, .string c], .bool o]) ∧ o = okS s ∧ (o = true → a = (r2 s).1 ∧ b = (r3 s).1 ∧ c = (r4 s).1)) ∧ Below w.heap.size w w'
theorem three_set {w W : World} (hb : Below w.heap.size w W) (v0 v1 v2 : Value) : Below w.heap.size w (((W.setCell ⟨w.heap.size, 0, none⟩ v0).setCell ⟨w.heap.size, 1, none⟩ v1).setCell ⟨w.heap.size, 2, none⟩ v2) :=
  ((hb.setCell (p := ⟨w.heap.size, 0, none⟩) (Nat.le_refl _) v0).setCell (p := ⟨w.heap.size, 1, none⟩) (Nat.le_refl _) v1).setCell (p := ⟨w.heap.size, 2, none⟩) (Nat.le_refl _) v2
theorem three_same {W : World} {B : Nat} {x0 x1 x2 : Value} {T : TypeId} (h : W.heap[B]? = some (.cells #[x0, x1, x2] T)) (u0 u1 u2 : Value) : (((W.setCell ⟨B, 0, none⟩ u0).setCell ⟨B, 1, none⟩ u1).setCell ⟨B, 2, none⟩ u2).heap[B]? = some (.cells #[u0, u1, u2] T) := by
  have e1 : (W.setCell ⟨B, 0, none⟩ u0).heap[B]? = some (.cells #[u0, x1, x2] T) := heap_setCell_same W B 0 _ _ _ h
  have e2 : ((W.setCell ⟨B, 0, none⟩ u0).setCell ⟨B, 1, none⟩ u1).heap[B]? = some (.cells #[u0, u1, x2] T) := heap_setCell_same _ B 1 _ _ _ e1
  exact heap_setCell_same _ B 2 _ _ _ e2
theorem three_off {W : World} {B g : Nat} {o : Obj} (h : W.heap[g]? = some o) (hn : g ≠ B) (u0 u1 u2 : Value) : (((W.setCell ⟨B, 0, none⟩ u0).setCell ⟨B, 1, none⟩ u1).setCell ⟨B, 2, none⟩ u2).heap[g]? = some o :=
  blk_set (blk_set (blk_set h _ _ hn) _ _ hn) _ _ hn
set_option maxRecDepth 100000 in
set_option maxHeartbeats 4000000 in
theorem snapR_any (s : ByteArray) (w : World) (hs : s.size ≤ 20000) :
    Calls Try.prog 57 #[.string s] w (SnPost w s) := by
  have e1 : (w.alloc (.cells #[.string ⟨#[]⟩, .int .i64 0, .string ⟨#[]⟩] 53)).heap.size = w.heap.size + 1 := by simp
  have B0 := mkHid ((below_alloc1 w (.cells #[.string ⟨#[]⟩, .int .i64 0, .string ⟨#[]⟩] 53)).alloc (by omega) (rdO s (0, false)))
  have b0 := mkHid (blk_old (blk_new w (.cells #[.string ⟨#[]⟩, .int .i64 0, .string ⟨#[]⟩] 53) w.heap.size rfl) (rdO s (0, false)))
  have d0 := mkHid (blk_new (w.alloc (.cells #[.string ⟨#[]⟩, .int .i64 0, .string ⟨#[]⟩] 53)) (rdO s (0, false)) (w.heap.size + 1) e1.symm)
  have H1 := mkHid (one_any (w.heap.size + 1) s (0, false) _ d0.out hs (by simp))
  have le1 := one_le s (0, false) (Nat.zero_le _)
  have E1 := mkHid (show oneS s (0, false) = r1 s from rfl)
  rw [E1.out] at H1 le1
  have H2 := mkHid (fun W (h : W.heap[w.heap.size + 1]? = some (rdO s (r1 s).2)) => txt_any (w.heap.size + 1) s (r1 s).2 W h hs (by omega))
  have le2 := txt_le s (r1 s).2 le1
  have sm2 := txt_size s (r1 s).2 hs
  have E2 := mkHid (show txtS s (r1 s).2 = r2 s from rfl)
  rw [E2.out] at H2 le2 sm2
  have H3 := mkHid (fun W (h : W.heap[w.heap.size + 1]? = some (rdO s (r2 s).2)) => num_any (w.heap.size + 1) s (r2 s).2 W h hs (by omega))
  have le3 := num_le s (r2 s).2 le2
  have E3 := mkHid (show numS s (r2 s).2 = r3 s from rfl)
  rw [E3.out] at H3 le3
  have H4 := mkHid (fun W (h : W.heap[w.heap.size + 1]? = some (rdO s (r3 s).2)) => byt_any (w.heap.size + 1) s (r3 s).2 W h hs (by omega))
  have sm4 := byt_size s (r3 s).2
  have E4 := mkHid (show bytS s (r3 s).2 = r4 s from rfl)
  rw [E4.out] at H4 sm4
  have HO := mkHid (show okS s = (((r1 s).1.toList == [83]) && ((!(r4 s).2.2) && (decide (((r4 s).2.1 : Int) = (s.size : Int)) && snapB (r2 s).1 (r3 s).1 (r4 s).1))) from rfl)
  have HR := mkHid (fun wx => snapS_any (r2 s).1 (r3 s).1 (r4 s).1 wx (by omega) (by omega))
  have HQ : Hid (∀ (o : Bool) (w' : World), o = okS s → Below w.heap.size w w' → SnPost w s (.returned (.tuple #[.agg #[.string (r2 s).1, .int .i64 (r3 s).1, .string (r4 s).1], .bool o])) w') := mkHid (fun o w' ho hb => ⟨⟨_, _, _, o, rfl, ho, fun _ => ⟨rfl, rfl, rfl⟩⟩, hb⟩)
  have hsi : (s.size : Int) ≤ 20000 := by omega
  clear E1 E2 E3 E4 le1 le2 le3 sm2 sm4 hs e1
  generalize okS s = o at *
  generalize SnPost w s = Post at *
  generalize r4 s = q4 at *
  generalize r3 s = q3 at *
  generalize r2 s = q2 at *
  generalize r1 s = q1 at *
  obtain ⟨x4, p4, f4⟩ := q4
  obtain ⟨x3, st3⟩ := q3
  obtain ⟨x2, st2⟩ := q2
  obtain ⟨x1, st1⟩ := q1
  simp only at H1 H2 H3 H4 HO HR HQ
  unfold rdO at B0 b0 d0 H1
  go_enter Try.func57, Try.ntmps57
  go_wp2_with fail
  refine H1.out.mono ?_
  rintro e w1 ⟨rfl, hp⟩
  have Z1 : Hid (Sn w s w1.heap.size st1 (.string ⟨#[]⟩) (.int .i64 0) (.string ⟨#[]⟩) (w1.alloc (.cells #[.string ⟨#[]⟩, .int .i64 0, .string ⟨#[]⟩] 53))) := mkHid (by
    have hb : Below w.heap.size w w1 := B0.out.grown hp.grew B0.out.size (fun j hj => by cases hj; omega)
    have hlt := (Array.getElem?_eq_some_iff.1 hp.at_).1
    exact ⟨hb.alloc hb.size _, blk_old ((hp.grew.block _ (Array.getElem?_eq_some_iff.1 b0.out).1 (by simp)).trans b0.out) _, blk_old hp.at_ _, hlt, blk_new w1 _ _ rfl⟩)
  clear hp H1 B0 b0 d0
  generalize hX : w1.heap.size = X at *
  go_wp2_with fail
  refine (H2.out _ Z1.out.rdr).mono ?_
  rintro e w2 ⟨rfl, hp⟩
  have Z2 := mkHid (Z1.out.call hp)
  have Z3 := mkHid (Z2.out.set 0 (.string x2) rfl)
  have uf := unfrozen Z2.out.x
  obtain ⟨g0, g1, g2⟩ := cel3s Z2.out.x
  clear hp Z1 H2 Z2 hX
  go_wp2_with fail
  refine (H3.out _ Z3.out.rdr).mono ?_
  rintro e w3 ⟨rfl, hp⟩
  have Z4 := mkHid (Z3.out.call hp)
  have Z5 := mkHid (Z4.out.set 1 (.int .i64 x3) rfl)
  clear uf g0 g1 g2
  have uf := unfrozen Z4.out.x
  obtain ⟨g0, g1, g2⟩ := cel3s Z4.out.x
  clear hp Z3 H3 Z4
  go_wp2_with fail
  refine (H4.out _ Z5.out.rdr).mono ?_
  rintro e w4 ⟨rfl, hp⟩
  have Z6 := mkHid (Z5.out.call hp)
  have Z7 := mkHid (Z6.out.set 2 (.string x4) rfl)
  clear uf g0 g1 g2
  have uf := unfrozen Z6.out.x
  obtain ⟨g0, g1, g2⟩ := cel3s Z6.out.x
  clear hp Z5 H4 Z6
  go_wp2_with fail
  clear uf g0 g1 g2
  generalize w4.setCell ⟨X, 2, none⟩ (.string x4) = W at *
  obtain ⟨g0, g1, g2⟩ := cel3s Z7.out.x
  obtain ⟨y0, y1, y2⟩ := rdO_cells Z7.out.rdr
  obtain ⟨z0, z1, z2⟩ := cel3s Z7.out.res
  simp only at y1 y2
  have uf := unfrozen Z7.out.res
  cases c1 : (x1.toList == [83]) with
  | false =>
    have ho : Hid (false = o) := mkHid (by rw [HO.out, c1]; rfl)
    have F := mkHid (HQ.out false _ ho.out (three_set (W := W.drew) ⟨Z7.out.below.os, Z7.out.below.tape, Z7.out.below.output, Z7.out.below.size, Z7.out.below.block⟩ (.string x2) (.int .i64 x3) (.string x4)))
    clear HQ HO HR Z7 ho
    go_region
    go_wp2
    refine bodyPost_ret (v := .tuple #[.agg #[.string x2, .int .i64 x3, .string x4], .bool false]) ?_ rfl F.out
    simp [results, Try.results57, go_sem, z0, z1, z2]
  | true =>
    cases c2 : f4 with
    | true =>
      subst c2
      have ho : Hid (false = o) := mkHid (by rw [HO.out, c1]; rfl)
      have F := mkHid (HQ.out false _ ho.out (three_set (W := W.drew) ⟨Z7.out.below.os, Z7.out.below.tape, Z7.out.below.output, Z7.out.below.size, Z7.out.below.block⟩ (.string x2) (.int .i64 x3) (.string x4)))
      clear HQ HO HR Z7 ho
      go_region
      go_wp2
      refine bodyPost_ret (v := .tuple #[.agg #[.string x2, .int .i64 x3, .string x4], .bool false]) ?_ rfl F.out
      simp [results, Try.results57, go_sem, z0, z1, z2]
    | false =>
      subst c2
      by_cases c3 : p4 = s.size
      · subst c3
        have c3i : ((s.size : Int) == (s.size : Int)) = true := by simp
        have ho : Hid (snapB x2 x3 x4 = o) := mkHid (by rw [HO.out, c1, decide_eq_true (show (s.size : Int) = (s.size : Int) from rfl)]; rfl)
        generalize snapB x2 x3 x4 = b at *
        have HF := mkHid (fun w' => HQ.out b w' ho.out)
        have ZB := mkHid Z7.out.below
        have ZR := mkHid Z7.out.res
        have ZX := mkHid Z7.out.x
        have Zr := mkHid Z7.out.rdr
        have hX := Z7.out.hX
        have hXr : w.heap.size ≠ X := by omega
        clear HQ HO Z7 ho
        go_region_held3 (fun w' => w'.cell? ⟨X, 0, none⟩ = some (.string x2) ∧ w'.cell? ⟨X, 1, none⟩ = some (.int .i64 x3) ∧ w'.cell? ⟨X, 2, none⟩ = some (.string x4) ∧ w'.cell? ⟨w.heap.size + 1, 0, none⟩ = some (.string s) ∧ w'.cell? ⟨w.heap.size + 1, 1, none⟩ = some (.int .i64 (s.size : Int)) ∧ w'.cell? ⟨w.heap.size + 1, 2, none⟩ = some (.bool false)) (go_keep)
          ((go_at_call 24; refine Calls.mono (HR.out _) ?_; rintro e w5 ⟨rfl, hb5⟩; (first
            | (have r5 := re (w := W) hb5 rfl rfl rfl rfl; have B5 := mkHid (below_trans ZB.out r5); have R5 := mkHid (blk_below ZR.out r5); have X5 := mkHid (blk_below ZX.out r5); have D5 := mkHid (blk_below Zr.out r5); obtain ⟨i0, i1, i2⟩ := cel3s X5.out; obtain ⟨j0, j1, j2⟩ := rdO_cells D5.out; obtain ⟨k0, k1, k2⟩ := cel3s R5.out; have u5 := unfrozen R5.out; simp only at j1 j2; clear hb5 r5)
            | (have r5 := re (w := ((W.setCell ⟨w.heap.size, 0, none⟩ (.string x2)).setCell ⟨w.heap.size, 1, none⟩ (.int .i64 x3)).setCell ⟨w.heap.size, 2, none⟩ (.string x4)) hb5 rfl rfl rfl rfl; have B5 := mkHid (below_trans (three_set ZB.out (.string x2) (.int .i64 x3) (.string x4)) r5); have R5 := mkHid (blk_below (three_same ZR.out (.string x2) (.int .i64 x3) (.string x4)) r5); have X5 := mkHid (blk_below (three_off ZX.out hXr.symm (.string x2) (.int .i64 x3) (.string x4)) r5); have D5 := mkHid (blk_below (three_off Zr.out (by omega) (.string x2) (.int .i64 x3) (.string x4)) r5); obtain ⟨i0, i1, i2⟩ := cel3s X5.out; obtain ⟨j0, j1, j2⟩ := rdO_cells D5.out; obtain ⟨k0, k1, k2⟩ := cel3s R5.out; have u5 := unfrozen R5.out; simp only at j1 j2; clear hb5 r5))))
        all_goals
          go_wp2
          refine bodyPost_ret (v := .tuple #[.agg #[.string x2, .int .i64 x3, .string x4], .bool b]) ?_ rfl ?_
          rotate_left
          · first
              | exact HF.out _ B5.out
              | exact HF.out _ (three_set B5.out (.string x2) (.int .i64 x3) (.string x4))
          · simp [results, Try.results57, go_sem, k0, k1, k2]
      · have c3i : ((p4 : Int) == (s.size : Int)) = false := by simp; omega
        have c3n : (p4 == s.size) = false := by simpa using c3
        have ho : Hid (false = o) := mkHid (by rw [HO.out, c1, decide_eq_false (show ¬ (p4 : Int) = (s.size : Int) by omega)]; rfl)
        have F := mkHid (HQ.out false _ ho.out (three_set (W := W.drew) ⟨Z7.out.below.os, Z7.out.below.tape, Z7.out.below.output, Z7.out.below.size, Z7.out.below.block⟩ (.string x2) (.int .i64 x3) (.string x4)))
        clear HQ HO HR Z7 ho
        go_region
        go_wp2
        refine bodyPost_ret (v := .tuple #[.agg #[.string x2, .int .i64 x3, .string x4], .bool false]) ?_ rfl F.out
        simp [results, Try.results57, go_sem, z0, z1, z2]
end Go.Proofs.Ytlcdbkelonbcfaa.snp
