/-
  What impl.renamed answers and leaves; putting in and taking out, in plain words. Conditions: a row of our own of at most 1,048,576 files, whose names rise.
-/
import Derived.Test.YtfckgpmphcadeaaDrvQj
import Derived.Test.YtfckgpmphcadeaaDrvIF
namespace Go.Proofs.Ytfckgpmphcadeaa.drv
open Go.RowKit Go.Joins Go.Sort
open Go.Proofs.Ytfckgpmphcadeaa.base Go.Proofs.Ytfckgpmphcadeaa.blk Go.Proofs.Ytfckgpmphcadeaa.aid
open Go.Proofs.Ytfckgpmphcadeaa.row (Rd Own OwnV)
open Go.Proofs.Ytfckgpmphcadeaa.rwStored (cs)
set_option linter.unusedVariables false
set_option linter.unusedSimpArgs false

theorem there_at {l : List File} {n : ByteArray} (h : there l n = true) : ∃ f, l[spot n l 0]? = some f ∧ f.1 = n := by
  unfold there at h
  cases hq : l[spot n l 0]? with
  | none => rw [hq] at h; simp at h
  | some f => rw [hq] at h; exact ⟨f, rfl, by simpa using h⟩
theorem put_there {l : List File} {f : File} (h : there l f.1 = true) : put l f = l.set (spot f.1 l 0) f := by
  obtain ⟨g, hg, _⟩ := there_at h
  have hk := (List.getElem?_eq_some_iff.1 hg).1
  unfold put
  unfold there at h
  rw [if_pos h, List.set_eq_take_append_cons_drop, if_pos hk]
theorem put_ins {l : List File} {f : File} (h : there l f.1 = false) : put l f = ins l (spot f.1 l 0) f := by
  unfold put ins
  unfold there at h
  rw [if_neg (by rw [h]; simp)]
theorem rising_out {l : List File} (h : Rising l) (i : Nat) : Rising (out l i) := by
  unfold out
  unfold Rising at *
  have hs : (l.take i ++ l.drop (i + 1)).Sublist l := by
    have h1 := (List.Sublist.refl (l.take i)).append (List.drop_sublist_drop_left l (Nat.le_succ i))
    rwa [List.take_append_drop] at h1
  exact h.sublist hs

/-- a row of our own stays, with what its length is -/
def NPost (w : World) (base g : Nat) (l : List File) (e : Ending) (w' : World) : Prop :=
  ∃ g' c', e = .returned (.slice (some ⟨g', 0, none⟩) l.length c') ∧ w'.ownsRow base 39 3 (.slice (some ⟨g', 0, none⟩) l.length c') l.length (cs l) ∧ w.grownBy w' (some g)
theorem owns_set3 {w : World} {base g n c k : Nat} {l : List File} {x0 x1 : ByteArray} {x2 : Int} (h : w.ownsRow base 39 3 (.slice (some ⟨g, 0, none⟩) n c) n (cs l)) (hk : k < l.length) :
    (((w.setCell ⟨g, k * 3, none⟩ (.string x0)).setCell ⟨g, k * 3 + 1, none⟩ (.string x1)).setCell ⟨g, k * 3 + 2, none⟩ (.int .i64 x2)).ownsRow base 39 3 (.slice (some ⟨g, 0, none⟩) n c) n (cs (l.set k (x0, x1, x2))) := by
  obtain ⟨ex, hB, hbg, hnc, hcm, hln⟩ := B3.of h
  have h3 := set3 (k := k) (x0 := x0) (x1 := x1) (x2 := x2) (Own.owns h) hk
  obtain ⟨ex2, he⟩ := h3
  have hl := rwStored.cs_len l
  have hb : B3 (((w.setCell ⟨g, k * 3, none⟩ (.string x0)).setCell ⟨g, k * 3 + 1, none⟩ (.string x1)).setCell ⟨g, k * 3 + 2, none⟩ (.int .i64 x2)) g c (cs (l.set k (x0, x1, x2)) ++ ex2) := by
    refine ⟨he, ?_⟩
    have e1 := heap_setCell_same _ g (k * 3 + 2) _ _ (.int .i64 x2) (heap_setCell_same _ g (k * 3 + 1) _ _ (.string x1) (heap_setCell_same w g (k * 3) _ _ (.string x0) hB.1))
    rw [e1] at he
    simp only [Option.some.injEq, Obj.cells.injEq] at he
    have e2 := congrArg Array.size he.1
    simp only [Array.size_setIfInBounds, List.size_toArray] at e2
    rw [← e2]
    exact hB.2
  exact B3.owns hb hbg (by simpa using hln) hnc hcm

set_option maxRecDepth 100000 in
set_option maxHeartbeats 2000000 in
theorem renamed_any (base g c i k : Nat) (l : List File) (t : ByteArray) (f : File) (w : World) (hk : l.length = k + 1) (hf : l[i]? = some f) (hl : k ≤ 1048576) (hR : Rising l) (hb : base ≤ w.heap.size) (ho : w.ownsRow base 39 3 (.slice (some ⟨g, 0, none⟩) (k + 1) c) (k + 1) (cs l)) :
    Calls Try.prog 144 #[.slice (some ⟨g, 0, none⟩) (k + 1) c, .int .i64 (i : Int), .string t] w (NPost w base g (put (out l i) (t, f.2.1, f.2.2))) := by
  obtain ⟨x0, x1, x2⟩ := f
  have hik : i < l.length := (List.getElem?_eq_some_iff.1 hf).1
  have hO := Own.owns ho
  obtain ⟨e0, e1, e2⟩ := rwStored.cs_at _ _ _ hf
  have c0 := hO.cell e0
  have c1 := hO.cell e1
  have c2 := hO.cell e2
  simp only at c0 c1 c2
  have hgl := hO.lt
  have hii : (i : Int) < (k : Int) + 1 := by omega
  have hiw : IntKind.i64.wrap ((i : Int) + 1) = (i : Int) + 1 := by rw [IntKind.wrap_i64]; omega
  have HD := mkHid (delete_any base g c i k l _ hk (by omega) hl (ho.alloc (.cells #[.string t, .string x1, .int .i64 x2] 39)))
  have hol : (out l i).length = k := by have := (out_len hik).2.2; omega
  have HF := mkHid (fun wx a c' (hx : Rd wx a (cs (out l i))) => findI_any a c' (out l i) t wx (by omega) (rising_out hR i) hx)
  rw [hol] at HF
  have HFile := mkHid (blk_new w (.cells #[.string t, .string x1, .int .i64 x2] 39) w.heap.size rfl)
  simp only
  generalize out l i = l2 at *
  clear ho hO e0 e1 e2 hf hR
  go_enter Try.func144, Try.ntmps144
  go_wp2_with fail
  refine HD.out.mono ?_
  rintro e w1 ⟨rfl, ho1, hg1⟩
  have G1 := mkHid (grew_grew (below_grew (below_alloc1 w (.cells #[.string t, .string x1, .int .i64 x2] 39)) (some g)) hg1)
  have K1 := mkHid ((hg1.block w.heap.size (by simp) (by simp; omega)).trans HFile.out)
  have O1 := mkHid ho1
  clear hg1 ho1 HD HFile
  go_wp2_with fail
  refine (HF.out _ _ _ (Own.owns O1.out).rd).mono ?_
  rintro e w2 ⟨rfl, hb2⟩
  have G2 := mkHid (grew_below G1.out hb2)
  have K2 := mkHid (blk_below K1.out hb2)
  have O2 := mkHid (owns_below O1.out hb2)
  obtain ⟨d0, d1, d2⟩ := cel3 K2.out
  clear hb2 G1 K1 O1 HF c0 c1 c2
  cases hth : there l2 t with
  | true =>
    obtain ⟨f, hf, _⟩ := there_at hth
    have hsl : spot t l2 0 < l2.length := (List.getElem?_eq_some_iff.1 hf).1
    have hp : put l2 (t, x1, x2) = l2.set (spot t l2 0) (t, x1, x2) := put_there hth
    generalize spot t l2 0 = p at *
    obtain ⟨q0, q1, q2⟩ := rwStored.cs_at _ _ _ hf
    have r0 := (Own.owns O2.out).cell q0
    have r1 := (Own.owns O2.out).cell q1
    have r2 := (Own.owns O2.out).cell q2
    have rf := (Own.owns O2.out).free
    have HO3 := mkHid (owns_set3 (x0 := t) (x1 := x1) (x2 := x2) O2.out hsl)
    have hpk : (p : Int) < (k : Int) := by omega
    have HP : Hid (NPost w base g (put l2 (t, x1, x2)) (.returned (.slice (some ⟨g, 0, none⟩) k c)) (((w2.setCell ⟨g, p * 3, none⟩ (.string t)).setCell ⟨g, p * 3 + 1, none⟩ (.string x1)).setCell ⟨g, p * 3 + 2, none⟩ (.int .i64 x2))) := mkHid (by
      have e : (l2.set p (t, x1, x2)).length = k := by simp; omega
      refine ⟨g, c, by rw [hp, e], by rw [hp, e]; exact HO3.out, grew_grew G2.out (grew3 _ _ _ _ _ _ _ _)⟩)
    clear HO3 hf hth hp q0 q1 q2
    go_wp2
    go_ret
    exact HP.out
  | false =>
    have hp : put l2 (t, x1, x2) = ins l2 (spot t l2 0) (t, x1, x2) := put_ins hth
    have hsl : spot t l2 0 ≤ k := by have := spot_le t l2; omega
    have hil : (ins l2 (spot t l2 0) (t, x1, x2)).length = k + 1 := by rw [ins_len (by omega)]; omega
    have hw2 : g < w2.heap.size := by have := (O2.out.lt g rfl).2; omega
    have hbw : base ≤ (w2.alloc (.cells #[.string t, .string x1, .int .i64 x2] 39)).heap.size := by have := G2.out.size; simp; omega
    have HI := mkHid (insert_any base _ (spot t l2 0) k w2.heap.size l2 t x1 x2 _ hol hsl hl hbw (fun e => by simp [Value.ownBlock] at e; omega) (O2.out.alloc (.cells #[.string t, .string x1, .int .i64 x2] 39)) (blk_new w2 _ w2.heap.size rfl))
    unfold IPost at HI
    generalize ins l2 (spot t l2 0) (t, x1, x2) = l3 at *
    generalize spot t l2 0 = p at *
    go_wp2_with fail
    refine HI.out.mono ?_
    rintro e w3 ⟨g3, c3, rfl, ho3, hg3⟩
    have HP : Hid (NPost w base g (put l2 (t, x1, x2)) (.returned (.slice (some ⟨g3, 0, none⟩) (k + 1) c3)) w3) := mkHid (by
      rw [hp]
      exact ⟨g3, c3, by rw [hil], by rw [hil]; exact ho3, grew_grew (grew_below G2.out (below_alloc1 w2 _)) hg3⟩)
    clear ho3 hg3 HI
    go_wp2
    go_ret
    exact HP.out
end Go.Proofs.Ytfckgpmphcadeaa.drv
