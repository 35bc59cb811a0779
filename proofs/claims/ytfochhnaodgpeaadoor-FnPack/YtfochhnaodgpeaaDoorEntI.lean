/-
  What the method entry of impl.packReader answers and leaves: the record at its place, or a panic that tells that place. Conditions: the reader lies in a block of its own; a text of at most 20,000 bytes; the numbers of the rounds are there.
-/
import Derived.Test.YtfochhnaodgpeaaDoorRdrI
import Derived.Test.YtfochhnaodgpeaaDoorRecP
import Derived.Test.YtfochhnaodgpeaaDoorBlobF
import Derived.Test.YtfochhnaodgpeaaDoorClone
namespace Go.Proofs.YtfochhnaodgpeaaDoor.rdr
open Go.RowKit Go.Joins
open Go.Proofs.YtfochhnaodgpeaaDoor.base Go.Proofs.YtfochhnaodgpeaaDoor.blk Go.Proofs.YtfochhnaodgpeaaDoor.aid
open Go.Proofs.YtfochhnaodgpeaaDoor.pack (bKey bRight recAt keyAt)
open Go.Proofs.YtfochhnaodgpeaaDoor.sha (digest GV)
set_option linter.unusedVariables false

theorem txt_ne {r s : ByteArray} (h : ¬ r = s) : (r.toList == s.toList) = false := by
  rw [ByteArray.toList_eq, ByteArray.toList_eq]
  simp
  intro e
  apply h
  apply ByteArray.ext
  exact e
theorem rd_from {w : World} {g : Nat} {s : ByteArray} {a f : Int} (h : w.heap[g]? = some (rdO s a f)) (b : Int) : (w.setCell ⟨g, 2, none⟩ (.int .i64 b)).heap[g]? = some (rdO s a b) := by
  rw [block_setCell (i := 2) h (.int .i64 b)]
  rfl

/-- what entry answers -/
def EPost (w : World) (g : Nat) (s : ByteArray) (a : Nat) (e : Ending) (w' : World) : Prop :=
  match recAt s a with
  | none => e = noRec a ∧ w.grownBy w' (some g)
  | some (k, q, n) => e = .returned (.agg #[.string (keyAt s a), .int .i64 k, .int .i64 (q : Int), .int .i64 (n : Int)]) ∧ w'.heap[g]? = some (rdO s ((q + n : Nat) : Int) a) ∧ w.grownBy w' (some g)
theorem EPost.no {w w' : World} {g : Nat} {s : ByteArray} {a : Nat} (h : recAt s a = none) (hg : w.grownBy w' (some g)) : EPost w g s a (noRec a) w' := by
  unfold EPost
  rw [h]
  exact ⟨rfl, hg⟩
theorem EPost.yes {w w' : World} {g : Nat} {s : ByteArray} {a : Nat} {k : Int} {q n : Nat} (h : recAt s a = some (k, q, n)) (hp : w'.heap[g]? = some (rdO s ((q + n : Nat) : Int) a)) (hg : w.grownBy w' (some g)) :
    EPost w g s a (.returned (.agg #[.string (keyAt s a), .int .i64 k, .int .i64 (q : Int), .int .i64 (n : Int)])) w' := by
  unfold EPost
  rw [h]
  exact ⟨rfl, hp, hg⟩
/-- the entry that is being made -/
def enO : Obj := .cells #[.string ⟨#[]⟩, .int .i64 0, .int .i64 0, .int .i64 0] 57
structure En (w : World) (g : Nat) (o : Obj) (W : World) : Prop where
  rd : W.heap[g]? = some o
  out : W.heap[w.heap.size]? = some enO
  grew : w.grownBy W (some g)
theorem En.below {w W W' : World} {g : Nat} {o : Obj} (h : En w g o W) (hb : Below W.heap.size W W') : En w g o W' := ⟨blk_below h.rd hb, blk_below h.out hb, grew_below h.grew hb⟩
theorem En.next {w W W' : World} {g : Nat} {o o' : Obj} (h : En w g o W) (hg : W.grownBy W' (some g)) (ho : W'.heap[g]? = some o') (hlt : g < w.heap.size) : En w g o' W' :=
  ⟨ho, (hg.block _ (Array.getElem?_eq_some_iff.1 h.out).1 (by simp; omega)).trans h.out, grew_grew h.grew hg⟩
theorem En.fin {w W : World} {g : Nat} {o : Obj} (h : En w g o W) (hlt : g < w.heap.size) (a b c d : Value) :
    ((((W.setCell ⟨w.heap.size, 0, none⟩ a).setCell ⟨w.heap.size, 1, none⟩ b).setCell ⟨w.heap.size, 2, none⟩ c).setCell ⟨w.heap.size, 3, none⟩ d).heap[g]? = some o ∧
      w.grownBy ((((W.setCell ⟨w.heap.size, 0, none⟩ a).setCell ⟨w.heap.size, 1, none⟩ b).setCell ⟨w.heap.size, 2, none⟩ c).setCell ⟨w.heap.size, 3, none⟩ d) (some g) := by
  have e : ∀ k, k < w.heap.size → ((((W.setCell ⟨w.heap.size, 0, none⟩ a).setCell ⟨w.heap.size, 1, none⟩ b).setCell ⟨w.heap.size, 2, none⟩ c).setCell ⟨w.heap.size, 3, none⟩ d).heap[k]? = W.heap[k]? := fun k hk => by
    rw [Below.heap_setCell _ _ _ k (by simp; omega), Below.heap_setCell _ _ _ k (by simp; omega), Below.heap_setCell _ _ _ k (by simp; omega), Below.heap_setCell _ _ _ k (by simp; omega)]
  exact ⟨(e g hlt).trans h.rd, h.grew.os, h.grew.tape, h.grew.output, by simpa using h.grew.size, fun k hk hne => (e k hk).trans (h.grew.block k hk hne)⟩
theorem En.start {w : World} {g : Nat} {s : ByteArray} {a f : Int} (h : w.heap[g]? = some (rdO s a f)) (b : Int) : En w g (rdO s a b) ((w.setCell ⟨g, 2, none⟩ (.int .i64 b)).alloc enO) :=
  ⟨blk_old (rd_from h b) enO, blk_new _ enO w.heap.size (by simp), grew_below (grew_cell _ _ _ _) (below_alloc1 _ enO)⟩

theorem gv_grew {w w' : World} {g : Nat} (h : GV w) (hg : w.grownBy w' (some g)) (h0 : 0 < g) : GV w' := fun i hi => by
  rw [World.cell?_of_block (w := w) (a := ⟨0, i, none⟩) (hg.block 0 h.lt (by simp; omega))]
  exact h i hi

theorem take1 (g : Nat) (s : ByteArray) (a : Nat) (f : Int) (w : World) (h : w.heap[g]? = some (rdO s a f)) (hs : s.size ≤ 20000) (hn : a + 1 ≤ s.size) :
    Calls Tryd.prog 86 #[.pointer (some ⟨g, 0, none⟩), .int .i64 1] w fun e w' => e = .returned (.string (s.extract a (a + 1))) ∧ w'.heap[g]? = some (rdO s ((a + 1 : Nat) : Int) f) ∧ w.grownBy w' (some g) := by
  have h1 := take_ok g s a 1 f w h hs hn
  simpa using h1
theorem take32 (g : Nat) (s : ByteArray) (a : Nat) (f : Int) (w : World) (h : w.heap[g]? = some (rdO s ((a + 1 : Nat) : Int) f)) (hs : s.size ≤ 20000) (hn : a + 33 ≤ s.size) :
    Calls Tryd.prog 86 #[.pointer (some ⟨g, 0, none⟩), .int .i64 32] w fun e w' => e = .returned (.string (keyAt s a)) ∧ w'.heap[g]? = some (rdO s ((a + 33 : Nat) : Int) f) ∧ w.grownBy w' (some g) := by
  have h1 := take_ok g s (a + 1) 32 f w h hs (by omega)
  have e : ((a + 1 : Nat) : Int) + ((32 : Nat) : Int) = ((a + 33 : Nat) : Int) := by omega
  rw [e] at h1
  exact h1
theorem mark_is {s : ByteArray} {a : Nat} (h : s.data.toList[a]? = some 66) : s.extract a (a + 1) = ⟨#[66]⟩ := by
  have hl : a < s.data.toList.length := (List.getElem?_eq_some_iff.1 h).1
  apply ByteArray.ext
  rw [ByteArray.data_extract]
  apply Array.ext'
  rw [Array.toList_extract]
  simp only [List.extract_eq_take_drop]
  rw [List.drop_eq_getElem_cons hl]
  have := (List.getElem?_eq_some_iff.1 h).2
  simp [this]
theorem mark_not {s : ByteArray} {a : Nat} (hl : a < s.size) (h : s.data.toList[a]? ≠ some 66) : ¬ s.extract a (a + 1) = ⟨#[66]⟩ := by
  intro e
  apply h
  have hl' : a < s.data.toList.length := by rw [Array.length_toList]; exact hl
  have e2 := congrArg (fun b : ByteArray => b.data.toList) e
  simp only [ByteArray.data_extract, Array.toList_extract, List.extract_eq_take_drop] at e2
  rw [List.drop_eq_getElem_cons hl'] at e2
  simp at e2
  rw [List.getElem?_eq_getElem hl']
  simp [e2]

set_option maxRecDepth 100000 in
set_option maxHeartbeats 2000000 in
theorem entry_any (g : Nat) (s : ByteArray) (a : Nat) (f : Int) (w : World) (h : w.heap[g]? = some (rdO s a f)) (hs : s.size ≤ 20000) (ha : a ≤ s.size) (I : himpl.IDigest) (hG : GV w) (hg0 : 0 < g) :
    Calls Tryd.prog 71 #[.pointer (some ⟨g, 0, none⟩)] w (EPost w g s a) := by
  have hlt := (Array.getElem?_eq_some_iff.1 h).1
  have c1 : ∀ o, (w.alloc o).cell? ⟨g, 1, none⟩ = some (.int .i64 a) := fun o => (cel3 (blk_old h o)).2.1
  have c2 : ∀ o, (w.alloc o).cell? ⟨g, 2, none⟩ = some (.int .i64 f) := fun o => (cel3 (blk_old h o)).2.2
  have hf : ∀ o j, (w.alloc o).frozen? ⟨g, j, none⟩ = false := fun o j => unfrozen (blk_old h o) j
  have E1 := mkHid (En.start h (a : Int))
  unfold enO at E1
  clear h
  go_enter Tryd.func71, Tryd.ntmps71
  go_wp2_with fail
  generalize (w.setCell ⟨g, 2, none⟩ (.int .i64 a)).alloc (.cells #[.string ⟨#[]⟩, .int .i64 0, .int .i64 0, .int .i64 0] 57) = W1 at *
  clear c1 c2 hf
  by_cases hA : a + 1 ≤ s.size
  · refine (take1 g s a a _ E1.out.rd hs hA).mono ?_
    rintro e w1 ⟨rfl, ho1, hg1⟩
    have E2 := mkHid (E1.out.next hg1 ho1 hlt)
    clear ho1 hg1 E1
    by_cases hm : s.data.toList[a]? = some 66
    · have hmk : (!(s.extract a (a + 1)).toList == [66]) = false := by rw [mark_is hm, ByteArray.toList_eq]; rfl
      go_wp2_with fail
      by_cases hB : a + 33 ≤ s.size
      · refine (take32 g s a a _ E2.out.rd hs hB).mono ?_
        rintro e w2 ⟨rfl, ho2, hg2⟩
        have E3 := mkHid (E2.out.next hg2 ho2 hlt)
        clear ho2 hg2 E2 hmk
        go_wp2_with fail
        cases hn1 : num.G s (a + 33 : Nat) with
        | error c =>
          have R := mkHid (pack.rec_err1 hn1)
          have HF := mkHid (number_no g s (a + 33) a c _ E3.out.rd hs (by omega) hn1)
          unfold noRec at HF
          refine HF.out.mono ?_
          rintro e w3 ⟨rfl, hb3⟩
          exact ⟨rfl, EPost.no R.out (E3.out.below hb3).grew⟩
        | ok x =>
          obtain ⟨k, p⟩ := x
          obtain ⟨P, rfl, hp1, hp2⟩ := pack.G_nat hn1
          refine (number_ok g s (a + 33) a k P _ E3.out.rd hs (by omega) hn1).mono ?_
          rintro e w3 ⟨rfl, ho3, hg3⟩
          have E4 := mkHid (E3.out.next hg3 ho3 hlt)
          clear ho3 hg3 E3
          go_wp2_with fail
          cases hn2 : num.G s (P : Nat) with
          | error c =>
            have R := mkHid (pack.rec_err2 hn1 hn2)
            have HF := mkHid (number_no g s P a c _ E4.out.rd hs (by omega) hn2)
            unfold noRec at HF
            refine HF.out.mono ?_
            rintro e w4 ⟨rfl, hb4⟩
            exact ⟨rfl, EPost.no R.out (E4.out.below hb4).grew⟩
          | ok y =>
            obtain ⟨n, q⟩ := y
            obtain ⟨Q, rfl, hq1, hq2⟩ := pack.G_nat hn2
            refine (number_ok g s P a n Q _ E4.out.rd hs (by omega) hn2).mono ?_
            rintro e w4 ⟨rfl, ho4, hg4⟩
            have E5 := mkHid (E4.out.next hg4 ho4 hlt)
            have d1 := (cel3 E5.out.rd).2.1
            clear ho4 hg4 E4
            go_wp2_with fail
            by_cases hN : 0 ≤ n ∧ n ≤ (s.size : Int) - Q
            · obtain ⟨N, rfl⟩ : ∃ N : Nat, n = N := ⟨n.toNat, by omega⟩
              have HT := mkHid (take_ok g s Q N a _ E5.out.rd hs (by omega))
              rw [show ((Q : Int) + (N : Int)) = ((Q + N : Nat) : Int) by omega] at HT
              refine HT.out.mono ?_
              rintro e w5 ⟨rfl, ho5, hg5⟩
              have E6 := mkHid (E5.out.next hg5 ho5 hlt)
              have HK := mkHid (pack.key_impl k (s.extract Q (Q + N)) w5 I (gv_grew hG E6.out.grew hg0))
              clear ho5 hg5 E5 HT d1
              go_wp2_with fail
              refine HK.out.mono ?_
              rintro e w6 ⟨rfl, hb6⟩
              have E7 := mkHid (E6.out.below hb6)
              clear hb6 E6 HK
              by_cases hk : bKey (k, s.extract Q (Q + N)) = keyAt s a
              · have R := mkHid (pack.rec_ok hB hm hn1 hn2 (by omega) hk)
                have hkk : (!(bKey (k, s.extract Q (Q + N))).toList == (keyAt s a).toList) = false := by rw [hk]; simp
                have HC := mkHid (fun wx => clone.clone_any (keyAt s a) wx (by rw [pack.keyAt_size hB]; omega))
                generalize bKey (k, s.extract Q (Q + N)) = bk at *
                clear hn1 hn2 hm
                go_wp2_with fail
                refine (HC.out _).mono ?_
                rintro e w7 ⟨rfl, hb7⟩
                have E8 := mkHid (E7.out.below hb7)
                obtain ⟨q0, q1, q2, q3⟩ := cel4 E8.out.out
                have qf := unfrozen E8.out.out
                clear hb7 E7 HC
                go_wp2
                exact bodyPost_ret (v := .agg #[.string (keyAt s a), .int .i64 k, .int .i64 (Q : Int), .int .i64 (N : Int)]) (by simp [results, Tryd.results71, go_sem, q0, q1, q2, q3]) rfl (EPost.yes R.out (E8.out.fin hlt _ _ _ _).1 (E8.out.fin hlt _ _ _ _).2)
              · have R := mkHid (pack.rec_key hn1 hn2 hk)
                have hkk : (!(bKey (k, s.extract Q (Q + N))).toList == (keyAt s a).toList) = true := by simp [txt_ne hk]
                have HF := mkHid (refuse_any g s _ a _ E7.out.rd)
                unfold noRec at HF
                generalize bKey (k, s.extract Q (Q + N)) = bk at *
                clear hn1 hn2 hm
                go_wp2_with fail
                refine HF.out.mono ?_
                rintro e w7 ⟨rfl, hb7⟩
                exact ⟨rfl, EPost.no R.out (E7.out.below hb7).grew⟩
            · have R := mkHid (pack.rec_size hn1 hn2 (by omega))
              have HF := mkHid (take_no g s Q n a _ E5.out.rd hs (by omega) (by omega))
              unfold noRec at HF
              refine HF.out.mono ?_
              rintro e w5 ⟨rfl, hb5⟩
              exact ⟨rfl, EPost.no R.out (E5.out.below hb5).grew⟩
      · have R := mkHid (pack.rec_short (s := s) (a := a) (by omega))
        have HF := mkHid (take_no g s (a + 1) 32 a _ E2.out.rd hs hA (.inr (by omega)))
        unfold noRec at HF
        refine HF.out.mono ?_
        rintro e w2 ⟨rfl, hb2⟩
        exact ⟨rfl, EPost.no R.out (E2.out.below hb2).grew⟩
    · have R := mkHid (pack.rec_mark hm)
      have hmk : (!(s.extract a (a + 1)).toList == [66]) = true := by
        have h0 := txt_ne (mark_not (by omega) hm)
        rw [ByteArray.toList_eq (⟨#[66]⟩ : ByteArray)] at h0
        change ((s.extract a (a + 1)).toList == [66]) = false at h0
        rw [h0]
        rfl
      have HF := mkHid (refuse_any g s _ a _ E2.out.rd)
      unfold noRec at HF
      go_wp2_with fail
      refine HF.out.mono ?_
      rintro e w2 ⟨rfl, hb2⟩
      exact ⟨rfl, EPost.no R.out (E2.out.below hb2).grew⟩
  · have R := mkHid (pack.rec_short (s := s) (a := a) (by omega))
    have HF := mkHid (take_no g s a 1 a _ E1.out.rd hs ha (.inr (by omega)))
    unfold noRec at HF
    refine HF.out.mono ?_
    rintro e w1 ⟨rfl, hb1⟩
    exact ⟨rfl, EPost.no R.out (E1.out.below hb1).grew⟩
end Go.Proofs.YtfochhnaodgpeaaDoor.rdr
