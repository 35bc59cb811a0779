/-
  What the method entry of impl.packReader answers and leaves: the record at its place, or a panic that tells that place. Conditions: the reader lies in a block of its own; a text of at most 20,000 bytes; the numbers of the rounds are there.
  What impl.entryAt answers and leaves: the entry of the record at a place, or that there is none; a panic of its reader is recovered. Conditions: a text of at most 20,000 bytes; the numbers of the rounds are there.
  What impl.PackScan answers and leaves: a row of its own of the entries. Conditions: at most 1,048,576 bytes; the numbers of the rounds are there.
-/
import Derived.Test.YtppjbmmeacmoiaaDoorRdrI
import Derived.Test.YtppjbmmeacmoiaaDoorRecP
import Derived.Test.YtppjbmmeacmoiaaDoorBlobF
import Derived.Test.YtppjbmmeacmoiaaDoorClone
import Derived.Test.YtppjbmmeacmoiaaDoorScanP
import Derived.Test.YtppjbmmeacmoiaaDoorCells
import Derived.Defers
import Derived.Recover
namespace Go.Proofs.YtppjbmmeacmoiaaDoor.rdr
open Go.RowKit Go.Joins
open Go.Proofs.YtppjbmmeacmoiaaDoor.base Go.Proofs.YtppjbmmeacmoiaaDoor.blk Go.Proofs.YtppjbmmeacmoiaaDoor.aid
open Go.Proofs.YtppjbmmeacmoiaaDoor.pack (bKey bRight recAt keyAt)
open Go.Proofs.YtppjbmmeacmoiaaDoor.sha (digest GV)
set_option linter.unusedVariables false

theorem txt_ne {r s : ByteArray} (h : ¬ r = s) : (r.toList == s.toList) = false := by
  rw [ByteArray.toList_eq, ByteArray.toList_eq]
  simp
  intro e
  apply h
  apply ByteArray.ext
  exact e
theorem rd_from {w : World} {g : Nat} {s : ByteArray} {a f : Int} (h : w.heap[g]? = some (rdO s a f)) (b : Int) : (w.setCell ⟨g, 2, none⟩ (.int .i64 b)).heap[g]? = some (rdO s a b) := by
  rw [block_setCell (i := 2) h (.int .i64 b)]
  rfl

/-- what entry answers -/
def EPost (w : World) (g : Nat) (s : ByteArray) (a : Nat) (e : Ending) (w' : World) : Prop :=
  match recAt s a with
  | none => e = noRec a ∧ w.grownBy w' (some g)
  | some (k, q, n) => e = .returned (.agg #[.string (keyAt s a), .int .i64 k, .int .i64 (q : Int), .int .i64 (n : Int)]) ∧ w'.heap[g]? = some (rdO s ((q + n : Nat) : Int) a) ∧ w.grownBy w' (some g)
theorem EPost.no {w w' : World} {g : Nat} {s : ByteArray} {a : Nat} (h : recAt s a = none) (hg : w.grownBy w' (some g)) : EPost w g s a (noRec a) w' := by
  unfold EPost
  rw [h]
  exact ⟨rfl, hg⟩
theorem EPost.yes {w w' : World} {g : Nat} {s : ByteArray} {a : Nat} {k : Int} {q n : Nat} (h : recAt s a = some (k, q, n)) (hp : w'.heap[g]? = some (rdO s ((q + n : Nat) : Int) a)) (hg : w.grownBy w' (some g)) :
    EPost w g s a (.returned (.agg #[.string (keyAt s a), .int .i64 k, .int .i64 (q : Int), .int .i64 (n : Int)])) w' := by
  unfold EPost
  rw [h]
  exact ⟨rfl, hp, hg⟩
/-- the entry that is being made -/
def enO : Obj := .cells #[.string ⟨#[]⟩, .int .i64 0, .int .i64 0, .int .i64 0] 31
structure En (w : World) (g : Nat) (o : Obj) (W : World) : Prop where
  rd : W.heap[g]? = some o
  out : W.heap[w.heap.size]? = some enO
  grew : w.grownBy W (some g)
theorem En.below {w W W' : World} {g : Nat} {o : Obj} (h : En w g o W) (hb : Below W.heap.size W W') : En w g o W' := ⟨blk_below h.rd hb, blk_below h.out hb, grew_below h.grew hb⟩
theorem En.next {w W W' : World} {g : Nat} {o o' : Obj} (h : En w g o W) (hg : W.grownBy W' (some g)) (ho : W'.heap[g]? = some o') (hlt : g < w.heap.size) : En w g o' W' :=
  ⟨ho, (hg.block _ (Array.getElem?_eq_some_iff.1 h.out).1 (by simp; omega)).trans h.out, grew_grew h.grew hg⟩
theorem En.fin {w W : World} {g : Nat} {o : Obj} (h : En w g o W) (hlt : g < w.heap.size) (a b c d : Value) :
    ((((W.setCell ⟨w.heap.size, 0, none⟩ a).setCell ⟨w.heap.size, 1, none⟩ b).setCell ⟨w.heap.size, 2, none⟩ c).setCell ⟨w.heap.size, 3, none⟩ d).heap[g]? = some o ∧
      w.grownBy ((((W.setCell ⟨w.heap.size, 0, none⟩ a).setCell ⟨w.heap.size, 1, none⟩ b).setCell ⟨w.heap.size, 2, none⟩ c).setCell ⟨w.heap.size, 3, none⟩ d) (some g) := by
  have e : ∀ k, k < w.heap.size → ((((W.setCell ⟨w.heap.size, 0, none⟩ a).setCell ⟨w.heap.size, 1, none⟩ b).setCell ⟨w.heap.size, 2, none⟩ c).setCell ⟨w.heap.size, 3, none⟩ d).heap[k]? = W.heap[k]? := fun k hk => by
    rw [Below.heap_setCell _ _ _ k (by simp; omega), Below.heap_setCell _ _ _ k (by simp; omega), Below.heap_setCell _ _ _ k (by simp; omega), Below.heap_setCell _ _ _ k (by simp; omega)]
  exact ⟨(e g hlt).trans h.rd, h.grew.os, h.grew.tape, h.grew.output, by simpa using h.grew.size, fun k hk hne => (e k hk).trans (h.grew.block k hk hne)⟩
theorem En.start {w : World} {g : Nat} {s : ByteArray} {a f : Int} (h : w.heap[g]? = some (rdO s a f)) (b : Int) : En w g (rdO s a b) ((w.setCell ⟨g, 2, none⟩ (.int .i64 b)).alloc enO) :=
  ⟨blk_old (rd_from h b) enO, blk_new _ enO w.heap.size (by simp), grew_below (grew_cell _ _ _ _) (below_alloc1 _ enO)⟩

theorem gv_grew {w w' : World} {g : Nat} (h : GV w) (hg : w.grownBy w' (some g)) (h0 : 1 < g) : GV w' := fun i hi => by
  rw [World.cell?_of_block (w := w) (a := ⟨1, i, none⟩) (hg.block 1 h.lt (by simp; omega))]
  exact h i hi

theorem take1 (g : Nat) (s : ByteArray) (a : Nat) (f : Int) (w : World) (h : w.heap[g]? = some (rdO s a f)) (hs : s.size ≤ 20000) (hn : a + 1 ≤ s.size) :
    Calls Tryd.prog 42 #[.pointer (some ⟨g, 0, none⟩), .int .i64 1] w fun e w' => e = .returned (.string (s.extract a (a + 1))) ∧ w'.heap[g]? = some (rdO s ((a + 1 : Nat) : Int) f) ∧ w.grownBy w' (some g) := by
  have h1 := take_ok g s a 1 f w h hs hn
  simpa using h1
theorem take32 (g : Nat) (s : ByteArray) (a : Nat) (f : Int) (w : World) (h : w.heap[g]? = some (rdO s ((a + 1 : Nat) : Int) f)) (hs : s.size ≤ 20000) (hn : a + 33 ≤ s.size) :
    Calls Tryd.prog 42 #[.pointer (some ⟨g, 0, none⟩), .int .i64 32] w fun e w' => e = .returned (.string (keyAt s a)) ∧ w'.heap[g]? = some (rdO s ((a + 33 : Nat) : Int) f) ∧ w.grownBy w' (some g) := by
  have h1 := take_ok g s (a + 1) 32 f w h hs (by omega)
  have e : ((a + 1 : Nat) : Int) + ((32 : Nat) : Int) = ((a + 33 : Nat) : Int) := by omega
  rw [e] at h1
  exact h1
theorem mark_is {s : ByteArray} {a : Nat} (h : s.data.toList[a]? = some 66) : s.extract a (a + 1) = ⟨#[66]⟩ := by
  have hl : a < s.data.toList.length := (List.getElem?_eq_some_iff.1 h).1
  apply ByteArray.ext
  rw [ByteArray.data_extract]
  apply Array.ext'
  rw [Array.toList_extract]
  simp only [List.extract_eq_take_drop]
  rw [List.drop_eq_getElem_cons hl]
  have := (List.getElem?_eq_some_iff.1 h).2
  simp [this]
theorem mark_not {s : ByteArray} {a : Nat} (hl : a < s.size) (h : s.data.toList[a]? ≠ some 66) : ¬ s.extract a (a + 1) = ⟨#[66]⟩ := by
  intro e
  apply h
  have hl' : a < s.data.toList.length := by rw [Array.length_toList]; exact hl
  have e2 := congrArg (fun b : ByteArray => b.data.toList) e
  simp only [ByteArray.data_extract, Array.toList_extract, List.extract_eq_take_drop] at e2
  rw [List.drop_eq_getElem_cons hl'] at e2
  simp at e2
  rw [List.getElem?_eq_getElem hl']
  simp [e2]

set_option maxRecDepth 100000 in
set_option maxHeartbeats 2000000 in
theorem entry_any (g : Nat) (s : ByteArray) (a : Nat) (f : Int) (w : World) (h : w.heap[g]? = some (rdO s a f)) (hs : s.size ≤ 20000) (ha : a ≤ s.size) (I : himpl.IDigest) (hG : GV w) (hg0 : 1 < g) :
    Calls Tryd.prog 34 #[.pointer (some ⟨g, 0, none⟩)] w (EPost w g s a) := by
  have hlt := (Array.getElem?_eq_some_iff.1 h).1
  have c1 : ∀ o, (w.alloc o).cell? ⟨g, 1, none⟩ = some (.int .i64 a) := fun o => (cel3 (blk_old h o)).2.1
  have c2 : ∀ o, (w.alloc o).cell? ⟨g, 2, none⟩ = some (.int .i64 f) := fun o => (cel3 (blk_old h o)).2.2
  have hf : ∀ o j, (w.alloc o).frozen? ⟨g, j, none⟩ = false := fun o j => unfrozen (blk_old h o) j
  have E1 := mkHid (En.start h (a : Int))
  unfold enO at E1
  clear h
  go_enter Tryd.func34, Tryd.ntmps34
  go_wp2_with fail
  generalize (w.setCell ⟨g, 2, none⟩ (.int .i64 a)).alloc (.cells #[.string ⟨#[]⟩, .int .i64 0, .int .i64 0, .int .i64 0] 31) = W1 at *
  clear c1 c2 hf
  by_cases hA : a + 1 ≤ s.size
  · refine (take1 g s a a _ E1.out.rd hs hA).mono ?_
    rintro e w1 ⟨rfl, ho1, hg1⟩
    have E2 := mkHid (E1.out.next hg1 ho1 hlt)
    clear ho1 hg1 E1
    by_cases hm : s.data.toList[a]? = some 66
    · have hmk : (!(s.extract a (a + 1)).toList == [66]) = false := by rw [mark_is hm, ByteArray.toList_eq]; rfl
      go_wp2_with fail
      by_cases hB : a + 33 ≤ s.size
      · refine (take32 g s a a _ E2.out.rd hs hB).mono ?_
        rintro e w2 ⟨rfl, ho2, hg2⟩
        have E3 := mkHid (E2.out.next hg2 ho2 hlt)
        clear ho2 hg2 E2 hmk
        go_wp2_with fail
        cases hn1 : num.G s (a + 33 : Nat) with
        | error c =>
          have R := mkHid (pack.rec_err1 hn1)
          have HF := mkHid (number_no g s (a + 33) a c _ E3.out.rd hs (by omega) hn1)
          unfold noRec at HF
          refine HF.out.mono ?_
          rintro e w3 ⟨rfl, hb3⟩
          exact ⟨rfl, EPost.no R.out (E3.out.below hb3).grew⟩
        | ok x =>
          obtain ⟨k, p⟩ := x
          obtain ⟨P, rfl, hp1, hp2⟩ := pack.G_nat hn1
          refine (number_ok g s (a + 33) a k P _ E3.out.rd hs (by omega) hn1).mono ?_
          rintro e w3 ⟨rfl, ho3, hg3⟩
          have E4 := mkHid (E3.out.next hg3 ho3 hlt)
          clear ho3 hg3 E3
          go_wp2_with fail
          cases hn2 : num.G s (P : Nat) with
          | error c =>
            have R := mkHid (pack.rec_err2 hn1 hn2)
            have HF := mkHid (number_no g s P a c _ E4.out.rd hs (by omega) hn2)
            unfold noRec at HF
            refine HF.out.mono ?_
            rintro e w4 ⟨rfl, hb4⟩
            exact ⟨rfl, EPost.no R.out (E4.out.below hb4).grew⟩
          | ok y =>
            obtain ⟨n, q⟩ := y
            obtain ⟨Q, rfl, hq1, hq2⟩ := pack.G_nat hn2
            refine (number_ok g s P a n Q _ E4.out.rd hs (by omega) hn2).mono ?_
            rintro e w4 ⟨rfl, ho4, hg4⟩
            have E5 := mkHid (E4.out.next hg4 ho4 hlt)
            have d1 := (cel3 E5.out.rd).2.1
            clear ho4 hg4 E4
            go_wp2_with fail
            by_cases hN : 0 ≤ n ∧ n ≤ (s.size : Int) - Q
            · obtain ⟨N, rfl⟩ : ∃ N : Nat, n = N := ⟨n.toNat, by omega⟩
              have HT := mkHid (take_ok g s Q N a _ E5.out.rd hs (by omega))
              rw [show ((Q : Int) + (N : Int)) = ((Q + N : Nat) : Int) by omega] at HT
              refine HT.out.mono ?_
              rintro e w5 ⟨rfl, ho5, hg5⟩
              have E6 := mkHid (E5.out.next hg5 ho5 hlt)
              have HK := mkHid (pack.key_impl k (s.extract Q (Q + N)) w5 I (gv_grew hG E6.out.grew hg0))
              clear ho5 hg5 E5 HT d1
              go_wp2_with fail
              refine HK.out.mono ?_
              rintro e w6 ⟨rfl, hb6⟩
              have E7 := mkHid (E6.out.below hb6)
              clear hb6 E6 HK
              by_cases hk : bKey (k, s.extract Q (Q + N)) = keyAt s a
              · have R := mkHid (pack.rec_ok hB hm hn1 hn2 (by omega) hk)
                have hkk : (!(bKey (k, s.extract Q (Q + N))).toList == (keyAt s a).toList) = false := by rw [hk]; simp
                have HC := mkHid (fun wx => clone.clone_any (keyAt s a) wx (by rw [pack.keyAt_size hB]; omega))
                generalize bKey (k, s.extract Q (Q + N)) = bk at *
                clear hn1 hn2 hm
                go_wp2_with fail
                refine (HC.out _).mono ?_
                rintro e w7 ⟨rfl, hb7⟩
                have E8 := mkHid (E7.out.below hb7)
                obtain ⟨q0, q1, q2, q3⟩ := cel4 E8.out.out
                have qf := unfrozen E8.out.out
                clear hb7 E7 HC
                go_wp2
                exact bodyPost_ret (v := .agg #[.string (keyAt s a), .int .i64 k, .int .i64 (Q : Int), .int .i64 (N : Int)]) (by simp [results, Tryd.results34, go_sem, q0, q1, q2, q3]) rfl (EPost.yes R.out (E8.out.fin hlt _ _ _ _).1 (E8.out.fin hlt _ _ _ _).2)
              · have R := mkHid (pack.rec_key hn1 hn2 hk)
                have hkk : (!(bKey (k, s.extract Q (Q + N))).toList == (keyAt s a).toList) = true := by simp [txt_ne hk]
                have HF := mkHid (refuse_any g s _ a _ E7.out.rd)
                unfold noRec at HF
                generalize bKey (k, s.extract Q (Q + N)) = bk at *
                clear hn1 hn2 hm
                go_wp2_with fail
                refine HF.out.mono ?_
                rintro e w7 ⟨rfl, hb7⟩
                exact ⟨rfl, EPost.no R.out (E7.out.below hb7).grew⟩
            · have R := mkHid (pack.rec_size hn1 hn2 (by omega))
              have HF := mkHid (take_no g s Q n a _ E5.out.rd hs (by omega) (by omega))
              unfold noRec at HF
              refine HF.out.mono ?_
              rintro e w5 ⟨rfl, hb5⟩
              exact ⟨rfl, EPost.no R.out (E5.out.below hb5).grew⟩
      · have R := mkHid (pack.rec_short (s := s) (a := a) (by omega))
        have HF := mkHid (take_no g s (a + 1) 32 a _ E2.out.rd hs hA (.inr (by omega)))
        unfold noRec at HF
        refine HF.out.mono ?_
        rintro e w2 ⟨rfl, hb2⟩
        exact ⟨rfl, EPost.no R.out (E2.out.below hb2).grew⟩
    · have R := mkHid (pack.rec_mark hm)
      have hmk : (!(s.extract a (a + 1)).toList == [66]) = true := by
        have h0 := txt_ne (mark_not (by omega) hm)
        rw [ByteArray.toList_eq (⟨#[66]⟩ : ByteArray)] at h0
        change ((s.extract a (a + 1)).toList == [66]) = false at h0
        rw [h0]
        rfl
      have HF := mkHid (refuse_any g s _ a _ E2.out.rd)
      unfold noRec at HF
      go_wp2_with fail
      refine HF.out.mono ?_
      rintro e w2 ⟨rfl, hb2⟩
      exact ⟨rfl, EPost.no R.out (E2.out.below hb2).grew⟩
  · have R := mkHid (pack.rec_short (s := s) (a := a) (by omega))
    have HF := mkHid (take_no g s a 1 a _ E1.out.rd hs ha (.inr (by omega)))
    unfold noRec at HF
    refine HF.out.mono ?_
    rintro e w1 ⟨rfl, hb1⟩
    exact ⟨rfl, EPost.no R.out (E1.out.below hb1).grew⟩
end Go.Proofs.YtppjbmmeacmoiaaDoor.rdr
namespace Go.Proofs.YtppjbmmeacmoiaaDoor.rdr
open Go.RowKit Go.Joins
open Go.Proofs.YtppjbmmeacmoiaaDoor.base Go.Proofs.YtppjbmmeacmoiaaDoor.blk Go.Proofs.YtppjbmmeacmoiaaDoor.aid
open Go.Proofs.YtppjbmmeacmoiaaDoor.pack (bKey bRight recAt keyAt)
open Go.Proofs.YtppjbmmeacmoiaaDoor.sha (digest GV)
set_option linter.unusedVariables false
set_option linter.unusedSimpArgs false

set_option maxRecDepth 100000 in
theorem catch_idle (p : Addr) (b : Bool) (w : World) (hc : w.cell? p = some (.bool b)) (hz : w.frozen? p = false) :
    CallsD Tryd.prog 33 #[.pointer (some p)] .returning w fun e u' w' => e = .returned (.tuple #[]) ∧ u' = .returning ∧ w' = w.setCell p (.bool true) := by
  refine callsD_of_wpS Tryd.func33 rfl fun c₀ cs hu => ?_
  apply wpS_region
  simp [wpOpsS, go_sem, recoverD, hu, Tryd.ntmps33, Exit.thenS, hc, hz, bodyPostS, results, Tryd.results33]
  cases c₀
  simp_all

set_option maxRecDepth 100000 in
theorem catch_panicking (p : Addr) (b : Bool) (u : TypeId) (pv : Value) (older : List PanicEntry) (w : World) (hc : w.cell? p = some (.bool b)) (hz : w.frozen? p = false) :
    CallsD Tryd.prog 33 #[.pointer (some p)] (.panicking ({ v := .iface u pv, recovered := false } :: older)) w fun e u' w' =>
      e = .returned (.tuple #[]) ∧ u' = .panicking ({ v := .iface u pv, recovered := true } :: older) ∧ w' = w.setCell p (.bool false) := by
  refine callsD_of_wpS Tryd.func33 rfl fun c₀ cs hu => ?_
  apply wpS_region
  simp [wpOpsS, go_sem, recoverD, hu, Tryd.ntmps33, Exit.thenS, hc, hz, bodyPostS, results, Tryd.results33]

/-- the three variables of entryAt -/
structure T3 (w : World) (s : ByteArray) (a f : Int) (W : World) : Prop where
  below : Below w.heap.size w W
  e0 : W.heap[w.heap.size]? = some (.cells #[.string ⟨#[]⟩, .int .i64 0, .int .i64 0, .int .i64 0] 31)
  e1 : W.heap[w.heap.size + 1]? = some (.cells #[.bool false] 4)
  e2 : W.heap[w.heap.size + 1 + 1]? = some (rdO s a f)
theorem T3.start (w : World) (s : ByteArray) (a : Int) : T3 w s a 0 (((w.alloc (.cells #[.string ⟨#[]⟩, .int .i64 0, .int .i64 0, .int .i64 0] 31)).alloc (.cells #[.bool false] 4)).alloc (.cells #[.string s, .int .i64 a, .int .i64 0] 58)) :=
  ⟨((below_alloc1 w _).alloc (by simp) _).alloc (by simp; omega) _, blk_old (blk_old (blk_new w _ _ rfl) _) _, blk_old (blk_new _ _ _ (by simp)) _, blk_new _ _ _ (by simp)⟩
theorem T3.grew {w W W' : World} {s : ByteArray} {a f : Int} (h : T3 w s a f W) (hg : W.grownBy W' (some (w.heap.size + 1 + 1))) : Below w.heap.size w W' ∧ W'.heap[w.heap.size]? = W.heap[w.heap.size]? ∧ W'.heap[w.heap.size + 1]? = W.heap[w.heap.size + 1]? :=
  ⟨below_of_grew h.below h.below.size hg (by omega), hg.block _ (Array.getElem?_eq_some_iff.1 h.e0).1 (by simp; omega), hg.block _ (Array.getElem?_eq_some_iff.1 h.e1).1 (by simp)⟩

set_option maxRecDepth 100000 in
set_option maxHeartbeats 2000000 in
theorem entryAt_no (s : ByteArray) (a : Nat) (w : World) (hs : s.size ≤ 20000) (ha : a ≤ s.size) (I : himpl.IDigest) (hG : GV w) (hR : recAt s a = none) :
    Calls Tryd.prog 22 #[.string s, .int .i64 a] w fun e w' => e = .returned (.tuple #[.agg #[.string ⟨#[]⟩, .int .i64 0, .int .i64 0, .int .i64 0], .bool false]) ∧ Below w.heap.size w w' := by
  have hmf : ∀ (fn : Fn) (first cap : Array Value) (w : World), (Instr.makeFunc fn first cap).run Tryd.prog w = .ok (.func fn first cap) w := fun _ _ _ _ => rfl
  have S0 := mkHid (T3.start w s a)
  have HE : Hid (Calls Tryd.prog 34 #[.pointer (some ⟨w.heap.size + 1 + 1, 0, none⟩)] (((w.alloc (.cells #[.string ⟨#[]⟩, .int .i64 0, .int .i64 0, .int .i64 0] 31)).alloc (.cells #[.bool false] 4)).alloc (.cells #[.string s, .int .i64 a, .int .i64 0] 58)) fun e w' => e = .panicked [{ v := .iface 87 (.agg #[.int .i64 a]), recovered := false }] ∧ ((((w.alloc (.cells #[.string ⟨#[]⟩, .int .i64 0, .int .i64 0, .int .i64 0] 31)).alloc (.cells #[.bool false] 4)).alloc (.cells #[.string s, .int .i64 a, .int .i64 0] 58))).grownBy w' (some (w.heap.size + 1 + 1))) :=
    mkHid ((entry_any (w.heap.size + 1 + 1) s a 0 _ S0.out.e2 hs ha I (hG.below S0.out.below hG.lt) (by omega)).mono (by intro e w' h; unfold EPost at h; rw [hR] at h; exact h))
  go_enter_defers Tryd.func22, Tryd.ntmps22
  go_wp2_with fail
  refine HE.out.mono ?_
  rintro e w1 ⟨rfl, hg1⟩
  obtain ⟨hb, q0, q1⟩ := S0.out.grew hg1
  rw [S0.out.e0] at q0
  rw [S0.out.e1] at q1
  obtain ⟨r0, r1, r2, r3⟩ := cel4 q0
  have b0 := cel1 q1
  refine leaves_cons (f := 33) (args := #[.pointer (some ⟨w.heap.size + 1, 0, none⟩)]) (by simp) (by simp [go_sem]) ?_
  refine (catch_panicking ⟨w.heap.size + 1, 0, none⟩ false _ _ [] _ b0 (unfrozen q1 0)).mono ?_
  rintro e u' w2 ⟨rfl, rfl, rfl⟩
  have hB := hb.setCell (p := ⟨w.heap.size + 1, 0, none⟩) (by simp) (.bool false)
  simp [Leaves, settle, results, Tryd.results22, go_sem, r0, r1, r2, r3, b0, hB]

set_option maxRecDepth 100000 in
set_option maxHeartbeats 2000000 in
theorem entryAt_yes (s : ByteArray) (a : Nat) (k : Int) (q n : Nat) (w : World) (hs : s.size ≤ 20000) (ha : a ≤ s.size) (I : himpl.IDigest) (hG : GV w) (hR : recAt s a = some (k, q, n)) :
    Calls Tryd.prog 22 #[.string s, .int .i64 a] w fun e w' => e = .returned (.tuple #[.agg #[.string (keyAt s a), .int .i64 k, .int .i64 (q : Int), .int .i64 (n : Int)], .bool true]) ∧ Below w.heap.size w w' := by
  have hmf : ∀ (fn : Fn) (first cap : Array Value) (w : World), (Instr.makeFunc fn first cap).run Tryd.prog w = .ok (.func fn first cap) w := fun _ _ _ _ => rfl
  have S0 := mkHid (T3.start w s a)
  have HE : Hid (Calls Tryd.prog 34 #[.pointer (some ⟨w.heap.size + 1 + 1, 0, none⟩)] (((w.alloc (.cells #[.string ⟨#[]⟩, .int .i64 0, .int .i64 0, .int .i64 0] 31)).alloc (.cells #[.bool false] 4)).alloc (.cells #[.string s, .int .i64 a, .int .i64 0] 58)) fun e w' => e = .returned (.agg #[.string (keyAt s a), .int .i64 k, .int .i64 (q : Int), .int .i64 (n : Int)]) ∧ ((((w.alloc (.cells #[.string ⟨#[]⟩, .int .i64 0, .int .i64 0, .int .i64 0] 31)).alloc (.cells #[.bool false] 4)).alloc (.cells #[.string s, .int .i64 a, .int .i64 0] 58))).grownBy w' (some (w.heap.size + 1 + 1))) :=
    mkHid ((entry_any (w.heap.size + 1 + 1) s a 0 _ S0.out.e2 hs ha I (hG.below S0.out.below hG.lt) (by omega)).mono (by intro e w' h; unfold EPost at h; rw [hR] at h; exact ⟨h.1, h.2.2⟩))
  go_enter_defers Tryd.func22, Tryd.ntmps22
  go_wp2_with fail
  refine HE.out.mono ?_
  rintro e w1 ⟨rfl, hg1⟩
  have hq := S0.out.grew hg1
  rw [S0.out.e0, S0.out.e1] at hq
  have HQ := mkHid hq
  obtain ⟨r0, r1, r2, r3⟩ := cel4 HQ.out.2.1
  have b0 := cel1 HQ.out.2.2
  have f0 := unfrozen HQ.out.2.1
  have f1 := unfrozen HQ.out.2.2
  clear hq hg1 HE
  go_wp2
  refine leaves_cons (f := 33) (args := #[.pointer (some ⟨w.heap.size + 1, 0, none⟩)]) (by simp) (by simp [go_sem]) ?_
  refine (catch_idle ⟨w.heap.size + 1, 0, none⟩ true _ (by simp [go_sem, b0]) (by simp [go_sem, f1])).mono ?_
  rintro e u' w2 ⟨rfl, rfl, rfl⟩
  have hB := (((((HQ.out.1.setCell (p := ⟨w.heap.size, 0, none⟩) (by simp) (.string (keyAt s a))).setCell (p := ⟨w.heap.size, 1, none⟩) (by simp) (.int .i64 k)).setCell (p := ⟨w.heap.size, 2, none⟩) (by simp) (.int .i64 (q : Int))).setCell (p := ⟨w.heap.size, 3, none⟩) (by simp) (.int .i64 (n : Int))).setCell (p := ⟨w.heap.size + 1, 0, none⟩) (by simp) (.bool true)).setCell (p := ⟨w.heap.size + 1, 0, none⟩) (by simp) (.bool true)
  refine ⟨.tuple #[.agg #[.string (keyAt s a), .int .i64 k, .int .i64 (q : Int), .int .i64 (n : Int)], .bool true], ?_, rfl, hB⟩
  have hl : ((((((w1.setCell ⟨w.heap.size, 0, none⟩ (.string (keyAt s a))).setCell ⟨w.heap.size, 1, none⟩ (.int .i64 k)).setCell ⟨w.heap.size, 2, none⟩ (.int .i64 (q : Int))).setCell ⟨w.heap.size, 3, none⟩ (.int .i64 (n : Int))).setCell ⟨w.heap.size + 1, 0, none⟩ (.bool true)).setCell ⟨w.heap.size + 1, 0, none⟩ (.bool true)).cell? ⟨w.heap.size + 1, 0, none⟩ = some (.bool true) :=
    World.cell?_setCell_same _ _ _ (u := .bool true) (by simp [go_sem, b0])
  simp [results, Tryd.results22, go_sem, r0, r1, r2, r3, hl]
end Go.Proofs.YtppjbmmeacmoiaaDoor.rdr
namespace Go.Proofs.YtppjbmmeacmoiaaDoor.rdr
open Go.RowKit Go.Joins
open Go.Proofs.YtppjbmmeacmoiaaDoor.base Go.Proofs.YtppjbmmeacmoiaaDoor.blk Go.Proofs.YtppjbmmeacmoiaaDoor.aid
open Go.Proofs.YtppjbmmeacmoiaaDoor.pack (bKey bRight recAt keyAt scan scanT)
open Go.Proofs.YtppjbmmeacmoiaaDoor.row (bl en Rd Own OwnV appSem app_fold app1)
open Go.Proofs.YtppjbmmeacmoiaaDoor.sha (digest GV)
set_option linter.unusedVariables false
attribute [local go_sem ↓] app_fold

/-- a row of entries of its own is the answer -/
def SPost (w : World) (l : List (ByteArray × Int × Int × Int)) (e : Ending) (w' : World) : Prop :=
  ∃ a c, e = .returned (.slice a l.length c) ∧ OwnV 31 w' a (en l) ∧ (∀ b o s, a = some ⟨b, o, s⟩ → w.heap.size ≤ b) ∧ Below w.heap.size w w'
theorem infoE : (Tryd.prog.info? 31).map (fun i => (i.zero, i.size, i.bytes)) = some (some (.agg #[.string ⟨#[]⟩, .int .i64 0, .int .i64 0, .int .i64 0]), 4, 40) := by kernel_rfl
theorem appE (W : World) (base : Nat) (v : Value) (n : Nat) (acc : List (ByteArray × Int × Int × Int)) (x : ByteArray) (k a m : Int) (hn : acc.length = n) (hown : W.ownsRow base 31 4 v n (en acc)) (hb : base ≤ W.heap.size) (hl : n ≤ 1048576) :
    ∃ g c w2, (appSem #[28, 28] 28 #[v, .slice (some ⟨W.heap.size, 0, none⟩) 1 1]).run Tryd.prog (W.alloc (.cells #[.string x, .int .i64 k, .int .i64 a, .int .i64 m] 31)) = .ok (.slice (some ⟨g, 0, none⟩) (n + 1) c) w2 ∧ w2.ownsRow base 31 4 (.slice (some ⟨g, 0, none⟩) (n + 1) c) (n + 1) (en (acc ++ [(x, k, a, m)])) ∧ (W.alloc (.cells #[.string x, .int .i64 k, .int .i64 a, .int .i64 m] 31)).grownBy w2 v.ownBlock := by
  obtain ⟨g, c, w2, h1, h2, h3⟩ := app1 (W := W) (base := base) (S := 28) (T := 31) (size := 4) (bytes := 40) Tryd.underlying28 infoE rfl (by decide) v n (en acc) [.string x, .int .i64 k, .int .i64 a, .int .i64 m] rfl (by intro u hu; simp at hu; rcases hu with rfl | rfl | rfl | rfl <;> rfl) hown hb hl (by decide)
  exact ⟨g, c, w2, h1, by rw [row.en_snoc]; exact h2, h3⟩

theorem own_v {w : World} {base T size n c : Nat} {a : Option Addr} {xs : List Value} (h : w.ownsRow base T size (.slice a n c) n xs) : OwnV T w a xs := by
  have h' := h
  obtain ⟨hl, h2⟩ := h
  rcases h2 with ⟨e, h0⟩ | ⟨g, cap, cur, e, _⟩
  · subst h0
    exact .inl (List.eq_nil_of_length_eq_zero (by simpa using hl))
  · simp at e
    obtain ⟨rfl, rfl⟩ := e
    exact .inr ⟨g, rfl, Own.owns h'⟩
theorem own_ge {w : World} {base T size n c : Nat} {a : Option Addr} {xs : List Value} (h : w.ownsRow base T size (.slice a n c) n xs) : ∀ b o s, a = some ⟨b, o, s⟩ → base ≤ b := by
  intro b o s e
  subst e
  exact (h.lt b rfl).1
theorem row_below {w wr w1 : World} {T size n : Nat} {v : Value} {xs : List Value} (h : wr.ownsRow w.heap.size T size v n xs) (hb : Below w.heap.size w wr) (h1 : Below wr.heap.size wr w1) : w1.ownsRow w.heap.size T size v n xs ∧ Below w.heap.size w w1 :=
  ⟨h.kept (row := none) ⟨h1.os, h1.tape, h1.output, h1.size, fun k hk _ => h1.block k hk⟩ (by
    by_cases hne : v.ownBlock = none
    · exact .inl hne
    · exact .inr hne), hb.trans (h1.mono hb.size)⟩

set_option maxRecDepth 100000 in
set_option maxHeartbeats 2000000 in
theorem scan_any (s : ByteArray) (w : World) (hs : s.size ≤ 20000) (I : himpl.IDigest) (hG : GV w) :
    Calls Tryd.prog 12 #[.string s] w (SPost w (scanT s)) := by
  have h1 : (s.size : Int) ≤ 20000 := by omega
  have ET : Hid (scanT s = scan s 0) := mkHid (by unfold scanT; rw [if_neg (by omega)])
  have HN := mkHid (fun wx (a : Nat) (ha : a ≤ s.size) (hb : Below w.heap.size w wx) (hR : recAt s a = none) => entryAt_no s a wx hs ha I (hG.below hb hG.lt) hR)
  have HY := mkHid (fun wx (a : Nat) (ha : a ≤ s.size) (hb : Below w.heap.size w wx) (k : Int) (q n : Nat) (hR : recAt s a = some (k, q, n)) => entryAt_yes s a k q n wx hs ha I (hG.below hb hG.lt) hR)
  clear I hG
  go_enter Tryd.func12, Tryd.ntmps12
  go_wp2_with fail
  go_loopw [3, 4] (fun v i wr => ∃ (a : Nat) (acc : List (ByteArray × Int × Int × Int)) (va : Option Addr) (vc : Nat), a ≤ s.size ∧ i = .int .i64 a ∧ v = .slice va acc.length vc ∧ acc.length ≤ a ∧ Hid (acc ++ scan s a = scan s 0) ∧ Hid (wr.ownsRow w.heap.size 31 4 (.slice va acc.length vc) acc.length (en acc) ∧ Below w.heap.size w wr))
    (fun _ i _ => s.size - (intOf i).toNat)
  case atStart => exact ⟨0, [], none, 0, Nat.zero_le _, rfl, rfl, by simp, mkHid (by simp), mkHid ⟨World.ownsRow_nil _ _ _ _, Below.refl _ _⟩⟩
  case round =>
    obtain ⟨a, acc, va, vc, ha, rfl, rfl, hacc, hsc, hrow⟩ := hrel
    by_cases hlt : a < s.size
    · have hlti : (a : Int) < (s.size : Int) := by omega
      cases hR : recAt s a with
      | none =>
        have N1 : Hid (acc ++ scan s (a + 1) = scan s 0) := mkHid (by rw [← pack.scan_no hlt hR]; exact hsc.out)
        go_wp2_with fail
        refine (HN.out _ a ha hrow.out.2 hR).mono ?_
        rintro e w1 ⟨rfl, hb1⟩
        have N2 : Hid ((w1.alloc (.cells #[.string ⟨#[]⟩, .int .i64 0, .int .i64 0, .int .i64 0] 31)).ownsRow w.heap.size 31 4 (.slice va acc.length vc) acc.length (en acc) ∧ Below w.heap.size w (w1.alloc (.cells #[.string ⟨#[]⟩, .int .i64 0, .int .i64 0, .int .i64 0] 31))) :=
          mkHid (row_below hrow.out.1 hrow.out.2 (hb1.trans ((below_alloc1 w1 _).mono hb1.size)))
        clear hb1 hrow hsc HN HY hR
        go_wp2
        exact ⟨⟨a + 1, acc, va, vc, by omega, by go_num, rfl, by omega, N1, N2⟩, by simp [intOf]; omega⟩
      | some x =>
        obtain ⟨k, q, n⟩ := x
        have hq := pack.rec_some hR
        have N1 : Hid ((acc ++ [(keyAt s a, k, (q : Int), (n : Int))]) ++ scan s (q + n) = scan s 0) := mkHid (by rw [← hsc.out, pack.scan_yes hlt hR]; simp)
        have HYY : Hid (∀ wx, Below w.heap.size w wx → Calls Tryd.prog 22 #[.string s, .int .i64 a] wx fun e w' => e = .returned (.tuple #[.agg #[.string (keyAt s a), .int .i64 k, .int .i64 (q : Int), .int .i64 (n : Int)], .bool true]) ∧ Below wx.heap.size wx w') := mkHid (fun wx hb => HY.out wx a ha hb k q n hR)
        have hqn : (q : Int) + (n : Int) ≤ (s.size : Int) := by omega
        generalize keyAt s a = ky at *
        clear HY HN hsc hR
        go_wp2_with fail
        refine (HYY.out _ hrow.out.2).mono ?_
        rintro e w1 ⟨rfl, hb1⟩
        have E1 := mkHid (And.intro (row_below hrow.out.1 hrow.out.2 (hb1.trans ((below_alloc1 w1 (.cells #[.string ky, .int .i64 k, .int .i64 (q : Int), .int .i64 (n : Int)] 31)).mono hb1.size))) (blk_new w1 (.cells #[.string ky, .int .i64 k, .int .i64 (q : Int), .int .i64 (n : Int)] 31) w1.heap.size rfl))
        obtain ⟨g, c, w2, hrun, hown2, hgr⟩ := appE (w1.alloc (.cells #[.string ky, .int .i64 k, .int .i64 (q : Int), .int .i64 (n : Int)] 31)) w.heap.size (.slice va acc.length vc) acc.length acc ky k q n rfl E1.out.1.1 E1.out.1.2.size (by omega)
        have hlt2 : ∀ x, (Value.slice va acc.length vc).ownBlock = some x → x < w1.heap.size := fun x hx => Nat.lt_of_lt_of_le (hrow.out.1.lt x hx).2 hb1.size
        have E2 : w2.heap[w1.heap.size]? = some (.cells #[.string ky, .int .i64 k, .int .i64 (q : Int), .int .i64 (n : Int)] 31) :=
          (hgr.block w1.heap.size (by simp; omega) (fun e => Nat.lt_irrefl _ (hlt2 _ e.symm))).trans (blk_old E1.out.2 _)
        obtain ⟨c0, c1, c2, c3⟩ := cel4 E2
        have N2 : Hid (w2.ownsRow w.heap.size 31 4 (.slice (some ⟨g, 0, none⟩) (acc.length + 1) c) (acc.length + 1) (en (acc ++ [(ky, k, (q : Int), (n : Int))])) ∧ Below w.heap.size w w2) :=
          mkHid ⟨hown2, (E1.out.1.2.alloc E1.out.1.2.size (.cells #[.string ky, .int .i64 k, .int .i64 (q : Int), .int .i64 (n : Int)] 31)).grown hgr (by have := E1.out.1.2.size; simp at this ⊢; omega) (fun x hx => (E1.out.1.1.lt x hx).1)⟩
        rw [show (w1.alloc (.cells #[.string ky, .int .i64 k, .int .i64 (q : Int), .int .i64 (n : Int)] 31)).heap.size = w1.heap.size + 1 by simp] at hrun
        clear hb1 hrow HYY hown2 hgr E1 E2 hlt2
        go_wp2
        exact ⟨⟨q + n, acc ++ [(ky, k, (q : Int), (n : Int))], some ⟨g, 0, none⟩, c, by omega, by go_num, by simp, by simp; omega, N1, by simpa using N2⟩, by simp [intOf]; omega⟩
    · have hlti : ¬ ((a : Int) < (s.size : Int)) := by omega
      have E : Hid (scanT s = acc) := mkHid (by rw [ET.out, ← hsc.out, pack.scan_end (by omega)]; simp)
      clear hsc
      go_wp2
      go_ret
      rw [E.out]
      exact ⟨va, vc, rfl, own_v hrow.out.1, own_ge hrow.out.1, hrow.out.2⟩
set_option maxRecDepth 100000 in
theorem scan_impl (s : ByteArray) (w : World) (hs : s.size ≤ 1048576) (I : himpl.IDigest) (hG : GV w) :
    Calls Tryd.prog 12 #[.string s] w (SPost w (scanT s)) := by
  by_cases h : 20000 < (s.size : Int)
  · have E : scanT s = [] := by unfold scanT; rw [if_pos (by omega)]
    rw [E]
    clear E
    go_enter Tryd.func12, Tryd.ntmps12
    go_wp2
    go_ret
    exact ⟨none, 0, rfl, .inl rfl, fun b o s e => by simp at e, Below.refl _ _⟩
  · exact scan_any s w (by omega) I hG
end Go.Proofs.YtppjbmmeacmoiaaDoor.rdr
