/-
  What slices.Insert answers and leaves of one file. Conditions: a row of our own of at most 1,048,576 files; the file that is put in lies in a block of its own.
-/
import Derived.Test.YtfckgpmphcadeaaDrvQd
import Derived.Lib.AppendZerosOnto
import Derived.Lib.Overlaps
namespace Go.Proofs.Ytfckgpmphcadeaa.drv
open Go.RowKit Go.Joins Go.Sort
open Go.Proofs.Ytfckgpmphcadeaa.base Go.Proofs.Ytfckgpmphcadeaa.blk Go.Proofs.Ytfckgpmphcadeaa.aid
open Go.Proofs.Ytfckgpmphcadeaa.row (Rd Own OwnV appSem app_fold)
open Go.Proofs.Ytfckgpmphcadeaa.rwStored (cs)
set_option linter.unusedVariables false
set_option linter.unusedSimpArgs false

/-- put in at a place -/
def ins (l : List File) (i : Nat) (f : File) : List File := l.take i ++ f :: l.drop i
theorem cs_ins (l : List File) (i : Nat) (f : File) : cs (ins l i f) = cs (l.take i) ++ cs [f] ++ cs (l.drop i) := by
  unfold ins
  rw [rwStored.cs_app, rwStored.cs_cons, rwStored.cs_cons]
  simp [rwStored.cs_nil]
theorem ins_len {l : List File} {i : Nat} {f : File} (h : i ≤ l.length) : (ins l i f).length = l.length + 1 := by
  unfold ins
  simp
  omega
theorem one_rd {w : World} {vb : Nat} {x0 x1 : ByteArray} {x2 : Int} (h : w.heap[vb]? = some (.cells #[.string x0, .string x1, .int .i64 x2] 39 (0, 0))) : Rd w (some ⟨vb, 0, none⟩) (cs [(x0, x1, x2)]) :=
  Own.rd (T := 39) ⟨[], by rw [h]; rfl⟩
/-- append of one file to any row of our own -/
theorem app_one (W : World) (base : Nat) (v : Value) (n : Nat) (acc : List File) (hown : W.ownsRow base 39 3 v n (cs acc)) (hb : base ≤ W.heap.size) (vb : Nat) (f : File) (hr : Rd W (some ⟨vb, 0, none⟩) (cs [f])) (hl : n ≤ 1048576) :
    ∃ g c w2, (appSem #[23, 23] 23 #[v, .slice (some ⟨vb, 0, none⟩) 1 1]).run Try.prog W = .ok (.slice (some ⟨g, 0, none⟩) (n + 1) c) w2 ∧
      w2.ownsRow base 39 3 (.slice (some ⟨g, 0, none⟩) (n + 1) c) (n + 1) (cs (acc ++ [f])) ∧ W.grownBy w2 v.ownBlock := by
  obtain ⟨i0, hi, hz0, hz1, hz2⟩ := info_parts rwStored.info
  obtain ⟨v', w2, happ, hown2, hgr, hnil⟩ := run_append_own (P := Try.prog) W base 23 23 39 i0 (.agg #[.string ⟨#[]⟩, .string ⟨#[]⟩, .int .i64 0]) 3 40 Try.underlying23 hi hz0 hz1 hz2 rfl (by decide) v n (cs acc) hown ⟨vb, 0, none⟩ 1 1 (cs [f]) (by rw [rwStored.cs_len]; rfl) (rd_add hr) (cs_one _) (by unfold maxLen; omega) (by omega) hb
  obtain ⟨g, c, rfl⟩ := row.ownsRow_form hown2 (by omega)
  exact ⟨g, c, w2, happ, by rw [rwStored.cs_app]; exact hown2, hgr⟩
/-- append of empty files where there is no room -/
theorem app_zeros (w : World) (g c i n : Nat) (l : List File) (hr : Rd w (some ⟨g, 0, none⟩) (cs l)) (hn : l.length = n) (hi : i < n) (hc : c < n + 1) (hcn : n ≤ c) (hl : n ≤ 1048576) :
    ∃ C w1, (appSem #[23, 3] 23 #[.slice (some ⟨g, 0, none⟩) i c, .int .i64 ((n : Int) + 1 - (i : Int))]).run Try.prog w = .ok (.slice (some ⟨w.heap.size, 0, none⟩) (n + 1) C) w1 ∧
      (∃ zs, B3 w1 w.heap.size C (cs (l.take i) ++ zs)) ∧ n + 1 ≤ C ∧ C ≤ maxLen ∧ Below w.heap.size w w1 := by
  obtain ⟨i0, hi0, hz0, hz1, hz2⟩ := info_parts rwStored.info
  have hl1 : (cs (l.take i)).length = i * 3 := by rw [rwStored.cs_len, List.length_take]; omega
  have hold : (Builtin.firstCells i0.size i (.slice (some ⟨g, 0, none⟩) i c)).run Try.prog w.drew = .ok (cs (l.take i)).toArray w.drew := by
    rw [hz1]
    exact run_firstCells_some w.drew 3 i ⟨g, 0, none⟩ i c (cs (l.take i)) hl1 (rd_add (rd_take (w := w.drew) hr i))
  have h := Lib.run_append_grow_zeros (P := Try.prog) w 23 3 23 39 i0 _ .i64 .i64 Try.underlying23 Try.underlying3 hi0 hz0 (some ⟨g, 0, none⟩) i c (cs (l.take i)) hold (n + 1 - i) (by omega) (by rw [hz1]; decide) (by omega) (by omega) (by rw [hz2]; omega) (by rw [hz2, show i + (n + 1 - i) = n + 1 by omega]; exact growslice_fits (by omega) (by omega))
  rw [show i + (n + 1 - i) = n + 1 by omega] at h
  have hge := grownCap_ge w (n + 1) c 39
  have hle := grownCap_le_maxLen w (n + 1) c 39 (by unfold maxLen; omega)
  generalize grownCap w (n + 1) c 39 = C at *
  rw [show ((n + 1 - i : Nat) : Int) = (n : Int) + 1 - (i : Int) by omega] at h
  refine ⟨C, _, h, ⟨(Builtin.zeroCells (Value.agg #[.string ⟨#[]⟩, .string ⟨#[]⟩, .int .i64 0]).cells (n + 1 - i)).toList ++ (Builtin.zeroCells (Value.agg #[.string ⟨#[]⟩, .string ⟨#[]⟩, .int .i64 0]).cells (C - (n + 1))).toList, ?_, ?_⟩, hge, hle, re (w := w) (below_alloc1 w.drew _) rfl rfl rfl rfl⟩
  · refine (blk_new w.drew _ w.heap.size rfl).trans ?_
    refine congrArg (fun x => some (Obj.cells x 39 (0, 0))) (Array.ext' ?_)
    generalize Builtin.zeroCells _ (n + 1 - i) = z1
    generalize Builtin.zeroCells _ (C - (n + 1)) = z2
    simp
  · have q1 : ∀ m, (Builtin.zeroCells (Value.agg #[.string ⟨#[]⟩, .string ⟨#[]⟩, .int .i64 0]).cells m).toList.length = m * 3 := fun m => by simp [Builtin.zeroCells]; rfl
    rw [List.length_append, List.length_append, q1, q1, hl1]
    omega
end Go.Proofs.Ytfckgpmphcadeaa.drv
