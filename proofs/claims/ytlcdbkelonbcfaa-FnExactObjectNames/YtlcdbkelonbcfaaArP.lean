/-
  Rows of drives in memory, as cells, each with its own row of files. No condition.
-/
import Derived.Test.YtlcdbkelonbcfaaDrvL
import Derived.Test.YtlcdbkelonbcfaaMem
import Derived.Test.YtlcdbkelonbcfaaMemW
namespace Go.Proofs.Ytlcdbkelonbcfaa.arr
open Go.RowKit Go.Joins
open Go.Proofs.Ytlcdbkelonbcfaa.base Go.Proofs.Ytlcdbkelonbcfaa.blk Go.Proofs.Ytlcdbkelonbcfaa.aid
open Go.Proofs.Ytlcdbkelonbcfaa.row (Rd Own OwnV)
open Go.Proofs.Ytlcdbkelonbcfaa.rwStored (cs)
open Go.Proofs.Ytlcdbkelonbcfaa.mem (Mem Mine Off)
set_option linter.unusedVariables false

abbrev Fl : Type := ByteArray × ByteArray × Int
/-- a drive in memory: where its files are, how many there is room for, the files, the room -/
abbrev Dv : Type := Option Addr × Nat × List Fl × Int
/-- what a drive is -/
def val (d : Dv) : List Fl × Int := (d.2.2.1, d.2.2.2)
/-- as cells -/
def dcs (ds : List Dv) : List Value := ds.flatMap fun d => [.slice d.1 d.2.2.1.length d.2.1, .int .i64 d.2.2.2]
theorem dcs_cons (d : Dv) (l : List Dv) : dcs (d :: l) = .slice d.1 d.2.2.1.length d.2.1 :: .int .i64 d.2.2.2 :: dcs l := by simp [dcs]
theorem dcs_app (l r : List Dv) : dcs (l ++ r) = dcs l ++ dcs r := by simp [dcs]
theorem dcs_len : ∀ l : List Dv, (dcs l).length = 2 * l.length
  | [] => rfl
  | b :: l => by rw [dcs_cons]; simp only [List.length_cons]; rw [dcs_len l]; omega
theorem dcs_at : ∀ (l : List Dv) (i : Nat) (d : Dv), l[i]? = some d → (dcs l)[i * 2]? = some (.slice d.1 d.2.2.1.length d.2.1) ∧ (dcs l)[i * 2 + 1]? = some (.int .i64 d.2.2.2)
  | [], i, b, h => by simp at h
  | c :: l, 0, b, h => by
    simp at h
    subst h
    rw [dcs_cons]
    exact ⟨rfl, rfl⟩
  | c :: l, i + 1, b, h => by
    rw [dcs_cons]
    have e : (i + 1) * 2 = i * 2 + 1 + 1 := by omega
    rw [e]
    exact dcs_at l i b (by simpa using h)
theorem dcs_set : ∀ (l : List Dv) (i : Nat) (d : Dv), i < l.length → (((dcs l).set (i * 2) (.slice d.1 d.2.2.1.length d.2.1)).set (i * 2 + 1) (.int .i64 d.2.2.2)) = dcs (l.set i d)
  | [], i, d, h => by simp at h
  | z :: l, 0, d, h => by simp [dcs_cons]
  | z :: l, i + 1, d, h => by
    rw [dcs_cons, List.set_cons_succ, dcs_cons, ← dcs_set l i d (by simpa using h)]
    have e : (i + 1) * 2 = i * 2 + 1 + 1 := by omega
    rw [e]
    simp only [List.set_cons_succ]
/-- one of a row -/
theorem el {w : World} {a : Option Addr} {l : List Dv} (h : Rd w a (dcs l)) {i : Nat} {d : Dv} (hb : l[i]? = some d) : ∃ g off, a = some ⟨g, off, none⟩ ∧ w.cell? ⟨g, off + i * 2, none⟩ = some (.slice d.1 d.2.2.1.length d.2.1) ∧ w.cell? ⟨g, off + i * 2 + 1, none⟩ = some (.int .i64 d.2.2.2) ∧ g < w.heap.size := by
  obtain ⟨h0, h1⟩ := dcs_at l i d hb
  obtain ⟨g, off, e, c0⟩ := h _ _ h0
  obtain ⟨g1, off1, e1, c1⟩ := h _ _ h1
  rw [e] at e1
  simp at e1
  obtain ⟨rfl, rfl⟩ := e1
  exact ⟨g, off, e, c0, by rw [Nat.add_assoc]; exact c1, World.block_lt_of_cell? w _ c0⟩
/-- drives that can be read -/
structure RdA (w : World) (a : Option Addr) (ds : List Dv) : Prop where
  top : Rd w a (dcs ds)
  each : ∀ d ∈ ds, Rd w d.1 (cs d.2.2.1)
theorem RdA.below {w w' : World} {a : Option Addr} {ds : List Dv} (h : RdA w a ds) (hb : Below w.heap.size w w') : RdA w' a ds := ⟨h.top.below hb, fun d hd => (h.each d hd).below hb⟩
theorem RdA.alloc {w : World} {a : Option Addr} {ds : List Dv} (h : RdA w a ds) (o : Obj) : RdA (w.alloc o) a ds := h.below (below_alloc1 w o)
theorem RdA.drew {w : World} {a : Option Addr} {ds : List Dv} (h : RdA w a ds) : RdA w.drew a ds := h.below ⟨rfl, rfl, rfl, Nat.le_refl _, fun _ _ => rfl⟩
/-- the lists are small -/
def SmallA (ds : List Dv) : Prop := ds.length ≤ 1048576 ∧ ∀ d ∈ ds, d.2.2.1.length ≤ 1048576 ∧ ∀ f ∈ d.2.2.1, f.1.size ≤ 1048576 ∧ f.2.1.size ≤ 1048576
def zeroD : Dv := (none, 0, [], 0)
theorem infoD : (Try.prog.info? 92).map (fun i => (i.zero, i.size, i.bytes)) = some (some (.agg #[.slice none 0 0, .int .i64 0]), 2, 32) := by kernel_rfl
theorem made (k : Nat) : madeCells #[.slice none 0 0, .int .i64 0] (k * 2) = (dcs (List.replicate k zeroD)).toArray := by
  apply Array.ext
  · rw [size_madeCells, List.size_toArray, dcs_len, List.length_replicate]
    omega
  · intro i h1 h2
    rw [size_madeCells] at h1
    have hj : i / 2 < k := by omega
    have hr : (List.replicate k zeroD)[i / 2]? = some zeroD := by simp [hj]
    obtain ⟨b0, b1⟩ := dcs_at _ _ _ hr
    rcases (show i % 2 = 0 ∨ i % 2 = 1 by omega) with h | h
    · have e : i / 2 * 2 = i := by omega
      rw [e] at b0
      have hb := (List.getElem?_eq_some_iff.1 b0).2
      simp only [List.getElem_toArray, hb]
      simp [madeCells, h, zeroD]
    · have e : i / 2 * 2 + 1 = i := by omega
      rw [e] at b1
      have hb := (List.getElem?_eq_some_iff.1 b1).2
      simp only [List.getElem_toArray, hb]
      simp [madeCells, h, zeroD]
theorem run_make_rows (k : Nat) (hn : k ≤ 1048576) (u : World) : (Instr.makeSlice 28 (.int .i64 (k : Int)) (.int .i64 (k : Int))).run Try.prog u =
    .ok (.slice (some ⟨u.heap.size, 0, none⟩) k k) (u.alloc (.cells (dcs (List.replicate k zeroD)).toArray 92)) := by
  obtain ⟨i0, hi, hz0, hz1, hz2⟩ := info_parts infoD
  have h := run_make (P := Try.prog) u 28 92 i0 (.agg #[.slice none 0 0, .int .i64 0]) Try.underlying28 hi hz0 .i64 .i64 (k : Int) (k : Int) (by omega) (Int.le_refl _) (by rw [hz2]; omega) (by omega)
  have e : (k : Int).toNat = k := by omega
  rw [e] at h
  rw [← made]
  simpa [hz1, Value.cells] using h
/-- the rows of files of drives -/
def mines (ds : List Dv) : List Mine := ds.map fun d => ⟨94, d.1, cs d.2.2.1⟩
end Go.Proofs.Ytlcdbkelonbcfaa.arr
