/-
  Rows of nodes in memory, as cells, each with its own row of keys. No condition.
-/
import Derived.Test.YtmmmadehifajlaaStrM
import Derived.Test.YtmmmadehifajlaaCells
import Derived.Test.YtmmmadehifajlaaMem
import Derived.Test.YtmmmadehifajlaaMemW
import Derived.Laws.MakeOwn
namespace Go.Proofs.Ytmmmadehifajlaa.nod
open Go.RowKit Go.Joins
open Go.Proofs.Ytmmmadehifajlaa.base Go.Proofs.Ytmmmadehifajlaa.blk Go.Proofs.Ytmmmadehifajlaa.aid
open Go.Proofs.Ytmmmadehifajlaa.row (Rd Own OwnV appSem app_fold app1)
open Go.Proofs.Ytmmmadehifajlaa.strs (tx strV RdT)
open Go.Proofs.Ytmmmadehifajlaa.mem (Mem Mine Off)
set_option linter.unusedVariables false

abbrev Tx : Type := List ByteArray
theorem tx_app (a b : Tx) : tx (a ++ b) = tx a ++ tx b := by simp [tx]
theorem tx_len (a : Tx) : (tx a).length = a.length := by simp [tx]
theorem tx_zero {l : Tx} (h : tx l = []) : l = [] := by simpa [tx] using h
theorem tx_one (l : Tx) : ∀ u ∈ tx l, u.oneCell' = true := by
  intro u hu
  obtain ⟨f, _, hf⟩ := List.mem_map.1 hu
  subst hf
  rfl
theorem tx_at {l : Tx} {i : Nat} {t : ByteArray} (h : l[i]? = some t) : (tx l)[i]? = some (.string t) := by simp [tx, h, strV]
theorem rd_tx {w : World} {a : Option Addr} {l : Tx} (h : Rd w a (tx l)) : RdT w a l := fun i t ht => h i _ (tx_at ht)
theorem tx_el {w : World} {a : Option Addr} {l : Tx} (h : Rd w a (tx l)) {i : Nat} {t : ByteArray} (ht : l[i]? = some t) : ∃ g off, a = some ⟨g, off, none⟩ ∧ w.cell? ⟨g, off + i, none⟩ = some (.string t) ∧ g < w.heap.size := by
  obtain ⟨g, off, e, c⟩ := h i _ (tx_at ht)
  exact ⟨g, off, e, c, World.block_lt_of_cell? w _ c⟩

/-- a node in memory: its name, is it a directory, its size, where its keys are, how many there is room for, the keys -/
abbrev Nd : Type := ByteArray × Bool × Int × Option Addr × Nat × Tx
/-- what a node is -/
abbrev Vn : Type := ByteArray × Bool × Int × Tx
def val (d : Nd) : Vn := (d.1, d.2.1, d.2.2.1, d.2.2.2.2.2)
/-- as cells -/
def ncs (ds : List Nd) : List Value := ds.flatMap fun d => [.string d.1, .bool d.2.1, .int .i64 d.2.2.1, .slice d.2.2.2.1 d.2.2.2.2.2.length d.2.2.2.2.1]
theorem ncs_cons (d : Nd) (l : List Nd) : ncs (d :: l) = .string d.1 :: .bool d.2.1 :: .int .i64 d.2.2.1 :: .slice d.2.2.2.1 d.2.2.2.2.2.length d.2.2.2.2.1 :: ncs l := by simp [ncs]
theorem ncs_app (l r : List Nd) : ncs (l ++ r) = ncs l ++ ncs r := by simp [ncs]
theorem ncs_snoc (l : List Nd) (d : Nd) : ncs (l ++ [d]) = ncs l ++ [.string d.1, .bool d.2.1, .int .i64 d.2.2.1, .slice d.2.2.2.1 d.2.2.2.2.2.length d.2.2.2.2.1] := by simp [ncs]
theorem ncs_len : ∀ l : List Nd, (ncs l).length = 4 * l.length
  | [] => rfl
  | b :: l => by rw [ncs_cons]; simp only [List.length_cons]; rw [ncs_len l]; omega
theorem ncs_zero {l : List Nd} (h : ncs l = []) : l = [] := by
  cases l with
  | nil => rfl
  | cons b r => rw [ncs_cons] at h; cases h
theorem ncs_at : ∀ (l : List Nd) (i : Nat) (d : Nd), l[i]? = some d → (ncs l)[i * 4]? = some (.string d.1) ∧ (ncs l)[i * 4 + 1]? = some (.bool d.2.1) ∧ (ncs l)[i * 4 + 2]? = some (.int .i64 d.2.2.1) ∧ (ncs l)[i * 4 + 3]? = some (.slice d.2.2.2.1 d.2.2.2.2.2.length d.2.2.2.2.1)
  | [], i, b, h => by simp at h
  | c :: l, 0, b, h => by
    simp at h
    subst h
    rw [ncs_cons]
    exact ⟨rfl, rfl, rfl, rfl⟩
  | c :: l, i + 1, b, h => by
    rw [ncs_cons]
    have e : (i + 1) * 4 = i * 4 + 1 + 1 + 1 + 1 := by omega
    rw [e]
    exact ncs_at l i b (by simpa using h)
theorem ncs_set : ∀ (l : List Nd) (i : Nat) (d : Nd), i < l.length → (((((ncs l).set (i * 4) (.string d.1)).set (i * 4 + 1) (.bool d.2.1)).set (i * 4 + 2) (.int .i64 d.2.2.1)).set (i * 4 + 3) (.slice d.2.2.2.1 d.2.2.2.2.2.length d.2.2.2.2.1)) = ncs (l.set i d)
  | [], i, d, h => by simp at h
  | z :: l, 0, d, h => by simp [ncs_cons]
  | z :: l, i + 1, d, h => by
    rw [ncs_cons, List.set_cons_succ, ncs_cons, ← ncs_set l i d (by simpa using h)]
    have e : (i + 1) * 4 = i * 4 + 1 + 1 + 1 + 1 := by omega
    rw [e]
    simp only [List.set_cons_succ]
/-- one of a row -/
theorem el {w : World} {a : Option Addr} {l : List Nd} (h : Rd w a (ncs l)) {i : Nat} {d : Nd} (hb : l[i]? = some d) : ∃ g off, a = some ⟨g, off, none⟩ ∧ w.cell? ⟨g, off + i * 4, none⟩ = some (.string d.1) ∧ w.cell? ⟨g, off + i * 4 + 1, none⟩ = some (.bool d.2.1) ∧ w.cell? ⟨g, off + i * 4 + 2, none⟩ = some (.int .i64 d.2.2.1) ∧ w.cell? ⟨g, off + i * 4 + 3, none⟩ = some (.slice d.2.2.2.1 d.2.2.2.2.2.length d.2.2.2.2.1) ∧ g < w.heap.size := by
  obtain ⟨h0, h1, h2, h3⟩ := ncs_at l i d hb
  obtain ⟨g, off, e, c0⟩ := h _ _ h0
  obtain ⟨g1, off1, e1, c1⟩ := h _ _ h1
  rw [e] at e1
  simp at e1
  obtain ⟨rfl, rfl⟩ := e1
  obtain ⟨g2, off2, e2, c2⟩ := h _ _ h2
  rw [e] at e2
  simp at e2
  obtain ⟨rfl, rfl⟩ := e2
  obtain ⟨g3, off3, e3, c3⟩ := h _ _ h3
  rw [e] at e3
  simp at e3
  obtain ⟨rfl, rfl⟩ := e3
  exact ⟨g, off, e, c0, by rw [Nat.add_assoc]; exact c1, by rw [Nat.add_assoc]; exact c2, by rw [Nat.add_assoc]; exact c3, World.block_lt_of_cell? w _ c0⟩
/-- nodes that can be read -/
structure RdN (w : World) (a : Option Addr) (ds : List Nd) : Prop where
  top : Rd w a (ncs ds)
  each : ∀ d ∈ ds, Rd w d.2.2.2.1 (tx d.2.2.2.2.2)
theorem RdN.below {w w' : World} {a : Option Addr} {ds : List Nd} (h : RdN w a ds) (hb : Below w.heap.size w w') : RdN w' a ds := ⟨h.top.below hb, fun d hd => (h.each d hd).below hb⟩
theorem RdN.alloc {w : World} {a : Option Addr} {ds : List Nd} (h : RdN w a ds) (o : Obj) : RdN (w.alloc o) a ds := h.below (below_alloc1 w o)
theorem RdN.drew {w : World} {a : Option Addr} {ds : List Nd} (h : RdN w a ds) : RdN w.drew a ds := h.below ⟨rfl, rfl, rfl, Nat.le_refl _, fun _ _ => rfl⟩
theorem RdN.nil (w : World) (a : Option Addr) : RdN w a [] := ⟨Rd.nil _ _, by simp⟩
/-- the texts are small -/
def SmallN (ds : List Nd) : Prop := ∀ d ∈ ds, d.1.size ≤ 1048576 ∧ d.2.2.2.2.2.length ≤ 1048576 ∧ ∀ t ∈ d.2.2.2.2.2, t.size ≤ 1048576
def zeroN : Nd := (⟨#[]⟩, false, 0, none, 0, [])
theorem infoN : (Try.prog.info? 59).map (fun i => (i.zero, i.size, i.bytes)) = some (some (.agg #[.string ⟨#[]⟩, .bool false, .int .i64 0, .slice none 0 0]), 4, 56) := by kernel_rfl
theorem made (k : Nat) : madeCells #[.string ⟨#[]⟩, .bool false, .int .i64 0, .slice none 0 0] (k * 4) = (ncs (List.replicate k zeroN)).toArray := by
  apply Array.ext
  · rw [size_madeCells, List.size_toArray, ncs_len, List.length_replicate]
    omega
  · intro i h1 h2
    rw [size_madeCells] at h1
    have hj : i / 4 < k := by omega
    have hr : (List.replicate k zeroN)[i / 4]? = some zeroN := by simp [hj]
    obtain ⟨b0, b1, b2, b3⟩ := ncs_at _ _ _ hr
    rcases (show i % 4 = 0 ∨ i % 4 = 1 ∨ i % 4 = 2 ∨ i % 4 = 3 by omega) with h | h | h | h
    · have e : i / 4 * 4 = i := by omega
      rw [e] at b0
      have hb := (List.getElem?_eq_some_iff.1 b0).2
      simp only [List.getElem_toArray, hb]
      simp [madeCells, h, zeroN]
    · have e : i / 4 * 4 + 1 = i := by omega
      rw [e] at b1
      have hb := (List.getElem?_eq_some_iff.1 b1).2
      simp only [List.getElem_toArray, hb]
      simp [madeCells, h, zeroN]
    · have e : i / 4 * 4 + 2 = i := by omega
      rw [e] at b2
      have hb := (List.getElem?_eq_some_iff.1 b2).2
      simp only [List.getElem_toArray, hb]
      simp [madeCells, h, zeroN]
    · have e : i / 4 * 4 + 3 = i := by omega
      rw [e] at b3
      have hb := (List.getElem?_eq_some_iff.1 b3).2
      simp only [List.getElem_toArray, hb]
      simp [madeCells, h, zeroN]
theorem run_make_rows (k : Nat) (hn : k ≤ 1048576) (u : World) : (Instr.makeSlice 23 (.int .i64 (k : Int)) (.int .i64 (k : Int))).run Try.prog u =
    .ok (.slice (some ⟨u.heap.size, 0, none⟩) k k) (u.alloc (.cells (ncs (List.replicate k zeroN)).toArray 59)) := by
  obtain ⟨i0, hi, hz0, hz1, hz2⟩ := strs.info_parts infoN
  have h := run_make (P := Try.prog) u 23 59 i0 (.agg #[.string ⟨#[]⟩, .bool false, .int .i64 0, .slice none 0 0]) Try.underlying23 hi hz0 .i64 .i64 (k : Int) (k : Int) (by omega) (Int.le_refl _) (by rw [hz2]; omega) (by omega)
  have e : (k : Int).toNat = k := by omega
  rw [e] at h
  rw [← made]
  simpa [hz1, Value.cells] using h
theorem madeT (k : Nat) : madeCells #[.string ⟨#[]⟩] (k * 1) = (tx (List.replicate k ⟨#[]⟩)).toArray := by
  apply Array.ext
  · rw [size_madeCells, List.size_toArray, tx_len, List.length_replicate]
    omega
  · intro i h1 h2
    rw [size_madeCells] at h1
    simp [madeCells, tx, strV, Nat.mod_one]
theorem run_make_texts (k : Nat) (hn : k ≤ 1048576) (u : World) : (Instr.makeSlice 57 (.int .i64 (k : Int)) (.int .i64 (k : Int))).run Try.prog u =
    .ok (.slice (some ⟨u.heap.size, 0, none⟩) k k) (u.alloc (.cells (tx (List.replicate k ⟨#[]⟩)).toArray 9)) := by
  obtain ⟨i0, hi, hz0, hz1, hz2⟩ := strs.info_parts strs.infoS
  have h := run_make (P := Try.prog) u 57 9 i0 (.string ⟨#[]⟩) Try.underlying57 hi hz0 .i64 .i64 (k : Int) (k : Int) (by omega) (Int.le_refl _) (by rw [hz2]; omega) (by omega)
  have e : (k : Int).toNat = k := by omega
  rw [e] at h
  rw [← madeT]
  simpa [hz1, Value.cells] using h
/-- the rows of keys of nodes -/
def mines (ds : List Nd) : List Mine := ds.map fun d => ⟨9, d.2.2.2.1, tx d.2.2.2.2.2⟩
theorem val_len {ds es : List Nd} (h : es.map val = ds.map val) : es.length = ds.length := by
  have := congrArg List.length h
  simpa using this
theorem val_at {ds es : List Nd} (h : es.map val = ds.map val) {k : Nat} {n : ByteArray} {b : Bool} {z : Int} {a : Option Addr} {c : Nat} {ks : Tx} (hx : ds[k]? = some (n, b, z, a, c, ks)) : ∃ ea ec, es[k]? = some (n, b, z, ea, ec, ks) := by
  have h1 : (es.map val)[k]? = some (n, b, z, ks) := by rw [h, List.getElem?_map, hx]; rfl
  rw [List.getElem?_map] at h1
  obtain ⟨⟨en, eb, ez, ea, ec, eks⟩, h2, h3⟩ := Option.map_eq_some_iff.1 h1
  cases h3
  exact ⟨ea, ec, h2⟩
theorem val_all {ds es : List Nd} (h : es.map val = ds.map val) {P : Vn → Prop} (hp : ∀ d ∈ ds, P (val d)) : ∀ d ∈ es, P (val d) := by
  intro d hd
  have h1 : val d ∈ ds.map val := by rw [← h]; exact List.mem_map_of_mem hd
  obtain ⟨e, he, h2⟩ := List.mem_map.1 h1
  rw [← h2]
  exact hp _ he
theorem small_val {ds es : List Nd} (h : es.map val = ds.map val) (hs : SmallN ds) : SmallN es :=
  fun d hd => val_all (P := fun v => v.1.size ≤ 1048576 ∧ v.2.2.2.length ≤ 1048576 ∧ ∀ t ∈ v.2.2.2, t.size ≤ 1048576) h hs d hd
end Go.Proofs.Ytmmmadehifajlaa.nod
