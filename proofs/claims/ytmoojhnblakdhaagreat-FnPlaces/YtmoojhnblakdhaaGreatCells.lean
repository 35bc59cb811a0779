/-
  Rows of cells in memory: cells that can be read, cells in a block of their own with room behind them; append of one element to a row of our own. No condition.
-/
import Derived.Test.YtmoojhnblakdhaaGreatAid
import Derived.Lib.SmallJoins
import Derived.Deep.RegionHeld3
import Derived.Deep.QuietTactic
import Derived.BigQuiet
import Derived.BigRegion
namespace Go.Proofs.YtmoojhnblakdhaaGreat.row
open Go.RowKit Go.Joins
open Go.Proofs.YtmoojhnblakdhaaGreat.base Go.Proofs.YtmoojhnblakdhaaGreat.blk Go.Proofs.YtmoojhnblakdhaaGreat.aid
set_option linter.unusedVariables false

/-- cells that can be read -/
def Rd (w : World) (a : Option Addr) (xs : List Value) : Prop :=
  ∀ i u, xs[i]? = some u → ∃ b off, a = some ⟨b, off, none⟩ ∧ w.cell? ⟨b, off + i, none⟩ = some u
theorem Rd.block {w w' : World} {a : Option Addr} {xs : List Value} (h : Rd w a xs) (hb : ∀ b off, a = some ⟨b, off, none⟩ → b < w.heap.size → w'.heap[b]? = w.heap[b]?) : Rd w' a xs := by
  intro i z hz
  obtain ⟨b, off, e1, e2⟩ := h i z hz
  refine ⟨b, off, e1, ?_⟩
  rw [World.cell?_of_block (w := w) (a := ⟨b, off + i, none⟩) (hb b off e1 (World.block_lt_of_cell? w _ e2))]
  exact e2
theorem Rd.below {w w' : World} {a : Option Addr} {xs : List Value} (h : Rd w a xs) (hb : Below w.heap.size w w') : Rd w' a xs := h.block fun b _ _ hl => hb.block b hl
theorem Rd.alloc {w : World} {a : Option Addr} {xs : List Value} (h : Rd w a xs) (o : Obj) : Rd (w.alloc o) a xs := h.below (below_alloc1 w o)
theorem Rd.nil (w : World) (a : Option Addr) : Rd w a [] := by intro i z h; simp at h
/-- a row in a block of its own, with room behind it -/
def Own (T : TypeId) (w : World) (g : Nat) (xs : List Value) : Prop := ∃ ex : List Value, w.heap[g]? = some (.cells (xs ++ ex).toArray T (0, 0))
theorem Own.lt {T : TypeId} {w : World} {g : Nat} {xs : List Value} (h : Own T w g xs) : g < w.heap.size := by
  obtain ⟨ex, h⟩ := h
  exact (Array.getElem?_eq_some_iff.1 h).1
theorem Own.block {T : TypeId} {w w' : World} {g : Nat} {xs : List Value} (h : Own T w g xs) (hb : w'.heap[g]? = w.heap[g]?) : Own T w' g xs := by
  obtain ⟨ex, h⟩ := h
  exact ⟨ex, hb.trans h⟩
theorem Own.below {T : TypeId} {w w' : World} {g : Nat} {xs : List Value} (h : Own T w g xs) (hb : Below w.heap.size w w') : Own T w' g xs := h.block (hb.block g h.lt)
theorem Own.cell {T : TypeId} {w : World} {g : Nat} {xs : List Value} (h : Own T w g xs) {i : Nat} {z : Value} (hz : xs[i]? = some z) : w.cell? ⟨g, i, none⟩ = some z := by
  obtain ⟨ex, h⟩ := h
  have hi : i < xs.length := (List.getElem?_eq_some_iff.1 hz).1
  rw [cell_of_block h]
  simp [List.getElem?_append, hi]
  exact (List.getElem?_eq_some_iff.1 hz).2
theorem Own.free {T : TypeId} {w : World} {g : Nat} {xs : List Value} (h : Own T w g xs) (i : Nat) : w.frozen? ⟨g, i, none⟩ = false := by
  obtain ⟨ex, h⟩ := h
  exact unfrozen_of_block h i
theorem Own.rd {T : TypeId} {w : World} {g : Nat} {xs : List Value} (h : Own T w g xs) : Rd w (some ⟨g, 0, none⟩) xs := by
  intro i z hz
  exact ⟨g, 0, rfl, by simpa using h.cell hz⟩
theorem Own.set {T : TypeId} {w : World} {g : Nat} {xs : List Value} (h : Own T w g xs) (i : Nat) (hi : i < xs.length) (z : Value) : Own T (w.setCell ⟨g, i, none⟩ z) g (xs.set i z) := by
  obtain ⟨ex, h⟩ := h
  refine ⟨ex, ?_⟩
  rw [block_setCell (i := i) h z]
  congr 2
  simp [hi]
theorem Own.owns {T : TypeId} {w : World} {base g n c size : Nat} {xs : List Value} (h : w.ownsRow base T size (.slice (some ⟨g, 0, none⟩) n c) n xs) : Own T w g xs := by
  obtain ⟨_, h2⟩ := h
  rcases h2 with ⟨e, _⟩ | ⟨g', cap, cur, e, hB, hg, _, _, _, ht⟩
  · cases e
  · simp at e
    obtain ⟨rfl, rfl⟩ := e
    refine ⟨cur.toList.drop (n * size), ?_⟩
    rw [← ht, List.take_append_drop]
    exact hg
/-- cells that may be written: none, or a block of their own -/
def OwnV (T : TypeId) (w : World) (a : Option Addr) (xs : List Value) : Prop := xs = [] ∨ ∃ g, a = some ⟨g, 0, none⟩ ∧ Own T w g xs
theorem OwnV.rd {T : TypeId} {w : World} {a : Option Addr} {xs : List Value} (h : OwnV T w a xs) : Rd w a xs := by
  rcases h with rfl | ⟨g, rfl, ho⟩
  · exact Rd.nil w a
  · exact ho.rd
theorem OwnV.below {T : TypeId} {w w' : World} {a : Option Addr} {xs : List Value} (h : OwnV T w a xs) (hb : Below w.heap.size w w') : OwnV T w' a xs := by
  rcases h with rfl | ⟨g, rfl, ho⟩
  · exact .inl rfl
  · exact .inr ⟨g, rfl, ho.below hb⟩
theorem OwnV.alloc {T : TypeId} {w : World} {a : Option Addr} {xs : List Value} (h : OwnV T w a xs) (o : Obj) : OwnV T (w.alloc o) a xs := h.below (below_alloc1 w o)

def appSem (ts : Array TypeId) (ty : TypeId) (vs : Array Value) : Sem Value := Builtin.append_ ts ty vs
theorem app_fold (ts : Array TypeId) (ty : TypeId) (vs : Array Value) : Builtin.append_ ts ty vs = appSem ts ty vs := rfl
theorem ownsRow_form {w : World} {base e n size : Nat} {v : Value} {xs : List Value} (h : w.ownsRow base e size v n xs) (hn : 0 < n) : ∃ g c, v = .slice (some ⟨g, 0, none⟩) n c := by
  obtain ⟨_, h2⟩ := h
  rcases h2 with ⟨_, h0⟩ | ⟨g, cap, cur, rfl, _⟩
  · omega
  · exact ⟨g, cap, rfl⟩
/-- append of one element of several cells to a row of our own -/
theorem app1 {W : World} {base S T size bytes : Nat} {z : Value} (hS : Tryz.prog.underlying S = some (.slice T)) (hI : (Tryz.prog.info? T).map (fun i => (i.zero, i.size, i.bytes)) = some (some z, size, bytes)) (hzs : z.cells.size = size) (hsz : 0 < size)
    (v : Value) (n : Nat) (acc : List Value) (new : List Value) (hnew : new.length = size) (h1c : ∀ u ∈ new, u.oneCell' = true) (hown : W.ownsRow base T size v n acc) (hb : base ≤ W.heap.size) (hl : n ≤ 1048576) (hby : bytes ≤ 1000) :
    ∃ g c w2, (appSem #[S, S] S #[v, .slice (some ⟨W.heap.size, 0, none⟩) 1 1]).run Tryz.prog (W.alloc (.cells new.toArray T)) = .ok (.slice (some ⟨g, 0, none⟩) (n + 1) c) w2 ∧ w2.ownsRow base T size (.slice (some ⟨g, 0, none⟩) (n + 1) c) (n + 1) (acc ++ new) ∧ (W.alloc (.cells new.toArray T)).grownBy w2 v.ownBlock := by
  obtain ⟨i0, hi, hz0, hz1, hz2⟩ := info_parts hI
  have hcell : ∀ j u, new[j]? = some u → (W.alloc (.cells new.toArray T)).cell? ((⟨W.heap.size, 0, none⟩ : Addr).add j) = some u := by
    intro j u hj
    have hh := blk_new W (.cells new.toArray T) W.heap.size rfl
    rw [Addr.add_lit, Nat.zero_add, cell_of_block hh]
    simpa using hj
  have hbb : (n + 1) * bytes ≤ 140737488355328 := by
    have : (n + 1) * bytes ≤ 1048577 * 1000 := Nat.mul_le_mul (by omega) hby
    omega
  obtain ⟨v', w2, happ0, hown2, hgrow, _⟩ := run_append_own (P := Tryz.prog) (W.alloc (.cells new.toArray T)) base S S T i0 z size bytes hS hi hz0 hz1 hz2 hzs hsz v n acc (hown.alloc _) ⟨W.heap.size, 0, none⟩ 1 1 new (by omega) hcell h1c (by unfold maxLen; omega) hbb (by simp; omega)
  obtain ⟨g, c, rfl⟩ := ownsRow_form hown2 (by omega)
  exact ⟨g, c, w2, happ0, hown2, hgrow⟩

/-- blobs as cells -/
def bl (l : List (Int × ByteArray)) : List Value := l.flatMap fun b => [.int .i64 b.1, .string b.2]
theorem bl_nil : bl [] = [] := rfl
theorem bl_snoc (l : List (Int × ByteArray)) (b : Int × ByteArray) : bl (l ++ [b]) = bl l ++ [.int .i64 b.1, .string b.2] := by simp [bl]
theorem bl_cons (b : Int × ByteArray) (l : List (Int × ByteArray)) : bl (b :: l) = .int .i64 b.1 :: .string b.2 :: bl l := by simp [bl]
theorem bl_len : ∀ l : List (Int × ByteArray), (bl l).length = 2 * l.length
  | [] => rfl
  | b :: l => by rw [bl_cons, List.length_cons, List.length_cons, bl_len l, List.length_cons]; omega
theorem bl_at : ∀ (l : List (Int × ByteArray)) (i : Nat) (b : Int × ByteArray), l[i]? = some b → (bl l)[i * 2]? = some (.int .i64 b.1) ∧ (bl l)[i * 2 + 1]? = some (.string b.2)
  | [], i, b, h => by simp at h
  | c :: l, 0, b, h => by
    simp at h
    subst h
    rw [bl_cons]
    exact ⟨rfl, rfl⟩
  | c :: l, i + 1, b, h => by
    rw [bl_cons]
    have e : (i + 1) * 2 = i * 2 + 1 + 1 := by omega
    rw [e]
    exact bl_at l i b (by simpa using h)
/-- entries as cells: key, kind, place, size -/
def en (l : List (ByteArray × Int × Int × Int)) : List Value := l.flatMap fun b => [.string b.1, .int .i64 b.2.1, .int .i64 b.2.2.1, .int .i64 b.2.2.2]
theorem en_snoc (l : List (ByteArray × Int × Int × Int)) (b : ByteArray × Int × Int × Int) : en (l ++ [b]) = en l ++ [.string b.1, .int .i64 b.2.1, .int .i64 b.2.2.1, .int .i64 b.2.2.2] := by simp [en]
theorem en_cons (b : ByteArray × Int × Int × Int) (l : List (ByteArray × Int × Int × Int)) : en (b :: l) = .string b.1 :: .int .i64 b.2.1 :: .int .i64 b.2.2.1 :: .int .i64 b.2.2.2 :: en l := by simp [en]
theorem en_len : ∀ l : List (ByteArray × Int × Int × Int), (en l).length = 4 * l.length
  | [] => rfl
  | b :: l => by rw [en_cons]; simp only [List.length_cons]; rw [en_len l]; omega
theorem en_at : ∀ (l : List (ByteArray × Int × Int × Int)) (i : Nat) (b : ByteArray × Int × Int × Int), l[i]? = some b → (en l)[i * 4]? = some (.string b.1) ∧ (en l)[i * 4 + 1]? = some (.int .i64 b.2.1) ∧ (en l)[i * 4 + 2]? = some (.int .i64 b.2.2.1) ∧ (en l)[i * 4 + 3]? = some (.int .i64 b.2.2.2)
  | [], i, b, h => by simp at h
  | c :: l, 0, b, h => by
    simp at h
    subst h
    rw [en_cons]
    exact ⟨rfl, rfl, rfl, rfl⟩
  | c :: l, i + 1, b, h => by
    rw [en_cons]
    have e : (i + 1) * 4 = i * 4 + 1 + 1 + 1 + 1 := by omega
    rw [e]
    exact en_at l i b (by simpa using h)
/-- one blob of a row -/
theorem Rd.blob {w : World} {a : Option Addr} {l : List (Int × ByteArray)} (h : Rd w a (bl l)) {i : Nat} {b : Int × ByteArray} (hb : l[i]? = some b) : ∃ g off, a = some ⟨g, off, none⟩ ∧ w.cell? ⟨g, off + i * 2, none⟩ = some (.int .i64 b.1) ∧ w.cell? ⟨g, off + i * 2 + 1, none⟩ = some (.string b.2) ∧ g < w.heap.size := by
  obtain ⟨h0, h1⟩ := bl_at l i b hb
  obtain ⟨g, off, e, c0⟩ := h _ _ h0
  obtain ⟨g', off', e', c1⟩ := h _ _ h1
  rw [e] at e'
  simp at e'
  obtain ⟨rfl, rfl⟩ := e'
  exact ⟨g, off, e, c0, by rw [Nat.add_assoc]; exact c1, World.block_lt_of_cell? w _ c0⟩
theorem Rd.entry {w : World} {a : Option Addr} {l : List (ByteArray × Int × Int × Int)} (h : Rd w a (en l)) {i : Nat} {b : ByteArray × Int × Int × Int} (hb : l[i]? = some b) : ∃ g off, a = some ⟨g, off, none⟩ ∧ w.cell? ⟨g, off + i * 4, none⟩ = some (.string b.1) ∧ w.cell? ⟨g, off + i * 4 + 1, none⟩ = some (.int .i64 b.2.1) ∧ w.cell? ⟨g, off + i * 4 + 2, none⟩ = some (.int .i64 b.2.2.1) ∧ w.cell? ⟨g, off + i * 4 + 3, none⟩ = some (.int .i64 b.2.2.2) ∧ g < w.heap.size := by
  obtain ⟨h0, h1, h2, h3⟩ := en_at l i b hb
  obtain ⟨g, off, e, c0⟩ := h _ _ h0
  obtain ⟨g1, off1, e1, c1⟩ := h _ _ h1
  obtain ⟨g2, off2, e2, c2⟩ := h _ _ h2
  obtain ⟨g3, off3, e3, c3⟩ := h _ _ h3
  rw [e] at e1 e2 e3
  simp at e1 e2 e3
  obtain ⟨rfl, rfl⟩ := e1
  obtain ⟨rfl, rfl⟩ := e2
  obtain ⟨rfl, rfl⟩ := e3
  exact ⟨g, off, e, c0, by rw [Nat.add_assoc]; exact c1, by rw [Nat.add_assoc]; exact c2, by rw [Nat.add_assoc]; exact c3, World.block_lt_of_cell? w _ c0⟩
end Go.Proofs.YtmoojhnblakdhaaGreat.row
