/-
  Rows of cells in memory: cells that can be read, cells in a block of their own with room behind them; append of one element to a row of our own. No condition.
  What laws.szBlob, toBlob, eqBlob, szEntry, toEntry, eqEntry, eqBlobOut answer and leave. Conditions: none, or at most 9,223,372,036,854,775,807 bytes.
  What laws.eqBlobS answers and leaves, of two rows that hold the same. Condition: at most 1,048,576 blobs, which lie in memory.
-/
import Derived.Test.YtlmhdebjmkcanabDoorZGround
import Derived.Test.YtlmhdebjmkcanabDoorZPackA
import Derived.Lib.SmallJoins
import Derived.Deep.RegionHeld3
import Derived.Deep.QuietTactic
import Derived.BigQuiet
import Derived.BigRegion
namespace Go.Proofs.YtlmhdebjmkcanabDoor.row
open Go.RowKit Go.Joins
open Go.Proofs.YtlmhdebjmkcanabDoor.base Go.Proofs.YtlmhdebjmkcanabDoor.blk Go.Proofs.YtlmhdebjmkcanabDoor.aid
set_option linter.unusedVariables false

/-- cells that can be read -/
def Rd (w : World) (a : Option Addr) (xs : List Value) : Prop :=
  ∀ i u, xs[i]? = some u → ∃ b off, a = some ⟨b, off, none⟩ ∧ w.cell? ⟨b, off + i, none⟩ = some u
theorem Rd.block {w w' : World} {a : Option Addr} {xs : List Value} (h : Rd w a xs) (hb : ∀ b off, a = some ⟨b, off, none⟩ → b < w.heap.size → w'.heap[b]? = w.heap[b]?) : Rd w' a xs := by
  intro i z hz
  obtain ⟨b, off, e1, e2⟩ := h i z hz
  refine ⟨b, off, e1, ?_⟩
  rw [World.cell?_of_block (w := w) (a := ⟨b, off + i, none⟩) (hb b off e1 (World.block_lt_of_cell? w _ e2))]
  exact e2
theorem Rd.below {w w' : World} {a : Option Addr} {xs : List Value} (h : Rd w a xs) (hb : Below w.heap.size w w') : Rd w' a xs := h.block fun b _ _ hl => hb.block b hl
theorem Rd.alloc {w : World} {a : Option Addr} {xs : List Value} (h : Rd w a xs) (o : Obj) : Rd (w.alloc o) a xs := h.below (below_alloc1 w o)
theorem Rd.nil (w : World) (a : Option Addr) : Rd w a [] := by intro i z h; simp at h
/-- a row in a block of its own, with room behind it -/
def Own (T : TypeId) (w : World) (g : Nat) (xs : List Value) : Prop := ∃ ex : List Value, w.heap[g]? = some (.cells (xs ++ ex).toArray T (0, 0))
theorem Own.lt {T : TypeId} {w : World} {g : Nat} {xs : List Value} (h : Own T w g xs) : g < w.heap.size := by
  obtain ⟨ex, h⟩ := h
  exact (Array.getElem?_eq_some_iff.1 h).1
theorem Own.block {T : TypeId} {w w' : World} {g : Nat} {xs : List Value} (h : Own T w g xs) (hb : w'.heap[g]? = w.heap[g]?) : Own T w' g xs := by
  obtain ⟨ex, h⟩ := h
  exact ⟨ex, hb.trans h⟩
theorem Own.below {T : TypeId} {w w' : World} {g : Nat} {xs : List Value} (h : Own T w g xs) (hb : Below w.heap.size w w') : Own T w' g xs := h.block (hb.block g h.lt)
theorem Own.cell {T : TypeId} {w : World} {g : Nat} {xs : List Value} (h : Own T w g xs) {i : Nat} {z : Value} (hz : xs[i]? = some z) : w.cell? ⟨g, i, none⟩ = some z := by
  obtain ⟨ex, h⟩ := h
  have hi : i < xs.length := (List.getElem?_eq_some_iff.1 hz).1
  rw [cell_of_block h]
  simp [List.getElem?_append, hi]
  exact (List.getElem?_eq_some_iff.1 hz).2
theorem Own.free {T : TypeId} {w : World} {g : Nat} {xs : List Value} (h : Own T w g xs) (i : Nat) : w.frozen? ⟨g, i, none⟩ = false := by
  obtain ⟨ex, h⟩ := h
  exact unfrozen_of_block h i
theorem Own.rd {T : TypeId} {w : World} {g : Nat} {xs : List Value} (h : Own T w g xs) : Rd w (some ⟨g, 0, none⟩) xs := by
  intro i z hz
  exact ⟨g, 0, rfl, by simpa using h.cell hz⟩
theorem Own.set {T : TypeId} {w : World} {g : Nat} {xs : List Value} (h : Own T w g xs) (i : Nat) (hi : i < xs.length) (z : Value) : Own T (w.setCell ⟨g, i, none⟩ z) g (xs.set i z) := by
  obtain ⟨ex, h⟩ := h
  refine ⟨ex, ?_⟩
  rw [block_setCell (i := i) h z]
  congr 2
  simp [hi]
theorem Own.owns {T : TypeId} {w : World} {base g n c size : Nat} {xs : List Value} (h : w.ownsRow base T size (.slice (some ⟨g, 0, none⟩) n c) n xs) : Own T w g xs := by
  obtain ⟨_, h2⟩ := h
  rcases h2 with ⟨e, _⟩ | ⟨g', cap, cur, e, hB, hg, _, _, _, ht⟩
  · cases e
  · simp at e
    obtain ⟨rfl, rfl⟩ := e
    refine ⟨cur.toList.drop (n * size), ?_⟩
    rw [← ht, List.take_append_drop]
    exact hg
/-- cells that may be written: none, or a block of their own -/
def OwnV (T : TypeId) (w : World) (a : Option Addr) (xs : List Value) : Prop := xs = [] ∨ ∃ g, a = some ⟨g, 0, none⟩ ∧ Own T w g xs
theorem OwnV.rd {T : TypeId} {w : World} {a : Option Addr} {xs : List Value} (h : OwnV T w a xs) : Rd w a xs := by
  rcases h with rfl | ⟨g, rfl, ho⟩
  · exact Rd.nil w a
  · exact ho.rd
theorem OwnV.below {T : TypeId} {w w' : World} {a : Option Addr} {xs : List Value} (h : OwnV T w a xs) (hb : Below w.heap.size w w') : OwnV T w' a xs := by
  rcases h with rfl | ⟨g, rfl, ho⟩
  · exact .inl rfl
  · exact .inr ⟨g, rfl, ho.below hb⟩
theorem OwnV.alloc {T : TypeId} {w : World} {a : Option Addr} {xs : List Value} (h : OwnV T w a xs) (o : Obj) : OwnV T (w.alloc o) a xs := h.below (below_alloc1 w o)

def appSem (ts : Array TypeId) (ty : TypeId) (vs : Array Value) : Sem Value := Builtin.append_ ts ty vs
theorem app_fold (ts : Array TypeId) (ty : TypeId) (vs : Array Value) : Builtin.append_ ts ty vs = appSem ts ty vs := rfl
theorem ownsRow_form {w : World} {base e n size : Nat} {v : Value} {xs : List Value} (h : w.ownsRow base e size v n xs) (hn : 0 < n) : ∃ g c, v = .slice (some ⟨g, 0, none⟩) n c := by
  obtain ⟨_, h2⟩ := h
  rcases h2 with ⟨_, h0⟩ | ⟨g, cap, cur, rfl, _⟩
  · omega
  · exact ⟨g, cap, rfl⟩
/-- append of one element of several cells to a row of our own -/
theorem app1 {W : World} {base S T size bytes : Nat} {z : Value} (hS : Tryd.prog.underlying S = some (.slice T)) (hI : (Tryd.prog.info? T).map (fun i => (i.zero, i.size, i.bytes)) = some (some z, size, bytes)) (hzs : z.cells.size = size) (hsz : 0 < size)
    (v : Value) (n : Nat) (acc : List Value) (new : List Value) (hnew : new.length = size) (h1c : ∀ u ∈ new, u.oneCell' = true) (hown : W.ownsRow base T size v n acc) (hb : base ≤ W.heap.size) (hl : n ≤ 1048576) (hby : bytes ≤ 1000) :
    ∃ g c w2, (appSem #[S, S] S #[v, .slice (some ⟨W.heap.size, 0, none⟩) 1 1]).run Tryd.prog (W.alloc (.cells new.toArray T)) = .ok (.slice (some ⟨g, 0, none⟩) (n + 1) c) w2 ∧ w2.ownsRow base T size (.slice (some ⟨g, 0, none⟩) (n + 1) c) (n + 1) (acc ++ new) ∧ (W.alloc (.cells new.toArray T)).grownBy w2 v.ownBlock := by
  obtain ⟨i0, hi, hz0, hz1, hz2⟩ := info_parts hI
  have hcell : ∀ j u, new[j]? = some u → (W.alloc (.cells new.toArray T)).cell? ((⟨W.heap.size, 0, none⟩ : Addr).add j) = some u := by
    intro j u hj
    have hh := blk_new W (.cells new.toArray T) W.heap.size rfl
    rw [Addr.add_lit, Nat.zero_add, cell_of_block hh]
    simpa using hj
  have hbb : (n + 1) * bytes ≤ 140737488355328 := by
    have : (n + 1) * bytes ≤ 1048577 * 1000 := Nat.mul_le_mul (by omega) hby
    omega
  obtain ⟨v', w2, happ0, hown2, hgrow, _⟩ := run_append_own (P := Tryd.prog) (W.alloc (.cells new.toArray T)) base S S T i0 z size bytes hS hi hz0 hz1 hz2 hzs hsz v n acc (hown.alloc _) ⟨W.heap.size, 0, none⟩ 1 1 new (by omega) hcell h1c (by unfold maxLen; omega) hbb (by simp; omega)
  obtain ⟨g, c, rfl⟩ := ownsRow_form hown2 (by omega)
  exact ⟨g, c, w2, happ0, hown2, hgrow⟩

/-- blobs as cells -/
def bl (l : List (Int × ByteArray)) : List Value := l.flatMap fun b => [.int .i64 b.1, .string b.2]
theorem bl_nil : bl [] = [] := rfl
theorem bl_snoc (l : List (Int × ByteArray)) (b : Int × ByteArray) : bl (l ++ [b]) = bl l ++ [.int .i64 b.1, .string b.2] := by simp [bl]
theorem bl_cons (b : Int × ByteArray) (l : List (Int × ByteArray)) : bl (b :: l) = .int .i64 b.1 :: .string b.2 :: bl l := by simp [bl]
theorem bl_len : ∀ l : List (Int × ByteArray), (bl l).length = 2 * l.length
  | [] => rfl
  | b :: l => by rw [bl_cons, List.length_cons, List.length_cons, bl_len l, List.length_cons]; omega
theorem bl_at : ∀ (l : List (Int × ByteArray)) (i : Nat) (b : Int × ByteArray), l[i]? = some b → (bl l)[i * 2]? = some (.int .i64 b.1) ∧ (bl l)[i * 2 + 1]? = some (.string b.2)
  | [], i, b, h => by simp at h
  | c :: l, 0, b, h => by
    simp at h
    subst h
    rw [bl_cons]
    exact ⟨rfl, rfl⟩
  | c :: l, i + 1, b, h => by
    rw [bl_cons]
    have e : (i + 1) * 2 = i * 2 + 1 + 1 := by omega
    rw [e]
    exact bl_at l i b (by simpa using h)
/-- entries as cells: key, kind, place, size -/
def en (l : List (ByteArray × Int × Int × Int)) : List Value := l.flatMap fun b => [.string b.1, .int .i64 b.2.1, .int .i64 b.2.2.1, .int .i64 b.2.2.2]
theorem en_snoc (l : List (ByteArray × Int × Int × Int)) (b : ByteArray × Int × Int × Int) : en (l ++ [b]) = en l ++ [.string b.1, .int .i64 b.2.1, .int .i64 b.2.2.1, .int .i64 b.2.2.2] := by simp [en]
theorem en_cons (b : ByteArray × Int × Int × Int) (l : List (ByteArray × Int × Int × Int)) : en (b :: l) = .string b.1 :: .int .i64 b.2.1 :: .int .i64 b.2.2.1 :: .int .i64 b.2.2.2 :: en l := by simp [en]
theorem en_len : ∀ l : List (ByteArray × Int × Int × Int), (en l).length = 4 * l.length
  | [] => rfl
  | b :: l => by rw [en_cons]; simp only [List.length_cons]; rw [en_len l]; omega
theorem en_at : ∀ (l : List (ByteArray × Int × Int × Int)) (i : Nat) (b : ByteArray × Int × Int × Int), l[i]? = some b → (en l)[i * 4]? = some (.string b.1) ∧ (en l)[i * 4 + 1]? = some (.int .i64 b.2.1) ∧ (en l)[i * 4 + 2]? = some (.int .i64 b.2.2.1) ∧ (en l)[i * 4 + 3]? = some (.int .i64 b.2.2.2)
  | [], i, b, h => by simp at h
  | c :: l, 0, b, h => by
    simp at h
    subst h
    rw [en_cons]
    exact ⟨rfl, rfl, rfl, rfl⟩
  | c :: l, i + 1, b, h => by
    rw [en_cons]
    have e : (i + 1) * 4 = i * 4 + 1 + 1 + 1 + 1 := by omega
    rw [e]
    exact en_at l i b (by simpa using h)
/-- one blob of a row -/
theorem Rd.blob {w : World} {a : Option Addr} {l : List (Int × ByteArray)} (h : Rd w a (bl l)) {i : Nat} {b : Int × ByteArray} (hb : l[i]? = some b) : ∃ g off, a = some ⟨g, off, none⟩ ∧ w.cell? ⟨g, off + i * 2, none⟩ = some (.int .i64 b.1) ∧ w.cell? ⟨g, off + i * 2 + 1, none⟩ = some (.string b.2) ∧ g < w.heap.size := by
  obtain ⟨h0, h1⟩ := bl_at l i b hb
  obtain ⟨g, off, e, c0⟩ := h _ _ h0
  obtain ⟨g', off', e', c1⟩ := h _ _ h1
  rw [e] at e'
  simp at e'
  obtain ⟨rfl, rfl⟩ := e'
  exact ⟨g, off, e, c0, by rw [Nat.add_assoc]; exact c1, World.block_lt_of_cell? w _ c0⟩
theorem Rd.entry {w : World} {a : Option Addr} {l : List (ByteArray × Int × Int × Int)} (h : Rd w a (en l)) {i : Nat} {b : ByteArray × Int × Int × Int} (hb : l[i]? = some b) : ∃ g off, a = some ⟨g, off, none⟩ ∧ w.cell? ⟨g, off + i * 4, none⟩ = some (.string b.1) ∧ w.cell? ⟨g, off + i * 4 + 1, none⟩ = some (.int .i64 b.2.1) ∧ w.cell? ⟨g, off + i * 4 + 2, none⟩ = some (.int .i64 b.2.2.1) ∧ w.cell? ⟨g, off + i * 4 + 3, none⟩ = some (.int .i64 b.2.2.2) ∧ g < w.heap.size := by
  obtain ⟨h0, h1, h2, h3⟩ := en_at l i b hb
  obtain ⟨g, off, e, c0⟩ := h _ _ h0
  obtain ⟨g1, off1, e1, c1⟩ := h _ _ h1
  obtain ⟨g2, off2, e2, c2⟩ := h _ _ h2
  obtain ⟨g3, off3, e3, c3⟩ := h _ _ h3
  rw [e] at e1 e2 e3
  simp at e1 e2 e3
  obtain ⟨rfl, rfl⟩ := e1
  obtain ⟨rfl, rfl⟩ := e2
  obtain ⟨rfl, rfl⟩ := e3
  exact ⟨g, off, e, c0, by rw [Nat.add_assoc]; exact c1, by rw [Nat.add_assoc]; exact c2, by rw [Nat.add_assoc]; exact c3, World.block_lt_of_cell? w _ c0⟩
end Go.Proofs.YtlmhdebjmkcanabDoor.row
namespace Go.Proofs.YtlmhdebjmkcanabDoor.lwb
open Go.RowKit Go.Joins
open Go.Proofs.YtlmhdebjmkcanabDoor.base Go.Proofs.YtlmhdebjmkcanabDoor.blk Go.Proofs.YtlmhdebjmkcanabDoor.aid
set_option linter.unusedVariables false

theorem below2 (w : World) (o1 o2 : Obj) : Below w.heap.size w ((w.alloc o1).alloc o2) := (below_alloc1 w o1).alloc (by simp) _
theorem below3 (w : World) (o1 o2 o3 : Obj) : Below w.heap.size w (((w.alloc o1).alloc o2).alloc o3) := (below2 w o1 o2).alloc (by simp; omega) _

set_option maxRecDepth 100000 in
theorem eq_same (k : Int) (t : ByteArray) (w : World) :
    Calls Tryd.prog 37 #[.agg #[.int .i64 k, .string t], .agg #[.int .i64 k, .string t]] w fun e w' => e = .returned (.bool true) ∧ Below w.heap.size w w' := by
  have h1 : (k != k) = false := by simp
  have h2 : (!t.toList == t.toList) = false := by simp
  go_enter Tryd.func37, Tryd.ntmps37
  go_wp2
  go_ret
  exact ⟨rfl, below2 _ _ _⟩

set_option maxRecDepth 100000 in
theorem szE_any (x : ByteArray) (k a n : Int) (m : Int) (w : World) (ht : (x.size : Int) ≤ 9223372036854775807) (hm : 0 ≤ m) (hm1 : m ≤ 1048576) :
    Calls Tryd.prog 16 #[.agg #[.string x, .int .i64 k, .int .i64 a, .int .i64 n], .int .i64 m] w fun e w' => e = .returned (.int .i64 (if m < x.size then -1 else m - x.size)) ∧ Below w.heap.size w w' := by
  go_enter Tryd.func16, Tryd.ntmps16
  by_cases h : m < x.size
  · rw [if_pos h]
    go_wp2
    go_ret
    exact ⟨rfl, below_alloc1 _ _⟩
  · rw [if_neg h]
    go_wp2
    go_ret
    exact ⟨rfl, below_alloc1 _ _⟩

set_option maxRecDepth 100000 in
theorem toE_any (x : ByteArray) (k a n : Int) (w : World) :
    Calls Tryd.prog 18 #[.agg #[.string x, .int .i64 k, .int .i64 a, .int .i64 n]] w fun e w' => e = .returned (.agg #[.string x, .int .i64 k, .int .i64 a, .int .i64 n]) ∧ Below w.heap.size w w' := by
  go_enter Tryd.func18, Tryd.ntmps18
  go_wp2
  exact bodyPost_ret (v := .agg #[.string x, .int .i64 k, .int .i64 a, .int .i64 n]) (by simp [results, Tryd.results18, go_sem]) rfl ⟨rfl, below3 _ _ _ _⟩

set_option maxRecDepth 100000 in
theorem eqE_same (x : ByteArray) (k a n : Int) (w : World) :
    Calls Tryd.prog 30 #[.agg #[.string x, .int .i64 k, .int .i64 a, .int .i64 n], .agg #[.string x, .int .i64 k, .int .i64 a, .int .i64 n]] w fun e w' => e = .returned (.bool true) ∧ Below w.heap.size w w' := by
  have h1 : (k != k) = false := by simp
  have h2 : (!x.toList == x.toList) = false := by simp
  have h3 : (a != a) = false := by simp
  have h4 : (n != n) = false := by simp
  go_enter Tryd.func30, Tryd.ntmps30
  go_wp2
  go_ret
  exact ⟨rfl, below2 _ _ _⟩

set_option maxRecDepth 100000 in
theorem eqO_same (k : Int) (t : ByteArray) (c : Int) (w : World) :
    Calls Tryd.prog 20 #[.agg #[.int .i64 k, .string t, .int .i64 c], .agg #[.int .i64 k, .string t, .int .i64 c]] w fun e w' => e = .returned (.bool true) ∧ Below w.heap.size w w' := by
  have h1 : (c != c) = false := by simp
  have HE := mkHid (fun wx => eq_same k t wx)
  go_enter Tryd.func20, Tryd.ntmps20
  go_wp2_with fail
  refine (HE.out _).mono ?_
  rintro e w1 ⟨rfl, hb1⟩
  have K0 := blk_below (blk_old (blk_new w (.cells #[.int .i64 k, .string t, .int .i64 c] 39) w.heap.size rfl) (.cells #[.int .i64 k, .string t, .int .i64 c] 39)) hb1
  have K1 := blk_below (blk_new (w.alloc (.cells #[.int .i64 k, .string t, .int .i64 c] 39)) (.cells #[.int .i64 k, .string t, .int .i64 c] 39) (w.heap.size + 1) (by simp)) hb1
  have c2 := (cel3 K0).2.2
  have c5 := (cel3 K1).2.2
  have B1 := mkHid (below_allocs (os := [_, _]) hb1)
  clear hb1 K0 K1 HE
  go_wp2
  go_ret
  exact ⟨rfl, B1.out⟩
end Go.Proofs.YtlmhdebjmkcanabDoor.lwb
namespace Go.Proofs.YtlmhdebjmkcanabDoor.lwb
open Go.RowKit Go.Joins
open Go.Proofs.YtlmhdebjmkcanabDoor.base Go.Proofs.YtlmhdebjmkcanabDoor.blk Go.Proofs.YtlmhdebjmkcanabDoor.aid
open Go.Proofs.YtlmhdebjmkcanabDoor.row (bl en Rd Own OwnV)
set_option linter.unusedVariables false

set_option maxRecDepth 100000 in
theorem eqS_same (a b : Option Addr) (ca cb : Nat) (l : List (Int × ByteArray)) (w : World) (hl : l.length ≤ 1048576) (ha : Rd w a (bl l)) (hb : Rd w b (bl l)) :
    Calls Tryd.prog 26 #[.slice a l.length ca, .slice b l.length cb] w fun e w' => e = .returned (.bool true) ∧ Below w.heap.size w w' := by
  go_enter Tryd.func26, Tryd.ntmps26
  go_wp2
  go_loopw [5] (fun i wr => ∃ k : Nat, k ≤ l.length ∧ i = .int .i64 k ∧ Below w.heap.size w wr)
    (fun i _ => l.length - (intOf i).toNat)
  case atStart => exact ⟨0, Nat.zero_le _, rfl, Below.refl _ _⟩
  case round =>
    obtain ⟨k, hk, rfl, hbel⟩ := hrel
    by_cases hlt : k < l.length
    · obtain ⟨x, hx⟩ : ∃ z, l[k]? = some z := ⟨_, List.getElem?_eq_getElem hlt⟩
      obtain ⟨g1, o1, rfl, c1, c2, l1⟩ := ha.blob hx
      obtain ⟨g2, o2, rfl, d1, d2, l2⟩ := hb.blob hx
      have e1 := (hbel.cell (p := ⟨g1, o1 + k * 2, none⟩) l1).trans c1
      have e2 := (hbel.cell (p := ⟨g1, o1 + k * 2 + 1, none⟩) l1).trans c2
      have e3 := (hbel.cell (p := ⟨g2, o2 + k * 2, none⟩) l2).trans d1
      have e4 := (hbel.cell (p := ⟨g2, o2 + k * 2 + 1, none⟩) l2).trans d2
      have hlti : (k : Int) < (l.length : Int) := by omega
      have HE := mkHid (fun wx => eq_same x.1 x.2 wx)
      have HB := mkHid hbel
      have C := mkHid (And.intro e1 (And.intro e2 (And.intro e3 e4)))
      clear ha hb hx c1 c2 d1 d2 hbel
      go_wp2_with fail
      go_region_held3 (fun w' => w'.cell? ⟨g1, o1 + k * 2, none⟩ = some (.int .i64 x.1) ∧ w'.cell? ⟨g1, o1 + k * 2 + 1, none⟩ = some (.string x.2) ∧ w'.cell? ⟨g2, o2 + k * 2, none⟩ = some (.int .i64 x.1) ∧ w'.cell? ⟨g2, o2 + k * 2 + 1, none⟩ = some (.string x.2)) (go_keep)
        ((go_at_call 37; refine Calls.mono (HE.out _) ?_; rintro e w1 ⟨rfl, hb1⟩; have hr := re (w := wr) hb1 rfl rfl rfl rfl; have B1 := mkHid (HB.out.trans (hr.mono HB.out.size)); have q1 := (hr.cell (p := ⟨g1, o1 + k * 2, none⟩) (World.block_lt_of_cell? wr _ C.out.1)).trans C.out.1; have q2 := (hr.cell (p := ⟨g1, o1 + k * 2 + 1, none⟩) (World.block_lt_of_cell? wr _ C.out.2.1)).trans C.out.2.1; have q3 := (hr.cell (p := ⟨g2, o2 + k * 2, none⟩) (World.block_lt_of_cell? wr _ C.out.2.2.1)).trans C.out.2.2.1; have q4 := (hr.cell (p := ⟨g2, o2 + k * 2 + 1, none⟩) (World.block_lt_of_cell? wr _ C.out.2.2.2)).trans C.out.2.2.2; clear hb1 hr))
      go_wp2
      go_roundw
      case rel => exact ⟨k + 1, by omega, by go_num, B1.out⟩
      case measure => simp [intOf]; omega
    · obtain rfl : k = l.length := by omega
      go_wp2
      go_ret
      exact ⟨rfl, hbel⟩
set_option maxRecDepth 100000 in
set_option maxHeartbeats 1000000 in
theorem eqES_same (a b : Option Addr) (ca cb : Nat) (l : List (ByteArray × Int × Int × Int)) (w : World) (hl : l.length ≤ 1048576) (ha : Rd w a (en l)) (hb : Rd w b (en l)) :
    Calls Tryd.prog 13 #[.slice a l.length ca, .slice b l.length cb] w fun e w' => e = .returned (.bool true) ∧ Below w.heap.size w w' := by
  go_enter Tryd.func13, Tryd.ntmps13
  go_wp2
  go_loopw [5] (fun i wr => ∃ k : Nat, k ≤ l.length ∧ i = .int .i64 k ∧ Below w.heap.size w wr)
    (fun i _ => l.length - (intOf i).toNat)
  case atStart => exact ⟨0, Nat.zero_le _, rfl, Below.refl _ _⟩
  case round =>
    obtain ⟨k, hk, rfl, hbel⟩ := hrel
    by_cases hlt : k < l.length
    · obtain ⟨x, hx⟩ : ∃ z, l[k]? = some z := ⟨_, List.getElem?_eq_getElem hlt⟩
      obtain ⟨x0, x1, x2, x3⟩ := x
      obtain ⟨g1, o1, rfl, c1, c2, c3, c4, l1⟩ := ha.entry hx
      obtain ⟨g2, o2, rfl, d1, d2, d3, d4, l2⟩ := hb.entry hx
      have e1 := (hbel.cell (p := ⟨g1, o1 + k * 4, none⟩) l1).trans c1
      have e2 := (hbel.cell (p := ⟨g1, o1 + k * 4 + 1, none⟩) l1).trans c2
      have e3 := (hbel.cell (p := ⟨g1, o1 + k * 4 + 2, none⟩) l1).trans c3
      have e4 := (hbel.cell (p := ⟨g1, o1 + k * 4 + 3, none⟩) l1).trans c4
      have f1 := (hbel.cell (p := ⟨g2, o2 + k * 4, none⟩) l2).trans d1
      have f2 := (hbel.cell (p := ⟨g2, o2 + k * 4 + 1, none⟩) l2).trans d2
      have f3 := (hbel.cell (p := ⟨g2, o2 + k * 4 + 2, none⟩) l2).trans d3
      have f4 := (hbel.cell (p := ⟨g2, o2 + k * 4 + 3, none⟩) l2).trans d4
      have hlti : (k : Int) < (l.length : Int) := by omega
      have HE := mkHid (fun wx => eqE_same x0 x1 x2 x3 wx)
      have HB := mkHid hbel
      have C := mkHid (And.intro e1 (And.intro e2 (And.intro e3 (And.intro e4 (And.intro f1 (And.intro f2 (And.intro f3 f4)))))))
      clear ha hb hx c1 c2 c3 c4 d1 d2 d3 d4 hbel
      go_wp2_with fail
      go_region_held3 (fun w' => w'.cell? ⟨g1, o1 + k * 4, none⟩ = some (.string x0) ∧ w'.cell? ⟨g1, o1 + k * 4 + 1, none⟩ = some (.int .i64 x1) ∧ w'.cell? ⟨g1, o1 + k * 4 + 2, none⟩ = some (.int .i64 x2) ∧ w'.cell? ⟨g1, o1 + k * 4 + 3, none⟩ = some (.int .i64 x3) ∧ w'.cell? ⟨g2, o2 + k * 4, none⟩ = some (.string x0) ∧ w'.cell? ⟨g2, o2 + k * 4 + 1, none⟩ = some (.int .i64 x1) ∧ w'.cell? ⟨g2, o2 + k * 4 + 2, none⟩ = some (.int .i64 x2) ∧ w'.cell? ⟨g2, o2 + k * 4 + 3, none⟩ = some (.int .i64 x3)) (go_keep)
        ((go_at_call 30; refine Calls.mono (HE.out _) ?_; rintro e w1 ⟨rfl, hb1⟩; have hr := re (w := wr) hb1 rfl rfl rfl rfl; have B1 := mkHid (HB.out.trans (hr.mono HB.out.size)); have q1 := (hr.cell (p := ⟨g1, o1 + k * 4, none⟩) (World.block_lt_of_cell? wr _ C.out.1)).trans C.out.1; have q2 := (hr.cell (p := ⟨g1, o1 + k * 4 + 1, none⟩) (World.block_lt_of_cell? wr _ C.out.2.1)).trans C.out.2.1; have q3 := (hr.cell (p := ⟨g1, o1 + k * 4 + 2, none⟩) (World.block_lt_of_cell? wr _ C.out.2.2.1)).trans C.out.2.2.1; have q4 := (hr.cell (p := ⟨g1, o1 + k * 4 + 3, none⟩) (World.block_lt_of_cell? wr _ C.out.2.2.2.1)).trans C.out.2.2.2.1; have r1 := (hr.cell (p := ⟨g2, o2 + k * 4, none⟩) (World.block_lt_of_cell? wr _ C.out.2.2.2.2.1)).trans C.out.2.2.2.2.1; have r2 := (hr.cell (p := ⟨g2, o2 + k * 4 + 1, none⟩) (World.block_lt_of_cell? wr _ C.out.2.2.2.2.2.1)).trans C.out.2.2.2.2.2.1; have r3 := (hr.cell (p := ⟨g2, o2 + k * 4 + 2, none⟩) (World.block_lt_of_cell? wr _ C.out.2.2.2.2.2.2.1)).trans C.out.2.2.2.2.2.2.1; have r4 := (hr.cell (p := ⟨g2, o2 + k * 4 + 3, none⟩) (World.block_lt_of_cell? wr _ C.out.2.2.2.2.2.2.2)).trans C.out.2.2.2.2.2.2.2; clear hb1 hr))
      go_wp2
      go_roundw
      case rel => exact ⟨k + 1, by omega, by go_num, B1.out⟩
      case measure => simp [intOf]; omega
    · obtain rfl : k = l.length := by omega
      go_wp2
      go_ret
      exact ⟨rfl, hbel⟩
end Go.Proofs.YtlmhdebjmkcanabDoor.lwb
