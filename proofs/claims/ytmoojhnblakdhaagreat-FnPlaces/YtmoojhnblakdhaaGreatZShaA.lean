/-
  Rows of int64 in memory: what laws.toInt64S, szInt64S, eqInt64S, markInt64S and heldInt64S answer and leave. Conditions: at most 1,048,576 numbers; the numbers lie in memory; a row that is written lies in a block of its own.
  Rows of numbers in memory, as functions and as lists; a Hash as a value; the state at first. No condition.
  What spec.HashRight, HashBegin, HashMore, HashEnd and Digest answer and leave. Conditions: at most 1,048,576 numbers, which lie in memory; at most 1,048,576 bytes.
  What spec.HashBegin answers and leaves. No condition.
  Numbers of 32 bits: sums, bits and turns as plain functions, folded, so that walks carry their names. No condition.
  SHA-256 in plain numbers, as the specification reckons it: the words of a block, the rounds, a block taken into a state. Rows of words in memory. No condition.
  What spec.l05Keys answers and leaves. No condition.
  What spec.l05Block answers and leaves. Conditions: a state of eight numbers, which lie in memory; a text of 64 bytes.
-/
import Derived.Test.YtmoojhnblakdhaaGreatRows
import Derived.Test.YtmoojhnblakdhaaGreatBase
import Derived.Test.YtmoojhnblakdhaaGreatBlk
import Derived.Lib.SmallJoins
import Derived.Laws.MakeOwn
import Derived.PlainAid
import Derived.Deep.QuietTactic
import Derived.BigQuiet
import Derived.BigRegion
import Derived.Deep.DeepCutAuto
import Derived.Deep.RegionHeld3
namespace Go.Proofs.YtmoojhnblakdhaaGreat.ints
open Go.RowKit Go.Joins
open Go.Proofs.YtmoojhnblakdhaaGreat.base
set_option linter.unusedVariables false

/-- a number as a cell -/
def intV (z : Int) : Value := .int .i64 z

/-- the numbers of a slice lie in memory -/
def Rd (w : World) (a : Option Addr) (zs : List Int) : Prop :=
  ∀ i z, zs[i]? = some z → ∃ b off, a = some ⟨b, off, none⟩ ∧ w.cell? ⟨b, off + i, none⟩ = some (.int .i64 z)

/-- a row in a block of its own -/
def Own (w : World) (g : Nat) (zs : List Int) : Prop := w.heap[g]? = some (.cells (zs.map intV).toArray 2 (0, 0))

theorem Rd.block {w w' : World} {a : Option Addr} {zs : List Int} (h : Rd w a zs) (hb : ∀ b off, a = some ⟨b, off, none⟩ → b < w.heap.size → w'.heap[b]? = w.heap[b]?) : Rd w' a zs := by
  intro i z hz
  obtain ⟨b, off, e1, e2⟩ := h i z hz
  refine ⟨b, off, e1, ?_⟩
  rw [World.cell?_of_block (w := w) (a := ⟨b, off + i, none⟩) (hb b off e1 (World.block_lt_of_cell? w _ e2))]
  exact e2
theorem Rd.below {w w' : World} {a : Option Addr} {zs : List Int} (h : Rd w a zs) (hb : Below w.heap.size w w') : Rd w' a zs := h.block fun b _ _ hl => hb.block b hl
theorem Rd.drew {w : World} {a : Option Addr} {zs : List Int} (h : Rd w a zs) : Rd w.drew a zs := h
theorem Rd.alloc {w : World} {a : Option Addr} {zs : List Int} (h : Rd w a zs) (o : Obj) : Rd (w.alloc o) a zs := h.below ((Below.refl _ _).alloc (Nat.le_refl _) o)
theorem Rd.nil (w : World) : Rd w none [] := by intro i z h; simp at h

theorem Own.lt {w : World} {g : Nat} {zs : List Int} (h : Own w g zs) : g < w.heap.size := (Array.getElem?_eq_some_iff.1 h).1
theorem Own.below {w w' : World} {g : Nat} {zs : List Int} (h : Own w g zs) (hb : Below w.heap.size w w') : Own w' g zs := (hb.block g h.lt).trans h
theorem Own.cell {w : World} {g : Nat} {zs : List Int} (h : Own w g zs) {i : Nat} {z : Int} (hz : zs[i]? = some z) : w.cell? ⟨g, i, none⟩ = some (.int .i64 z) := by
  rw [cell_of_block h]; simp [hz, intV]
theorem Own.free {w : World} {g : Nat} {zs : List Int} (h : Own w g zs) (i : Nat) : w.frozen? ⟨g, i, none⟩ = false := unfrozen_of_block h i
theorem Own.rd {w : World} {g : Nat} {zs : List Int} (h : Own w g zs) : Rd w (some ⟨g, 0, none⟩) zs := by
  intro i z hz
  exact ⟨g, 0, rfl, by simpa using h.cell hz⟩
theorem Own.set {w : World} {g : Nat} {zs : List Int} (h : Own w g zs) (i : Nat) (z : Int) : Own (w.setCell ⟨g, i, none⟩ (.int .i64 z)) g (zs.set i z) := by
  have e := block_setCell (i := i) h (.int .i64 z)
  unfold Own
  rw [e]
  congr 2
  simp [intV, List.map_set]

theorem Own.other {w : World} {g : Nat} {zs : List Int} (h : Own w g zs) (p : Addr) (v : Value) (hne : g ≠ p.block) : Own (w.setCell p v) g zs := (Below.heap_setCell w p v g hne).trans h

theorem grew_set {w w' : World} {g i : Nat} {v : Value} (h : w.grownBy w' (some g)) : w.grownBy (w'.setCell ⟨g, i, none⟩ v) (some g) :=
  ⟨h.os, h.tape, h.output, by simpa using h.size, fun k hk hne => (Below.heap_setCell w' ⟨g, i, none⟩ v k (fun e => hne (by simp at e; rw [e]))).trans (h.block k hk hne)⟩
theorem grew_refl (w : World) (r : Option Nat) : w.grownBy w r := ⟨rfl, rfl, rfl, Nat.le_refl _, fun _ _ _ => rfl⟩
theorem grew_alloc {w w' : World} {r : Option Nat} (h : w.grownBy w' r) (o : Obj) : w.grownBy (w'.alloc o) r :=
  ⟨h.os, h.tape, h.output, by have := h.size; simp; omega, fun k hk hne => (Below.heap_alloc w' o k (Nat.lt_of_lt_of_le hk h.size)).trans (h.block k hk hne)⟩
theorem grew_trans {a b c : World} {r : Option Nat} (h : a.grownBy b r) (k : b.grownBy c r) : a.grownBy c r :=
  ⟨k.os.trans h.os, k.tape.trans h.tape, k.output.trans h.output, Nat.le_trans h.size k.size, fun i hi hne => (k.block i (Nat.lt_of_lt_of_le hi h.size) hne).trans (h.block i hi hne)⟩

theorem info2 : (Tryz.prog.info? 2).map (fun i => (i.zero, i.size, i.bytes)) = some (some (.int .i64 0), 1, 8) := by kernel_rfl
theorem info_parts {o : Option TypeInfo} {z : Option Value} {s b : Nat} (h : o.map (fun i => (i.zero, i.size, i.bytes)) = some (z, s, b)) : ∃ i, o = some i ∧ i.zero = z ∧ i.size = s ∧ i.bytes = b := by
  cases o with
  | none => simp at h
  | some i => simp at h; exact ⟨i, rfl, h.1, h.2.1, h.2.2⟩
theorem info2s : (Tryz.prog.info? 2).map (·.size) = some 1 := by kernel_rfl

theorem made_row (n : Nat) : madeCells #[.int .i64 0] n = ((List.replicate n (0 : Int)).map intV).toArray := by
  apply Array.ext
  · simp [madeCells]
  · intro i h1 h2
    simp [intV, madeCells, Nat.mod_one]

theorem run_make_ints (n : Nat) (hn : n ≤ 1048576) (u : World) : (Instr.makeSlice 84 (.int .i64 (n : Int)) (.int .i64 (n : Int))).run Tryz.prog u =
    .ok (.slice (some ⟨u.heap.size, 0, none⟩) n n) (u.alloc (.cells ((List.replicate n (0 : Int)).map intV).toArray 2)) := by
  obtain ⟨i0, hi, hz0, hz1, hz2⟩ := info_parts info2
  have h := run_make (P := Tryz.prog) u 84 2 i0 (.int .i64 0) Tryz.underlying84 hi hz0 .i64 .i64 (n : Int) (n : Int) (by omega) (Int.le_refl _) (by rw [hz2]; omega) (by omega)
  have e : (n : Int).toNat = n := by omega
  rw [e] at h
  rw [← made_row]
  simpa [hz1, Value.cells] using h

/-- k numbers are there, the rest is 0 -/
def part (zs : List Int) (k : Nat) : List Int := zs.take k ++ List.replicate (zs.length - k) 0
theorem part_zero (zs : List Int) : part zs 0 = List.replicate zs.length 0 := by simp [part]
theorem part_all (zs : List Int) : part zs zs.length = zs := by simp [part]
theorem part_len (zs : List Int) (k : Nat) (hk : k ≤ zs.length) : (part zs k).length = zs.length := by simp [part]; omega
theorem part_next (zs : List Int) (k : Nat) (z : Int) (hk : k < zs.length) (hz : zs[k]? = some z) : (part zs k).set k z = part zs (k + 1) := by
  unfold part
  have e : zs.length - k = (zs.length - (k + 1)) + 1 := by omega
  rw [e, List.replicate_succ, List.set_append_right _ _ (by simp; omega)]
  have e2 : (zs.take k).length = k := by simp; omega
  rw [e2, Nat.sub_self, List.set_cons_zero, List.take_add_one, hz]
  simp

theorem ret_eq {b c : Bool} (h : b = c) : Ending.returned (.bool b) = .returned (.bool c) := by rw [h]

/-- numbers from k on, n of them -/
def from_ (k : Int) (n : Nat) : List Int := (List.range n).map fun (i : Nat) => k + (i : Int)
theorem from_len (k : Int) (n : Nat) : (from_ k n).length = n := by simp [from_]
theorem from_at (k : Int) (n i : Nat) (h : i < n) : (from_ k n)[i]? = some (k + (i : Int)) := by simp [from_, h]
/-- i numbers are marked -/
def marked (k : Int) (zs : List Int) (i : Nat) : List Int := (from_ k zs.length).take i ++ zs.drop i
theorem marked_zero (k : Int) (zs : List Int) : marked k zs 0 = zs := by simp [marked]
theorem marked_all (k : Int) (zs : List Int) : marked k zs zs.length = from_ k zs.length := by
  unfold marked
  rw [List.take_of_length_le (by rw [from_len]; exact Nat.le_refl _)]
  simp
theorem marked_len (k : Int) (zs : List Int) (i : Nat) (h : i ≤ zs.length) : (marked k zs i).length = zs.length := by simp [marked, from_len]; omega
theorem marked_next (k : Int) (zs : List Int) (i : Nat) (h : i < zs.length) : (marked k zs i).set i (k + (i : Int)) = marked k zs (i + 1) := by
  unfold marked
  have e2 : ((from_ k zs.length).take i).length = i := by simp [from_len]; omega
  rw [List.set_append_right _ _ (by rw [e2]; exact Nat.le_refl _), e2, Nat.sub_self, List.drop_eq_getElem_cons h, List.set_cons_zero, List.take_add_one, from_at k _ i h]
  simp

end Go.Proofs.YtmoojhnblakdhaaGreat.ints
namespace Go.Proofs.YtmoojhnblakdhaaGreat.sha
open Go.RowKit Go.Joins
open Go.Proofs.YtmoojhnblakdhaaGreat.base Go.Proofs.YtmoojhnblakdhaaGreat.ints Go.Proofs.YtmoojhnblakdhaaGreat.blk
set_option linter.unusedVariables false

/-- a row of numbers of one kind in a block of its own -/
def rowF (k : IntKind) (ty : TypeId) (n : Nat) (g : Nat → Int) : Obj := .cells ((List.range n).map fun i => Value.int k (g i)).toArray ty (0, 0)
def upd (g : Nat → Int) (j : Nat) (z : Int) : Nat → Int := fun i => if i = j then z else g i

theorem rowF_cell {w : World} {b : Nat} {k : IntKind} {ty : TypeId} {n : Nat} {g : Nat → Int} (h : w.heap[b]? = some (rowF k ty n g)) {i : Nat} (hi : i < n) : w.cell? ⟨b, i, none⟩ = some (.int k (g i)) := by
  rw [cell_of_block h]; simp [hi]
theorem rowF_free {w : World} {b : Nat} {k : IntKind} {ty : TypeId} {n : Nat} {g : Nat → Int} (h : w.heap[b]? = some (rowF k ty n g)) (i : Nat) : w.frozen? ⟨b, i, none⟩ = false := unfrozen_of_block h i
theorem rowF_set {w : World} {b : Nat} {k : IntKind} {ty : TypeId} {n : Nat} {g : Nat → Int} (h : w.heap[b]? = some (rowF k ty n g)) (i : Nat) (z : Int) : (w.setCell ⟨b, i, none⟩ (.int k z)).heap[b]? = some (rowF k ty n (upd g i z)) := by
  have e := block_setCell (i := i) h (.int k z)
  rw [e]
  unfold rowF
  congr 2
  apply Array.ext
  · simp
  · intro j h1 h2
    simp at h2
    simp [upd]
    by_cases e2 : i = j
    · subst e2; simp
    · have e3 : ¬ j = i := fun e => e2 e.symm
      simp [e2, e3]
theorem rowF_congr {k : IntKind} {ty : TypeId} {n : Nat} {g g' : Nat → Int} (h : ∀ i, i < n → g i = g' i) : rowF k ty n g = rowF k ty n g' := by
  unfold rowF
  congr 2
  apply List.map_congr_left
  intro i hi
  rw [h i (by simpa using hi)]

/-- a Hash as a value -/
def hash (a : Option Addr) (n cap : Nat) (r : ByteArray) (size : Int) : Value := .agg #[.slice a n cap, .string r, .int .i64 size]
/-- the answer's variable, still empty -/
def zeroH : Obj := .cells #[.slice none 0 0, .string ⟨#[]⟩, .int .i64 0] 88

/-- the state at first -/
def startL : List Int := [0x6a09e667, 0xbb67ae85, 0x3c6ef372, 0xa54ff53a, 0x510e527f, 0x9b05688c, 0x1f83d9ab, 0x5be0cd19]
def start (i : Nat) : Int := startL.getD i 0
def fn (zs : List Int) (i : Nat) : Int := zs.getD i 0
/-- eight numbers as a list -/
def list8 (f : Nat → Int) : List Int := (List.range 8).map f
theorem rd8 {w : World} {g : Nat} {f : Nat → Int} (h : ∀ i, i < 8 → w.cell? ⟨g, i, none⟩ = some (.int .i64 (f i))) : Rd w (some ⟨g, 0, none⟩) (list8 f) := by
  intro i z hz
  unfold list8 at hz
  rw [List.getElem?_map] at hz
  by_cases h8 : i < 8
  · rw [List.getElem?_range h8] at hz
    simp at hz
    subst hz
    exact ⟨g, 0, rfl, by simpa using h i h8⟩
  · rw [List.getElem?_eq_none (by simp; omega)] at hz
    simp at hz
theorem list8_len (f : Nat → Int) : (list8 f).length = 8 := by simp [list8]
theorem rd_fn {w : World} {b0 off : Nat} {zs : List Int} (h : Rd w (some ⟨b0, off, none⟩) zs) (h8 : zs.length = 8) : ∀ i, i < 8 → w.cell? ⟨b0, off + i, none⟩ = some (.int .i64 (fn zs i)) := by
  intro i hi
  obtain ⟨z, hz⟩ : ∃ z, zs[i]? = some z := ⟨_, List.getElem?_eq_getElem (by omega)⟩
  obtain ⟨b, o, e, hc⟩ := h i z hz
  simp at e
  obtain ⟨rfl, rfl⟩ := e
  rw [hc]
  simp [fn, List.getD, hz]
end Go.Proofs.YtmoojhnblakdhaaGreat.sha
namespace Go.Proofs.YtmoojhnblakdhaaGreat.sha
open Go.RowKit Go.Joins
open Go.Proofs.YtmoojhnblakdhaaGreat.base Go.Proofs.YtmoojhnblakdhaaGreat.ints Go.Proofs.YtmoojhnblakdhaaGreat.blk
set_option linter.unusedVariables false

def u32B (z : Int) : Bool := decide (0 ≤ z ∧ z ≤ 4294967295)
/-- is a Hash right? -/
def hRight (zs : List Int) (r : ByteArray) (size : Int) : Bool := decide (zs.length = 8 ∧ (0 ≤ size ∧ size ≤ 1099511627776) ∧ (r.size : Int) = size % 64) && zs.all u32B

theorem all_next {zs : List Int} {k : Nat} {z : Int} (hz : zs[k]? = some z) (h : (zs.take k).all u32B = true) (hb : u32B z = true) : (zs.take (k + 1)).all u32B = true := by
  rw [List.take_add_one, hz, List.all_append, h]
  simp [hb]
theorem all_not {zs : List Int} {k : Nat} {z : Int} (hz : zs[k]? = some z) (hb : u32B z = false) : zs.all u32B = false := by
  rw [List.all_eq_false]
  exact ⟨z, List.mem_of_getElem? hz, by simp [hb]⟩

end Go.Proofs.YtmoojhnblakdhaaGreat.sha
namespace Go.Proofs.YtmoojhnblakdhaaGreat.sha
open Go.RowKit Go.Joins
open Go.Proofs.YtmoojhnblakdhaaGreat.base Go.Proofs.YtmoojhnblakdhaaGreat.ints Go.Proofs.YtmoojhnblakdhaaGreat.blk
set_option linter.unusedVariables false

theorem start_any (w : World) : Calls Tryz.prog 72 #[] w fun e w' => e = .returned (.slice (some ⟨w.heap.size, 0, none⟩) 8 8) ∧ w' = w.alloc (rowF .i64 2 8 start) := by
  go_enter Tryz.func72, Tryz.ntmps72
  go_wp2
  go_ret
  exact ⟨rfl, rfl⟩

set_option maxRecDepth 100000 in
theorem begin_any (w : World) : Calls Tryz.prog 50 #[] w fun e w' => e = .returned (hash (some ⟨w.heap.size + 1, 0, none⟩) 8 8 ⟨#[]⟩ 0) ∧ w'.heap[w.heap.size + 1]? = some (rowF .i64 2 8 start) ∧ Below w.heap.size w w' := by
  go_enter Tryz.func50, Tryz.ntmps50
  go_wp2_with fail
  refine (start_any _).mono ?_
  rintro e w1 ⟨rfl, rfl⟩
  have k0 := blk_old (blk_new w (.cells #[.slice none 0 0, .string ⟨#[]⟩, .int .i64 0] 88) w.heap.size rfl) (rowF .i64 2 8 start)
  have k1 := mkHid (blk_new (w.alloc (.cells #[.slice none 0 0, .string ⟨#[]⟩, .int .i64 0] 88)) (rowF .i64 2 8 start) (w.heap.size + 1) (by simp))
  have B := mkHid (below_alloc2 w (.cells #[.slice none 0 0, .string ⟨#[]⟩, .int .i64 0] 88) (rowF .i64 2 8 start))
  have hs : (w.alloc (.cells #[.slice none 0 0, .string ⟨#[]⟩, .int .i64 0] 88)).heap.size = w.heap.size + 1 := by simp
  rw [hs]
  clear hs
  generalize (w.alloc (.cells #[.slice none 0 0, .string ⟨#[]⟩, .int .i64 0] 88)).alloc (rowF .i64 2 8 start) = W at *
  have c0 : W.cell? ⟨w.heap.size, 0, none⟩ = some (.slice none 0 0) := cell_of_block k0 0
  have c1 : W.cell? ⟨w.heap.size, 1, none⟩ = some (.string ⟨#[]⟩) := cell_of_block k0 1
  have c2 : W.cell? ⟨w.heap.size, 2, none⟩ = some (.int .i64 0) := cell_of_block k0 2
  have f0 : ∀ j, W.frozen? ⟨w.heap.size, j, none⟩ = false := unfrozen_of_block k0
  clear k0
  go_wp2
  exact bodyPost_ret (v := hash (some ⟨w.heap.size + 1, 0, none⟩) 8 8 ⟨#[]⟩ 0) (by simp [results, Tryz.results50, go_sem, c0, c1, c2, hash]) rfl
    ⟨rfl, blk_set (blk_set (blk_set k1.out _ _ (by simp)) _ _ (by simp)) _ _ (by simp), ((B.out.setCell (by simp) _).setCell (by simp) _).setCell (by simp) _⟩

end Go.Proofs.YtmoojhnblakdhaaGreat.sha
namespace Go.Proofs.YtmoojhnblakdhaaGreat.word
open Go.RowKit
open Go.Proofs.YtmoojhnblakdhaaGreat.base
set_option linter.unusedVariables false

def A (a b : Int) : Int := IntKind.u32.wrap (a + b)
def X (a b : Int) : Int := bits .xor .u32 a b
def N (a b : Int) : Int := bits .and .u32 a b
def O (a b : Int) : Int := bits .or .u32 a b
/-- times a power of 2 -/
def M (a c : Int) : Int := IntKind.u32.wrap (a * c)
/-- the low 32 bits -/
def U (a : Int) : Int := a % 4294967296
/-- turned right -/
def rot (x k : Int) : Int := O (x / 2 ^ k.toNat) (M x (2 ^ (32 - k).toNat))

theorem A_fold (a b : Int) : IntKind.u32.wrap (a + b) = A a b := rfl
theorem X_fold (a b : Int) : bits .xor .u32 a b = X a b := rfl
theorem N_fold (a b : Int) : bits .and .u32 a b = N a b := rfl
theorem O_fold (a b : Int) : bits .or .u32 a b = O a b := rfl
theorem M_fold (a c : Int) : IntKind.u32.wrap (a * c) = M a c := rfl

theorem ret_eq {a b : Value} (h : a = b) : Ending.returned a = Ending.returned b := by rw [h]

theorem turn_any (x k : Int) (w : World) (h0 : 0 ≤ k) (h1 : k ≤ 32) : Calls Tryz.prog 88 #[.int .u32 x, .int .u64 k] w fun e w' => e = .returned (.int .u32 (rot x k)) ∧ w' = w := by
  go_enter Tryz.func88, Tryz.ntmps88
  go_wp2
  go_ret
  exact ⟨rfl, rfl⟩
end Go.Proofs.YtmoojhnblakdhaaGreat.word
namespace Go.Proofs.YtmoojhnblakdhaaGreat.sha
open Go.RowKit Go.Joins
open Go.Proofs.YtmoojhnblakdhaaGreat.base Go.Proofs.YtmoojhnblakdhaaGreat.word Go.Proofs.YtmoojhnblakdhaaGreat.ints
set_option linter.unusedVariables false

def s0 (x : Int) : Int := X (X (rot x 7) (rot x 18)) (x / 8)
def s1 (x : Int) : Int := X (X (rot x 17) (rot x 19)) (x / 1024)
def S1 (x : Int) : Int := X (X (rot x 6) (rot x 11)) (rot x 25)
def S0 (x : Int) : Int := X (X (rot x 2) (rot x 13)) (rot x 22)
def ch (e f g : Int) : Int := X (N e f) (N (X 4294967295 e) g)
def maj (a b c : Int) : Int := X (X (N a b) (N a c)) (N b c)

/-- word i, reckoned in at most n steps back -/
def Wn (f : Nat → Int) : Nat → Nat → Int
  | 0, i => f i
  | n + 1, i => if i < 16 then f i else A (A (A (Wn f n (i - 16)) (s0 (Wn f n (i - 15)))) (Wn f n (i - 7))) (s1 (Wn f n (i - 2)))
/-- word i of a block whose first sixteen words are f -/
def W (f : Nat → Int) (i : Nat) : Int := Wn f i i
theorem Wn_fuel (f : Nat → Int) : ∀ n m i, i ≤ n → i ≤ m → Wn f n i = Wn f m i
  | 0, 0, i, _, _ => rfl
  | 0, m + 1, i, h, _ => by
    obtain rfl : i = 0 := by omega
    simp [Wn]
  | n + 1, 0, i, _, h => by
    obtain rfl : i = 0 := by omega
    simp [Wn]
  | n + 1, m + 1, i, h1, h2 => by
    by_cases h : i < 16
    · rw [Wn, Wn, if_pos h, if_pos h]
    · rw [Wn, Wn, if_neg h, if_neg h, Wn_fuel f n m (i - 16) (by omega) (by omega), Wn_fuel f n m (i - 15) (by omega) (by omega), Wn_fuel f n m (i - 7) (by omega) (by omega), Wn_fuel f n m (i - 2) (by omega) (by omega)]
theorem W_low (f : Nat → Int) {i : Nat} (h : i < 16) : W f i = f i := by
  unfold W
  cases i with
  | zero => rfl
  | succ k => rw [Wn, if_pos h]
theorem W_next (f : Nat → Int) {i : Nat} (h : 16 ≤ i) : W f i = A (A (A (W f (i - 16)) (s0 (W f (i - 15)))) (W f (i - 7))) (s1 (W f (i - 2))) := by
  obtain ⟨k, rfl⟩ : ∃ k, i = k + 1 := ⟨i - 1, by omega⟩
  unfold W
  rw [Wn_fuel f (k + 1 - 16) k _ (by omega) (by omega), Wn_fuel f (k + 1 - 15) k _ (by omega) (by omega), Wn_fuel f (k + 1 - 7) k _ (by omega) (by omega), Wn_fuel f (k + 1 - 2) k _ (by omega) (by omega), Wn, if_neg (by omega)]

def keys : List Int := [0x428a2f98, 0x71374491, 0xb5c0fbcf, 0xe9b5dba5, 0x3956c25b, 0x59f111f1, 0x923f82a4, 0xab1c5ed5,
  0xd807aa98, 0x12835b01, 0x243185be, 0x550c7dc3, 0x72be5d74, 0x80deb1fe, 0x9bdc06a7, 0xc19bf174,
  0xe49b69c1, 0xefbe4786, 0x0fc19dc6, 0x240ca1cc, 0x2de92c6f, 0x4a7484aa, 0x5cb0a9dc, 0x76f988da,
  0x983e5152, 0xa831c66d, 0xb00327c8, 0xbf597fc7, 0xc6e00bf3, 0xd5a79147, 0x06ca6351, 0x14292967,
  0x27b70a85, 0x2e1b2138, 0x4d2c6dfc, 0x53380d13, 0x650a7354, 0x766a0abb, 0x81c2c92e, 0x92722c85,
  0xa2bfe8a1, 0xa81a664b, 0xc24b8b70, 0xc76c51a3, 0xd192e819, 0xd6990624, 0xf40e3585, 0x106aa070,
  0x19a4c116, 0x1e376c08, 0x2748774c, 0x34b0bcb5, 0x391c0cb3, 0x4ed8aa4a, 0x5b9cca4f, 0x682e6ff3,
  0x748f82ee, 0x78a5636f, 0x84c87814, 0x8cc70208, 0x90befffa, 0xa4506ceb, 0xbef9a3f7, 0xc67178f2]
def key (i : Nat) : Int := keys.getD i 0

/-- the numbers of the rounds are there: the program's variable -/
def GV (w : World) : Prop := ∀ i, i < 64 → w.cell? ⟨0, i, none⟩ = some (.int .u32 (key i))
theorem GV.lt {w : World} (h : GV w) : 0 < w.heap.size := World.block_lt_of_cell? w _ (h 0 (by omega))
theorem GV.below {w w' : World} {B : Nat} (h : GV w) (hb : Below B w w') (hB : 0 < B) : GV w' := fun i hi => by
  rw [hb.cell (p := ⟨0, i, none⟩) hB]; exact h i hi
theorem GV.at {w w' : World} (h : GV w) (hb : Below w.heap.size w w') : GV w' := h.below hb h.lt

/-- a to h -/
structure Regs where
  a : Int
  b : Int
  c : Int
  d : Int
  e : Int
  f : Int
  g : Int
  h : Int
def t1 (r : Regs) (k w : Int) : Int := A (A (A (A r.h (S1 r.e)) (ch r.e r.f r.g)) k) w
def t2 (r : Regs) : Int := A (S0 r.a) (maj r.a r.b r.c)
def round (r : Regs) (k w : Int) : Regs := ⟨A (t1 r k w) (t2 r), r.a, r.b, r.c, A r.d (t1 r k w), r.e, r.f, r.g⟩
def rounds (f : Nat → Int) (r : Regs) : Nat → Regs
  | 0 => r
  | i + 1 => round (rounds f r i) (key i) (W f i)

/-- the state of eight numbers as registers -/
def regs (st : Nat → Int) : Regs := ⟨U (st 0), U (st 1), U (st 2), U (st 3), U (st 4), U (st 5), U (st 6), U (st 7)⟩
def nth (r : Regs) : Nat → Int
  | 0 => r.a | 1 => r.b | 2 => r.c | 3 => r.d | 4 => r.e | 5 => r.f | 6 => r.g | _ => r.h
/-- a block taken into a state -/
def block (st : Nat → Int) (f : Nat → Int) (i : Nat) : Int := A (U (st i)) (nth (rounds f (regs st) 64) i)
end Go.Proofs.YtmoojhnblakdhaaGreat.sha
namespace Go.Proofs.YtmoojhnblakdhaaGreat.sha
open Go.RowKit Go.Joins
open Go.Proofs.YtmoojhnblakdhaaGreat.base Go.Proofs.YtmoojhnblakdhaaGreat.word Go.Proofs.YtmoojhnblakdhaaGreat.ints
set_option linter.unusedVariables false

theorem keys_row : (.cells ((List.range 64).map fun i => Value.int .u32 (key i)).toArray 133 (0, 0) : Obj) = .cells (keys.map fun z => Value.int .u32 z).toArray 133 (0, 0) := by kernel_rfl

set_option maxRecDepth 100000 in
theorem keys_any (w : World) : Calls Tryz.prog 89 #[] w fun e w' => e = .returned (.slice (some ⟨w.heap.size, 0, none⟩) 64 64) ∧ w' = w.alloc (rowF .u32 133 64 key) := by
  go_enter Tryz.func89, Tryz.ntmps89
  go_wp2
  go_ret
  exact ⟨rfl, by unfold rowF; rw [keys_row]; rfl⟩

/-- byte i of a text, as a word -/
def b8 (s : ByteArray) (i : Nat) : Int := Go.PlainAid.bt s i % 4294967296
/-- word i of a text -/
def wordAt (s : ByteArray) (i : Nat) : Int := O (O (O (M (b8 s (4 * i)) 16777216) (M (b8 s (4 * i + 1)) 65536)) (M (b8 s (4 * i + 2)) 256)) (b8 s (4 * i + 3))

end Go.Proofs.YtmoojhnblakdhaaGreat.sha
namespace Go.Proofs.YtmoojhnblakdhaaGreat.sha
open Go.RowKit Go.Joins
open Go.Proofs.YtmoojhnblakdhaaGreat.base Go.Proofs.YtmoojhnblakdhaaGreat.word Go.Proofs.YtmoojhnblakdhaaGreat.ints Go.Proofs.YtmoojhnblakdhaaGreat.blk
open Go.PlainAid (bt get_bt bt_nonneg bt_le)
set_option linter.unusedVariables false
attribute [local go_sem] M_fold O_fold A_fold X_fold N_fold

/-- the first k words are there, the rest is 0 -/
def upto (g : Nat → Int) (k : Nat) : Nat → Int := fun j => if j < k then g j else 0
theorem upto_next (g : Nat → Int) (k : Nat) : upd (upto g k) k (g k) = upto g (k + 1) := by
  funext j
  unfold upd upto
  by_cases h : j = k
  · subst h; simp
  · by_cases h2 : j < k
    · simp [h, h2]; omega
    · simp [h, h2]; omega

theorem info37 : (Tryz.prog.info? 133).map (fun i => (i.zero, i.size, i.bytes)) = some (some (.int .u32 0), 1, 4) := by kernel_rfl
theorem run_make_words (u : World) : (Instr.makeSlice 132 (.int .i64 64) (.int .i64 64)).run Tryz.prog u =
    .ok (.slice (some ⟨u.heap.size, 0, none⟩) 64 64) (u.alloc (rowF .u32 133 64 (fun _ => 0))) := by
  obtain ⟨i0, hi, hz0, hz1, hz2⟩ := info_parts info37
  have h := run_make (P := Tryz.prog) u 132 133 i0 (.int .u32 0) Tryz.underlying132 hi hz0 .i64 .i64 (64 : Int) (64 : Int) (by omega) (Int.le_refl _) (by rw [hz2]; omega) (by omega)
  have e : madeCells #[Value.int .u32 0] 64 = ((List.range 64).map fun _ => Value.int .u32 0).toArray := by
    apply Array.ext
    · simp [madeCells]
    · intro i h1 h2
      simp [madeCells, Nat.mod_one]
  unfold rowF
  rw [← e]
  simpa [hz1, Value.cells] using h

/-- append, folded: so that a fact of its run, laid ahead of a region, is met -/
def appSem (ts : Array TypeId) (ty : TypeId) (vs : Array Value) : Sem Value := Builtin.append_ ts ty vs
theorem app_fold (ts : Array TypeId) (ty : TypeId) (vs : Array Value) : Builtin.append_ ts ty vs = appSem ts ty vs := rfl
attribute [local go_sem ↓] app_fold
theorem like {B : Nat} {w a b : World} (h : Below B w a) (h1 : b.os = a.os) (h2 : b.tape = a.tape) (h3 : b.output = a.output) (h4 : b.heap = a.heap) : Below B w b :=
  ⟨h1.trans h.os, h2.trans h.tape, h3.trans h.output, by rw [h4]; exact h.size, fun k hk => by rw [h4]; exact h.block k hk⟩
theorem ownsRow_form {w : World} {base e n : Nat} {v : Value} {xs : List Value} (h : w.ownsRow base e 1 v n xs) (hn : 0 < n) : ∃ g c, v = .slice (some ⟨g, 0, none⟩) n c := by
  obtain ⟨_, h2⟩ := h
  rcases h2 with ⟨_, h0⟩ | ⟨g, cap, cur, rfl, _⟩
  · omega
  · exact ⟨g, cap, rfl⟩
theorem A_bd (a b : Int) : 0 ≤ A a b ∧ A a b ≤ 4294967295 := by
  unfold A
  simp [IntKind.wrap, IntKind.bits, IntKind.signed]
  omega

theorem wrap_sub {k j c : Nat} (h : k = j + c) (hk : k ≤ 64) : IntKind.i64.wrap ((k : Int) - (c : Int)) = (j : Int) := by
  have e : (k : Int) - (c : Int) = (j : Int) := by omega
  rw [e]
  simp [IntKind.wrap, IntKind.bits, IntKind.signed]
  omega
theorem cell_else {w : World} {b i j : Nat} {x v : Value} (h : w.cell? ⟨b, j, none⟩ = some v) (hne : i ≠ j) : (w.setCell ⟨b, i, none⟩ x).cell? ⟨b, j, none⟩ = some v := by
  exact (World.cell?_setCell_other w _ _ _ (fun e => hne (by injection e))).trans h

/-- a row of eight numbers of its own is the answer -/
def BPost (w : World) (f : Nat → Int) (e : Ending) (w' : World) : Prop :=
  ∃ g c, e = .returned (.slice (some ⟨g, 0, none⟩) 8 c) ∧ w.heap.size ≤ g ∧ (∀ i, i < 8 → w'.cell? ⟨g, i, none⟩ = some (.int .i64 (f i))) ∧ Below w.heap.size w w'
theorem bpost_of {w w' : World} {E : Nat} {v : Value} {f : Nat → Int} (hE : w.heap.size ≤ E) (hb : Below w.heap.size w w') (h : w'.ownsRow E 2 1 v 8 ((List.range 8).map fun i => Value.int .i64 (f i))) : BPost w f (.returned v) w' := by
  obtain ⟨g, c, rfl⟩ := ownsRow_form h (by omega)
  refine ⟨g, c, rfl, ?_, fun i hi => ?_, hb⟩
  · have := (h.lt g rfl).1
    omega
  · have := h.cells rfl i (.int .i64 (f i)) (by simp [hi])
    rw [Addr.add_lit, Nat.zero_add] at this
    exact this
theorem below_app {B base e : Nat} {w wr w1 : World} {v : Value} {n : Nat} {xs : List Value} {o : Obj} (hB : B ≤ wr.heap.size) (hle : B ≤ base) (hbel : Below B w wr) (hown : wr.ownsRow base e 1 v n xs) (hg : (wr.alloc o).grownBy w1 v.ownBlock) : Below B w w1 :=
  (hbel.alloc hB o).grown hg (by simp; omega) (fun k hk => by have := (hown.lt k hk).1; omega)
theorem blk_grown {wr w1 : World} {r : Option Nat} {j : Nat} {x : Obj} (h : wr.heap[j]? = some x) (hne : r ≠ some j) {o : Obj} (hg : (wr.alloc o).grownBy w1 r) : w1.heap[j]? = some x := by
  have hj : j < wr.heap.size := (Array.getElem?_eq_some_iff.1 h).1
  exact (hg.block j (by simp; omega) (fun e => hne e.symm)).trans ((Below.heap_alloc wr o j hj).trans h)
theorem range_snoc (f : Nat → Int) (k : Nat) : ((List.range (k + 1)).map fun i => Value.int .i64 (f i)) = ((List.range k).map fun i => Value.int .i64 (f i)) ++ [Value.int .i64 (f k)] := by
  rw [List.range_succ, List.map_append]; rfl

set_option maxRecDepth 100000 in
set_option maxHeartbeats 1000000 in
theorem block_any (b0 off cap : Nat) (z : Nat → Int) (s : ByteArray) (w : World) (hs : s.size = 64) (hr : ∀ i, i < 8 → w.cell? ⟨b0, off + i, none⟩ = some (.int .i64 (z i))) :
    Calls Tryz.prog 71 #[.slice (some ⟨b0, off, none⟩) 8 cap, .string s] w fun e w' => BPost w (block z (wordAt s)) e w' := by
  have hmk := run_make_words
  have hb := get_bt s
  go_enter Tryz.func71, Tryz.ntmps71
  go_wp2
  clear hmk
  go_loopw [6] (fun i wr => ∃ k : Nat, k ≤ 16 ∧ i = .int .i64 k ∧ Hid (wr.heap[w.heap.size]? = some (rowF .u32 133 64 (upto (W (wordAt s)) k))) ∧ Below w.heap.size w wr)
    (fun i _ => 16 - (intOf i).toNat)
  case atStart => exact ⟨0, Nat.zero_le _, rfl, mkHid (heap_alloc_new w _), (Below.refl _ _).alloc (Nat.le_refl _) _⟩
  case round =>
    obtain ⟨k, hk, rfl, hrow, hbel⟩ := hrel
    by_cases hlt : k < 16
    · have hcell : wr.cell? ⟨w.heap.size, k, none⟩ = some (.int .u32 0) := by rw [rowF_cell hrow.out (by omega)]; simp [upto]
      have hf : wr.frozen? ⟨w.heap.size, k, none⟩ = false := rowF_free hrow.out k
      have N1 := rowF_set hrow.out k (W (wordAt s) k)
      rw [upto_next, W_low _ hlt] at N1
      unfold wordAt b8 at N1
      have N2 := mkHid N1
      clear N1 hrow
      go_wp2
      go_region
      go_wp2
      go_roundw
      case rel => exact ⟨k + 1, by omega, by go_num, mkHid N2.out, (hbel.setCell (p := ⟨w.heap.size, k, none⟩) (Nat.le_refl _) _).drew⟩
      case measure => simp [intOf]; omega
    · have hrow := mkHid (show wr.heap[w.heap.size]? = some (rowF .u32 133 64 (upto (W (wordAt s)) 16)) by have h := hrow.out; rwa [show k = 16 by omega] at h)
      go_wp2
      go_loopw [7] (fun i wr => ∃ k : Nat, 16 ≤ k ∧ k ≤ 64 ∧ i = .int .i64 k ∧ Hid (wr.heap[w.heap.size]? = some (rowF .u32 133 64 (upto (W (wordAt s)) k))) ∧ Below w.heap.size w wr)
        (fun i _ => 64 - (intOf i).toNat)
      case atStart => exact ⟨16, by omega, by omega, rfl, hrow, hbel⟩
      case round =>
        clear hrow hbel
        obtain ⟨k, hk0, hk, rfl, hrow, hbel⟩ := hrel
        by_cases hlt : k < 64
        · have hcell : wr.cell? ⟨w.heap.size, k, none⟩ = some (.int .u32 0) := by rw [rowF_cell hrow.out (by omega)]; simp [upto]
          have hf : wr.frozen? ⟨w.heap.size, k, none⟩ = false := rowF_free hrow.out k
          obtain ⟨j16, e16⟩ : ∃ j, k = j + 16 := ⟨k - 16, by omega⟩
          obtain ⟨j15, e15⟩ : ∃ j, k = j + 15 := ⟨k - 15, by omega⟩
          obtain ⟨j7, e7⟩ : ∃ j, k = j + 7 := ⟨k - 7, by omega⟩
          obtain ⟨j2, e2⟩ : ∃ j, k = j + 2 := ⟨k - 2, by omega⟩
          have N1 := rowF_set hrow.out k (W (wordAt s) k)
          rw [upto_next, W_next _ hk0, show k - 16 = j16 by omega, show k - 15 = j15 by omega, show k - 7 = j7 by omega, show k - 2 = j2 by omega] at N1
          have r16 : wr.cell? ⟨w.heap.size, j16, none⟩ = some (.int .u32 (W (wordAt s) j16)) := by rw [rowF_cell hrow.out (by omega)]; simp [upto]; omega
          have r15 : wr.cell? ⟨w.heap.size, j15, none⟩ = some (.int .u32 (W (wordAt s) j15)) := by rw [rowF_cell hrow.out (by omega)]; simp [upto]; omega
          have r7 : wr.cell? ⟨w.heap.size, j7, none⟩ = some (.int .u32 (W (wordAt s) j7)) := by rw [rowF_cell hrow.out (by omega)]; simp [upto]; omega
          have r2 : wr.cell? ⟨w.heap.size, j2, none⟩ = some (.int .u32 (W (wordAt s) j2)) := by rw [rowF_cell hrow.out (by omega)]; simp [upto]; omega
          have w16 : IntKind.i64.wrap ((k : Int) - 16) = (j16 : Int) := wrap_sub e16 hk
          have w15 : IntKind.i64.wrap ((k : Int) - 15) = (j15 : Int) := wrap_sub e15 hk
          have w7 : IntKind.i64.wrap ((k : Int) - 7) = (j7 : Int) := wrap_sub e7 hk
          have w2 : IntKind.i64.wrap ((k : Int) - 2) = (j2 : Int) := wrap_sub e2 hk
          have b16 : (j16 : Int) < 64 := by omega
          have b15 : (j15 : Int) < 64 := by omega
          have b7 : (j7 : Int) < 64 := by omega
          have b2 : (j2 : Int) < 64 := by omega
          have bk : (k : Int) < 64 := by omega
          have T := mkHid (fun x k (wx : World) (h0 : 0 ≤ k) (h1 : k ≤ 32) => turn_any x k wx h0 h1)
          unfold s0 s1 at N1
          have n16 : k ≠ j16 := by omega
          have n7 : k ≠ j7 := by omega
          clear hrow e16 e15 e7 e2
          generalize W (wordAt s) j16 = x16 at *
          generalize W (wordAt s) j15 = x15 at *
          generalize W (wordAt s) j7 = x7 at *
          generalize W (wordAt s) j2 = x2 at *
          have N2 := mkHid N1
          clear N1
          go_wp2_with fail
          go_region_held3 (fun w' => w'.cell? ⟨w.heap.size, j16, none⟩ = some (.int .u32 x16) ∧ w'.cell? ⟨w.heap.size, j7, none⟩ = some (.int .u32 x7)) (first | (go_keep; done) | exact ⟨cell_else r16 n16, cell_else r7 n7⟩ | (trace_state; fail))
            ((first | (go_at_call 88; refine (T.out _ _ _ (by omega) (by omega)).mono ?_; rintro e w1 ⟨rfl, rfl⟩)))
          go_wp2
          go_roundw
          case rel => exact ⟨k + 1, by omega, by omega, by go_num, mkHid N2.out, (hbel.setCell (p := ⟨w.heap.size, k, none⟩) (Nat.le_refl _) _).drew⟩
          case measure => simp [intOf]; omega
        · have hrow := mkHid (show wr.heap[w.heap.size]? = some (rowF .u32 133 64 (upto (W (wordAt s)) 64)) by have h := hrow.out; rwa [show k = 64 by omega] at h)
          have hcs : ∀ i, i < 8 → wr.cell? ⟨b0, off + i, none⟩ = some (.int .i64 (z i)) := fun i hi => by
            rw [hbel.cell (p := ⟨b0, off + i, none⟩) (World.block_lt_of_cell? w _ (hr i hi)), hr i hi]
          have c0 : wr.cell? ⟨b0, off, none⟩ = some (.int .i64 (z 0)) := hcs 0 (by omega)
          have c1 := hcs 1 (by omega)
          have c2 := hcs 2 (by omega)
          have c3 := hcs 3 (by omega)
          have c4 := hcs 4 (by omega)
          have c5 := hcs 5 (by omega)
          have c6 := hcs 6 (by omega)
          have c7 := hcs 7 (by omega)
          clear hcs
          go_wp2_with fail
          go_quiet (fail)
          go_wp2_with fail
          go_quiet (fail)
          go_wp2_with fail
          refine (keys_any _).mono ?_
          rintro e w1 ⟨rfl, rfl⟩
          have K0 := blk_old hrow.out (rowF .u32 133 64 key)
          have K1 := blk_new wr (rowF .u32 133 64 key) wr.heap.size rfl
          have KK := mkHid (And.intro K0 (And.intro K1 (hbel.alloc hbel.size (rowF .u32 133 64 key))))
          generalize hD : wr.heap.size = D at *
          clear K0 K1 hrow hbel c0 c1 c2 c3 c4 c5 c6 c7
          go_wp2
          go_loopw [10, 11, 12, 13, 14, 15, 16, 17, 19] (fun va vb vc vd ve vf vg vh i wr => ∃ (k : Nat) (r : Regs), k ≤ 64 ∧ i = .int .i64 k ∧ r = rounds (wordAt s) (regs z) k ∧ va = .int .u32 r.a ∧ vb = .int .u32 r.b ∧ vc = .int .u32 r.c ∧ vd = .int .u32 r.d ∧ ve = .int .u32 r.e ∧ vf = .int .u32 r.f ∧ vg = .int .u32 r.g ∧ vh = .int .u32 r.h ∧ Hid (wr.heap[w.heap.size]? = some (rowF .u32 133 64 (upto (W (wordAt s)) 64)) ∧ wr.heap[D]? = some (rowF .u32 133 64 key) ∧ Below w.heap.size w wr))
            (fun va vb vc vd ve vf vg vh i _ => 64 - (intOf i).toNat)
          case atStart => exact ⟨0, _, Nat.zero_le _, rfl, rfl, rfl, rfl, rfl, rfl, rfl, rfl, rfl, rfl, mkHid ⟨KK.out.1, KK.out.2.1, like KK.out.2.2 rfl rfl rfl rfl⟩⟩
          case round =>
            obtain ⟨k, r, hk, rfl, hrr, rfl, rfl, rfl, rfl, rfl, rfl, rfl, rfl, hM⟩ := hrel
            by_cases hlt : k < 64
            · have ck : wr.cell? ⟨D, k, none⟩ = some (.int .u32 (key k)) := rowF_cell hM.out.2.1 hlt
              have cw : wr.cell? ⟨w.heap.size, k, none⟩ = some (.int .u32 (W (wordAt s) k)) := by rw [rowF_cell hM.out.1 hlt]; simp [upto, hlt]
              have bk : (k : Int) < 64 := by omega
              have T := mkHid (fun x k (wx : World) (h0 : 0 ≤ k) (h1 : k ≤ 32) => turn_any x k wx h0 h1)
              have HN := mkHid (show round r (key k) (W (wordAt s) k) = rounds (wordAt s) (regs z) (k + 1) by rw [hrr]; rfl)
              clear hrr
              generalize W (wordAt s) k = wk at *
              generalize key k = kk at *
              obtain ⟨ra, rb, rc, rd, re, rf, rg, rh⟩ := r
              dsimp only at *
              go_wp2_with fail
              go_quiet ((go_at_call 88; refine Calls.quiet_of_same (T.out _ _ _ (by omega) (by omega))))
              go_wp2_with ((go_at_call 88; refine (T.out _ _ _ (by omega) (by omega)).mono ?_; rintro e w1 ⟨rfl, rfl⟩))
              go_roundw
              case rel => exact ⟨k + 1, _, by omega, by go_num, HN.out, rfl, rfl, rfl, rfl, rfl, rfl, rfl, rfl, mkHid ⟨hM.out.1, hM.out.2.1, like hM.out.2.2 rfl rfl rfl rfl⟩⟩
              case measure => simp [intOf]; omega
            · have hM2 := mkHid hM.out.2.2
              have HN := mkHid (show r = rounds (wordAt s) (regs z) 64 by rw [hrr, show k = 64 by omega])
              clear hM hrr
              obtain ⟨ra, rb, rc, rd, re, rf, rg, rh⟩ := r
              dsimp only at *
              obtain ⟨E, hE⟩ : ∃ E, E = wr.heap.size := ⟨_, rfl⟩
              have hwE : w.heap.size ≤ E := by rw [hE]; exact hM2.out.size
              have K0 := mkHid (blk_old (blk_new wr (.cells #[.int .u32 ra, .int .u32 rb, .int .u32 rc, .int .u32 rd, .int .u32 re, .int .u32 rf, .int .u32 rg, .int .u32 rh] 133) E hE) (.cells #[] 2))
              have K1 := mkHid (World.ownsRow_made (base := E + 1) (e := 2) (size := 1) (wr.alloc (.cells #[.int .u32 ra, .int .u32 rb, .int .u32 rc, .int .u32 rd, .int .u32 re, .int .u32 rf, .int .u32 rg, .int .u32 rh] 133)) #[] 0 (by simp; omega) (by decide) rfl)
              have K1 := mkHid (by have k1 := K1.out; simp at k1; rw [← hE] at k1; exact k1)
              have K2 := mkHid ((hM2.out.alloc hM2.out.size (.cells #[.int .u32 ra, .int .u32 rb, .int .u32 rc, .int .u32 rd, .int .u32 re, .int .u32 rf, .int .u32 rg, .int .u32 rh] 133)).alloc (by simp; omega) (.cells #[] 2))
              clear hM2
              go_wp2
              rw [← hE]
              have K3 := mkHid (And.intro K0.out (And.intro K1.out K2.out))
              clear K0 K1 K2
              generalize ((wr.alloc _).alloc _) = WW at *
              clear hE
              go_loopw [23, 24] (fun v i wr => ∃ (k : Nat) (va : Option Addr) (vc : Nat), k ≤ 8 ∧ i = .int .i64 k ∧ v = .slice va k vc ∧ Hid (wr.ownsRow (E + 1) 2 1 (.slice va k vc) k ((List.range k).map fun i => Value.int .i64 (block z (wordAt s) i))) ∧ Hid (wr.heap[E]? = some (rowF .u32 133 8 (nth ⟨ra, rb, rc, rd, re, rf, rg, rh⟩)) ∧ Below w.heap.size w wr))
                (fun _ i _ => 8 - (intOf i).toNat)
              case atStart => exact ⟨0, _, _, Nat.zero_le _, rfl, rfl, mkHid K3.out.2.1, mkHid ⟨K3.out.1, K3.out.2.2⟩⟩
              case round =>
                obtain ⟨k, va, vc, hk, rfl, rfl, hown, hK⟩ := hrel
                by_cases hlt : k < 8
                · have c0 : wr.cell? ⟨b0, off + k, none⟩ = some (.int .i64 (z k)) := (hK.out.2.cell (p := ⟨b0, off + k, none⟩) (World.block_lt_of_cell? w _ (hr k hlt))).trans (hr k hlt)
                  have c1 : wr.cell? ⟨E, k, none⟩ = some (.int .u32 (nth ⟨ra, rb, rc, rd, re, rf, rg, rh⟩ k)) := rowF_cell hK.out.1 hlt
                  have hv := mkHid (show block z (wordAt s) k = A (z k % 4294967296) (nth ⟨ra, rb, rc, rd, re, rf, rg, rh⟩ k) by unfold block; rw [HN.out]; rfl)
                  generalize nth ⟨ra, rb, rc, rd, re, rf, rg, rh⟩ k = nk at c1 hv
                  generalize z k = zk at c0 hv
                  obtain ⟨y, hy⟩ : ∃ y, A (zk % 4294967296) nk = y := ⟨_, rfl⟩
                  have y0 : 0 ≤ y ∧ y ≤ 4294967295 := by rw [← hy]; exact A_bd _ _
                  obtain ⟨y0, y1⟩ := y0
                  obtain ⟨i0, hi, hz0, hz1, hz2⟩ := info_parts info2
                  obtain ⟨v', w2, happ0, hown2, hgrow, _⟩ := run_append_own (P := Tryz.prog) (wr.alloc (.cells #[.int .i64 y] 2)).drew (E + 1) 84 84 2 i0 (.int .i64 0) 1 8 Tryz.underlying84 hi hz0 hz1 hz2 rfl (by decide) (.slice va k vc) k _ (hown.out.alloc _) ⟨wr.heap.size, 0, none⟩ 1 1 [.int .i64 y] rfl (by intro j u hj; match j, hj with | 0, hj => simp at hj; subst hj; simp [Addr.add]) (by intro u hu; simp at hu; subst hu; rfl) (by unfold maxLen; omega) (by omega) (by show _ ≤ (wr.alloc _).heap.size; have := (Array.getElem?_eq_some_iff.1 hK.out.1).1; simp; omega)
                  obtain ⟨g', c', rfl⟩ := ownsRow_form hown2 (by omega)
                  have happ : (appSem #[84, 84] 84 #[.slice va k vc, .slice (some ⟨wr.heap.size, 0, none⟩) 1 1]).run Tryz.prog (wr.alloc (.cells #[.int .i64 y] 2)).drew = .ok (.slice (some ⟨g', 0, none⟩) (k + 1) c') w2 := happ0
                  have hg2 : (wr.alloc (.cells #[.int .i64 y] 2)).grownBy w2 (Value.slice va k vc).ownBlock := ⟨hgrow.os, hgrow.tape, hgrow.output, hgrow.size, hgrow.block⟩
                  have B2 := mkHid (below_app (by have := (Array.getElem?_eq_some_iff.1 hK.out.1).1; omega) (by omega) hK.out.2 hown.out hg2)
                  have K2 := mkHid (blk_grown hK.out.1 (fun e => by have := (hown.out.lt E e).1; omega) hg2)
                  have O2 : Hid (w2.ownsRow (E + 1) 2 1 (.slice (some ⟨g', 0, none⟩) (k + 1) c') (k + 1) ((List.range (k + 1)).map fun i => Value.int .i64 (block z (wordAt s) i))) := mkHid (by rw [range_snoc, hv.out, hy]; exact hown2)
                  have bk : (k : Int) < 8 := by omega
                  clear hown hK hown2 hgrow hg2 happ0
                  go_wp2
                  go_region
                  go_wp2
                  go_roundw
                  case rel => exact ⟨k + 1, _, _, by omega, by go_num, rfl, O2, mkHid ⟨K2.out, B2.out⟩⟩
                  case measure => simp [intOf]; omega
                · obtain rfl : k = 8 := by omega
                  go_wp2
                  go_ret
                  exact bpost_of (by omega) hK.out.2 hown.out
end Go.Proofs.YtmoojhnblakdhaaGreat.sha
