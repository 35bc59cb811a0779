/-
  Rows of texts in memory: what laws.markText, eqStringS, markStringS and heldStringS answer and leave. Conditions: at most 1,048,576 texts, which lie in memory; a row that is written lies in a block of its own, maybe with room behind it.
-/
import Derived.Test.YtmoojhnblakdhaaGreatBlk
import Derived.Deep.RegionHeld3
import Derived.Deep.QuietTactic
import Derived.BigQuiet
namespace Go.Proofs.YtmoojhnblakdhaaGreat.strs
open Go.RowKit Go.Joins
open Go.Proofs.YtmoojhnblakdhaaGreat.base Go.Proofs.YtmoojhnblakdhaaGreat.blk
set_option linter.unusedVariables false

theorem ret_eq {a b : Value} (h : a = b) : Ending.returned a = Ending.returned b := by rw [h]
/-- digits of ten ahead of what is there -/
def dg : Nat → Nat → List UInt8 → List UInt8
  | 0, _, acc => acc
  | f + 1, n, acc => if n = 0 then acc else dg f (n / 10) (UInt8.ofNat (48 + n % 10) :: acc)
theorem dg_fuel : ∀ f n acc, n ≤ f → dg f n acc = dg n n acc := by
  intro f
  induction f using Nat.strongRecOn with
  | _ f ih =>
    intro n acc h
    cases f with
    | zero => obtain rfl : n = 0 := by omega
              rfl
    | succ f =>
      cases n with
      | zero => rfl
      | succ n =>
        rw [dg, dg, if_neg (by omega), if_neg (by omega)]
        rw [ih f (by omega) _ _ (by omega)]
        by_cases hn : n < f
        · rw [ih n (by omega) _ _ (by omega)]
        · obtain rfl : n = f := by omega
          rw [ih n (by omega) _ _ (by omega)]
def digs (n : Nat) (acc : List UInt8) : List UInt8 := dg n n acc
theorem digs_zero (acc : List UInt8) : digs 0 acc = acc := rfl
theorem digs_next (n : Nat) (acc : List UInt8) (h : 0 < n) : digs n acc = digs (n / 10) (UInt8.ofNat (48 + n % 10) :: acc) := by
  cases n with
  | zero => omega
  | succ n =>
    unfold digs
    rw [dg, if_neg (by omega), dg_fuel n _ _ (by omega)]
/-- the mark of a number -/
def mk (k : Nat) : ByteArray := if k = 0 then ⟨#[109, 48]⟩ else ⟨(109 :: digs k []).toArray⟩

theorem one_str (b : UInt8) (l : List UInt8) : (⟨#[b]⟩ : ByteArray) ++ ⟨l.toArray⟩ = ⟨(b :: l).toArray⟩ := by
  apply ByteArray.ext
  simp

/-- a text as a cell -/
def strV (t : ByteArray) : Value := .string t
/-- the texts of a slice lie in memory -/
def RdT (w : World) (a : Option Addr) (ts : List ByteArray) : Prop :=
  ∀ i t, ts[i]? = some t → ∃ b off, a = some ⟨b, off, none⟩ ∧ w.cell? ⟨b, off + i, none⟩ = some (.string t)
theorem RdT.block {w w' : World} {a : Option Addr} {ts : List ByteArray} (h : RdT w a ts) (hb : ∀ b off, a = some ⟨b, off, none⟩ → b < w.heap.size → w'.heap[b]? = w.heap[b]?) : RdT w' a ts := by
  intro i z hz
  obtain ⟨b, off, e1, e2⟩ := h i z hz
  refine ⟨b, off, e1, ?_⟩
  rw [World.cell?_of_block (w := w) (a := ⟨b, off + i, none⟩) (hb b off e1 (World.block_lt_of_cell? w _ e2))]
  exact e2
theorem RdT.below {w w' : World} {a : Option Addr} {ts : List ByteArray} (h : RdT w a ts) (hb : Below w.heap.size w w') : RdT w' a ts := h.block fun b _ _ hl => hb.block b hl
theorem RdT.alloc {w : World} {a : Option Addr} {ts : List ByteArray} (h : RdT w a ts) (o : Obj) : RdT (w.alloc o) a ts := h.below ((Below.refl _ _).alloc (Nat.le_refl _) o)
theorem RdT.nil (w : World) (a : Option Addr) : RdT w a [] := by intro i z h; simp at h

/-- a row in a block of its own, with room behind it -/
def OwnT (w : World) (g : Nat) (ts : List ByteArray) : Prop := ∃ ex : List Value, w.heap[g]? = some (.cells (ts.map strV ++ ex).toArray 9 (0, 0))
theorem OwnT.lt {w : World} {g : Nat} {ts : List ByteArray} (h : OwnT w g ts) : g < w.heap.size := by
  obtain ⟨ex, h⟩ := h
  exact (Array.getElem?_eq_some_iff.1 h).1
theorem OwnT.block {w w' : World} {g : Nat} {ts : List ByteArray} (h : OwnT w g ts) (hb : w'.heap[g]? = w.heap[g]?) : OwnT w' g ts := by
  obtain ⟨ex, h⟩ := h
  exact ⟨ex, hb.trans h⟩
theorem OwnT.below {w w' : World} {g : Nat} {ts : List ByteArray} (h : OwnT w g ts) (hb : Below w.heap.size w w') : OwnT w' g ts := h.block (hb.block g h.lt)
theorem OwnT.cell {w : World} {g : Nat} {ts : List ByteArray} (h : OwnT w g ts) {i : Nat} {z : ByteArray} (hz : ts[i]? = some z) : w.cell? ⟨g, i, none⟩ = some (.string z) := by
  obtain ⟨ex, h⟩ := h
  have hi : i < ts.length := (List.getElem?_eq_some_iff.1 hz).1
  rw [cell_of_block h]
  simp [List.getElem?_append, hi, strV]
  exact (List.getElem?_eq_some_iff.1 hz).2
theorem OwnT.free {w : World} {g : Nat} {ts : List ByteArray} (h : OwnT w g ts) (i : Nat) : w.frozen? ⟨g, i, none⟩ = false := by
  obtain ⟨ex, h⟩ := h
  exact unfrozen_of_block h i
theorem OwnT.rd {w : World} {g : Nat} {ts : List ByteArray} (h : OwnT w g ts) : RdT w (some ⟨g, 0, none⟩) ts := by
  intro i z hz
  exact ⟨g, 0, rfl, by simpa using h.cell hz⟩
theorem OwnT.set {w : World} {g : Nat} {ts : List ByteArray} (h : OwnT w g ts) (i : Nat) (hi : i < ts.length) (z : ByteArray) : OwnT (w.setCell ⟨g, i, none⟩ (.string z)) g (ts.set i z) := by
  obtain ⟨ex, h⟩ := h
  refine ⟨ex, ?_⟩
  rw [block_setCell (i := i) h (.string z)]
  congr 2
  simp [strV, List.map_set, hi]
theorem OwnT.owns {w : World} {base g n c : Nat} {ts : List ByteArray} (h : w.ownsRow base 9 1 (.slice (some ⟨g, 0, none⟩) n c) n (ts.map strV)) : OwnT w g ts := by
  obtain ⟨_, h2⟩ := h
  rcases h2 with ⟨e, _⟩ | ⟨g', cap, cur, e, hB, hg, _, _, _, ht⟩
  · cases e
  · simp at e
    obtain ⟨rfl, rfl⟩ := e
    refine ⟨cur.toList.drop (n * 1), ?_⟩
    rw [← ht, List.take_append_drop]
    exact hg

theorem bytes_ne {r s : ByteArray} (h : ¬ r = s) : (r.toList == s.toList) = false := by
  rw [ByteArray.toList_eq, ByteArray.toList_eq]
  simp
  intro e
  apply h
  apply ByteArray.ext
  exact e

/-- marks from k on, n of them -/
def from_ (k : Nat) (n : Nat) : List ByteArray := (List.range n).map fun (i : Nat) => mk (k + i)
theorem from_len (k : Nat) (n : Nat) : (from_ k n).length = n := by simp [from_]
theorem from_at (k : Nat) (n i : Nat) (h : i < n) : (from_ k n)[i]? = some (mk (k + i)) := by simp [from_, h]
def marked (k : Nat) (ts : List ByteArray) (i : Nat) : List ByteArray := (from_ k ts.length).take i ++ ts.drop i
theorem marked_zero (k : Nat) (ts : List ByteArray) : marked k ts 0 = ts := by simp [marked]
theorem marked_all (k : Nat) (ts : List ByteArray) : marked k ts ts.length = from_ k ts.length := by
  unfold marked
  rw [List.take_of_length_le (by rw [from_len]; exact Nat.le_refl _)]
  simp
theorem marked_len (k : Nat) (ts : List ByteArray) (i : Nat) (h : i ≤ ts.length) : (marked k ts i).length = ts.length := by simp [marked, from_len]; omega
theorem marked_next (k : Nat) (ts : List ByteArray) (i : Nat) (h : i < ts.length) : (marked k ts i).set i (mk (k + i)) = marked k ts (i + 1) := by
  unfold marked
  have e2 : ((from_ k ts.length).take i).length = i := by simp [from_len]; omega
  rw [List.set_append_right _ _ (by rw [e2]; exact Nat.le_refl _), e2, Nat.sub_self, List.drop_eq_getElem_cons h, List.set_cons_zero, List.take_add_one, from_at k _ i h]
  simp

theorem grew_below {w w' w2 : World} {g : Nat} (h : w.grownBy w' (some g)) (hb : Below w'.heap.size w' w2) : w.grownBy w2 (some g) :=
  ⟨hb.os.trans h.os, hb.tape.trans h.tape, hb.output.trans h.output, Nat.le_trans h.size hb.size, fun k hk hne => (hb.block k (Nat.lt_of_lt_of_le hk h.size)).trans (h.block k hk hne)⟩
theorem grew_set {w w' : World} {g i : Nat} {v : Value} (h : w.grownBy w' (some g)) : w.grownBy (w'.setCell ⟨g, i, none⟩ v) (some g) :=
  ⟨h.os, h.tape, h.output, by simpa using h.size, fun k hk hne => (Below.heap_setCell w' ⟨g, i, none⟩ v k (fun e => hne (by simp at e; rw [e]))).trans (h.block k hk hne)⟩
theorem grew_refl (w : World) (r : Option Nat) : w.grownBy w r := ⟨rfl, rfl, rfl, Nat.le_refl _, fun _ _ _ => rfl⟩

end Go.Proofs.YtmoojhnblakdhaaGreat.strs
