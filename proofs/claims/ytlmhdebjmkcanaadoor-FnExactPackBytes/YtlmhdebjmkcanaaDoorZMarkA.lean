/-
  Rows of texts in memory: what laws.markText, eqStringS, markStringS and heldStringS answer and leave. Conditions: at most 1,048,576 texts, which lie in memory; a row that is written lies in a block of its own, maybe with room behind it.
  What laws.markBlobS and laws.heldBlobS answer and leave. Conditions: at most 1,048,576 blobs, which lie in memory; a row that is written lies in a block of its own.
  What laws.markEntryS and laws.heldEntryS answer and leave. Conditions: at most 100,000 entries, which lie in memory; a row that is written lies in a block of its own.
-/
import Derived.Test.YtlmhdebjmkcanaaDoorZGround
import Derived.Test.YtlmhdebjmkcanaaDoorZCellA
import Derived.Deep.RegionHeld3
import Derived.Deep.QuietTactic
import Derived.BigQuiet
namespace Go.Proofs.YtlmhdebjmkcanaaDoor.strs
open Go.RowKit Go.Joins
open Go.Proofs.YtlmhdebjmkcanaaDoor.base Go.Proofs.YtlmhdebjmkcanaaDoor.blk
set_option linter.unusedVariables false

theorem ret_eq {a b : Value} (h : a = b) : Ending.returned a = Ending.returned b := by rw [h]
/-- digits of ten ahead of what is there -/
def dg : Nat → Nat → List UInt8 → List UInt8
  | 0, _, acc => acc
  | f + 1, n, acc => if n = 0 then acc else dg f (n / 10) (UInt8.ofNat (48 + n % 10) :: acc)
theorem dg_fuel : ∀ f n acc, n ≤ f → dg f n acc = dg n n acc := by
  intro f
  induction f using Nat.strongRecOn with
  | _ f ih =>
    intro n acc h
    cases f with
    | zero => obtain rfl : n = 0 := by omega
              rfl
    | succ f =>
      cases n with
      | zero => rfl
      | succ n =>
        rw [dg, dg, if_neg (by omega), if_neg (by omega)]
        rw [ih f (by omega) _ _ (by omega)]
        by_cases hn : n < f
        · rw [ih n (by omega) _ _ (by omega)]
        · obtain rfl : n = f := by omega
          rw [ih n (by omega) _ _ (by omega)]
def digs (n : Nat) (acc : List UInt8) : List UInt8 := dg n n acc
theorem digs_zero (acc : List UInt8) : digs 0 acc = acc := rfl
theorem digs_next (n : Nat) (acc : List UInt8) (h : 0 < n) : digs n acc = digs (n / 10) (UInt8.ofNat (48 + n % 10) :: acc) := by
  cases n with
  | zero => omega
  | succ n =>
    unfold digs
    rw [dg, if_neg (by omega), dg_fuel n _ _ (by omega)]
/-- the mark of a number -/
def mk (k : Nat) : ByteArray := if k = 0 then ⟨#[109, 48]⟩ else ⟨(109 :: digs k []).toArray⟩

theorem one_str (b : UInt8) (l : List UInt8) : (⟨#[b]⟩ : ByteArray) ++ ⟨l.toArray⟩ = ⟨(b :: l).toArray⟩ := by
  apply ByteArray.ext
  simp

/-- a text as a cell -/
def strV (t : ByteArray) : Value := .string t
/-- the texts of a slice lie in memory -/
def RdT (w : World) (a : Option Addr) (ts : List ByteArray) : Prop :=
  ∀ i t, ts[i]? = some t → ∃ b off, a = some ⟨b, off, none⟩ ∧ w.cell? ⟨b, off + i, none⟩ = some (.string t)
theorem RdT.block {w w' : World} {a : Option Addr} {ts : List ByteArray} (h : RdT w a ts) (hb : ∀ b off, a = some ⟨b, off, none⟩ → b < w.heap.size → w'.heap[b]? = w.heap[b]?) : RdT w' a ts := by
  intro i z hz
  obtain ⟨b, off, e1, e2⟩ := h i z hz
  refine ⟨b, off, e1, ?_⟩
  rw [World.cell?_of_block (w := w) (a := ⟨b, off + i, none⟩) (hb b off e1 (World.block_lt_of_cell? w _ e2))]
  exact e2
theorem RdT.below {w w' : World} {a : Option Addr} {ts : List ByteArray} (h : RdT w a ts) (hb : Below w.heap.size w w') : RdT w' a ts := h.block fun b _ _ hl => hb.block b hl
theorem RdT.alloc {w : World} {a : Option Addr} {ts : List ByteArray} (h : RdT w a ts) (o : Obj) : RdT (w.alloc o) a ts := h.below ((Below.refl _ _).alloc (Nat.le_refl _) o)
theorem RdT.nil (w : World) (a : Option Addr) : RdT w a [] := by intro i z h; simp at h

/-- a row in a block of its own, with room behind it -/
def OwnT (w : World) (g : Nat) (ts : List ByteArray) : Prop := ∃ ex : List Value, w.heap[g]? = some (.cells (ts.map strV ++ ex).toArray 9 (0, 0))
theorem OwnT.lt {w : World} {g : Nat} {ts : List ByteArray} (h : OwnT w g ts) : g < w.heap.size := by
  obtain ⟨ex, h⟩ := h
  exact (Array.getElem?_eq_some_iff.1 h).1
theorem OwnT.block {w w' : World} {g : Nat} {ts : List ByteArray} (h : OwnT w g ts) (hb : w'.heap[g]? = w.heap[g]?) : OwnT w' g ts := by
  obtain ⟨ex, h⟩ := h
  exact ⟨ex, hb.trans h⟩
theorem OwnT.below {w w' : World} {g : Nat} {ts : List ByteArray} (h : OwnT w g ts) (hb : Below w.heap.size w w') : OwnT w' g ts := h.block (hb.block g h.lt)
theorem OwnT.cell {w : World} {g : Nat} {ts : List ByteArray} (h : OwnT w g ts) {i : Nat} {z : ByteArray} (hz : ts[i]? = some z) : w.cell? ⟨g, i, none⟩ = some (.string z) := by
  obtain ⟨ex, h⟩ := h
  have hi : i < ts.length := (List.getElem?_eq_some_iff.1 hz).1
  rw [cell_of_block h]
  simp [List.getElem?_append, hi, strV]
  exact (List.getElem?_eq_some_iff.1 hz).2
theorem OwnT.free {w : World} {g : Nat} {ts : List ByteArray} (h : OwnT w g ts) (i : Nat) : w.frozen? ⟨g, i, none⟩ = false := by
  obtain ⟨ex, h⟩ := h
  exact unfrozen_of_block h i
theorem OwnT.rd {w : World} {g : Nat} {ts : List ByteArray} (h : OwnT w g ts) : RdT w (some ⟨g, 0, none⟩) ts := by
  intro i z hz
  exact ⟨g, 0, rfl, by simpa using h.cell hz⟩
theorem OwnT.set {w : World} {g : Nat} {ts : List ByteArray} (h : OwnT w g ts) (i : Nat) (hi : i < ts.length) (z : ByteArray) : OwnT (w.setCell ⟨g, i, none⟩ (.string z)) g (ts.set i z) := by
  obtain ⟨ex, h⟩ := h
  refine ⟨ex, ?_⟩
  rw [block_setCell (i := i) h (.string z)]
  congr 2
  simp [strV, List.map_set, hi]
theorem OwnT.owns {w : World} {base g n c : Nat} {ts : List ByteArray} (h : w.ownsRow base 9 1 (.slice (some ⟨g, 0, none⟩) n c) n (ts.map strV)) : OwnT w g ts := by
  obtain ⟨_, h2⟩ := h
  rcases h2 with ⟨e, _⟩ | ⟨g', cap, cur, e, hB, hg, _, _, _, ht⟩
  · cases e
  · simp at e
    obtain ⟨rfl, rfl⟩ := e
    refine ⟨cur.toList.drop (n * 1), ?_⟩
    rw [← ht, List.take_append_drop]
    exact hg

theorem bytes_ne {r s : ByteArray} (h : ¬ r = s) : (r.toList == s.toList) = false := by
  rw [ByteArray.toList_eq, ByteArray.toList_eq]
  simp
  intro e
  apply h
  apply ByteArray.ext
  exact e

/-- marks from k on, n of them -/
def from_ (k : Nat) (n : Nat) : List ByteArray := (List.range n).map fun (i : Nat) => mk (k + i)
theorem from_len (k : Nat) (n : Nat) : (from_ k n).length = n := by simp [from_]
theorem from_at (k : Nat) (n i : Nat) (h : i < n) : (from_ k n)[i]? = some (mk (k + i)) := by simp [from_, h]
def marked (k : Nat) (ts : List ByteArray) (i : Nat) : List ByteArray := (from_ k ts.length).take i ++ ts.drop i
theorem marked_zero (k : Nat) (ts : List ByteArray) : marked k ts 0 = ts := by simp [marked]
theorem marked_all (k : Nat) (ts : List ByteArray) : marked k ts ts.length = from_ k ts.length := by
  unfold marked
  rw [List.take_of_length_le (by rw [from_len]; exact Nat.le_refl _)]
  simp
theorem marked_len (k : Nat) (ts : List ByteArray) (i : Nat) (h : i ≤ ts.length) : (marked k ts i).length = ts.length := by simp [marked, from_len]; omega
theorem marked_next (k : Nat) (ts : List ByteArray) (i : Nat) (h : i < ts.length) : (marked k ts i).set i (mk (k + i)) = marked k ts (i + 1) := by
  unfold marked
  have e2 : ((from_ k ts.length).take i).length = i := by simp [from_len]; omega
  rw [List.set_append_right _ _ (by rw [e2]; exact Nat.le_refl _), e2, Nat.sub_self, List.drop_eq_getElem_cons h, List.set_cons_zero, List.take_add_one, from_at k _ i h]
  simp

theorem grew_below {w w' w2 : World} {g : Nat} (h : w.grownBy w' (some g)) (hb : Below w'.heap.size w' w2) : w.grownBy w2 (some g) :=
  ⟨hb.os.trans h.os, hb.tape.trans h.tape, hb.output.trans h.output, Nat.le_trans h.size hb.size, fun k hk hne => (hb.block k (Nat.lt_of_lt_of_le hk h.size)).trans (h.block k hk hne)⟩
theorem grew_set {w w' : World} {g i : Nat} {v : Value} (h : w.grownBy w' (some g)) : w.grownBy (w'.setCell ⟨g, i, none⟩ v) (some g) :=
  ⟨h.os, h.tape, h.output, by simpa using h.size, fun k hk hne => (Below.heap_setCell w' ⟨g, i, none⟩ v k (fun e => hne (by simp at e; rw [e]))).trans (h.block k hk hne)⟩
theorem grew_refl (w : World) (r : Option Nat) : w.grownBy w r := ⟨rfl, rfl, rfl, Nat.le_refl _, fun _ _ _ => rfl⟩

end Go.Proofs.YtlmhdebjmkcanaaDoor.strs
namespace Go.Proofs.YtlmhdebjmkcanaaDoor.lwb
open Go.RowKit Go.Joins
open Go.Proofs.YtlmhdebjmkcanaaDoor.base Go.Proofs.YtlmhdebjmkcanaaDoor.blk Go.Proofs.YtlmhdebjmkcanaaDoor.aid
open Go.Proofs.YtlmhdebjmkcanaaDoor.row (bl en Rd Own OwnV)
open Go.Proofs.YtlmhdebjmkcanaaDoor.strs (mk)
set_option linter.unusedVariables false

/-- marks from m on, n blobs -/
def mb (m n : Nat) : List (Int × ByteArray) := (List.range n).map fun (i : Nat) => (((m + 2 * i : Nat) : Int), mk (m + 2 * i + 1))
theorem mb_len (m n : Nat) : (mb m n).length = n := by simp [mb]
theorem mb_at (m n i : Nat) (h : i < n) : (mb m n)[i]? = some (((m + 2 * i : Nat) : Int), mk (m + 2 * i + 1)) := by simp [mb, h]
def mkd (m : Nat) (l : List (Int × ByteArray)) (i : Nat) : List (Int × ByteArray) := (mb m l.length).take i ++ l.drop i
theorem mkd_zero (m : Nat) (l : List (Int × ByteArray)) : mkd m l 0 = l := by simp [mkd]
theorem mkd_all (m : Nat) (l : List (Int × ByteArray)) : mkd m l l.length = mb m l.length := by
  unfold mkd
  rw [List.take_of_length_le (by rw [mb_len]; exact Nat.le_refl _)]
  simp
theorem mkd_len (m : Nat) (l : List (Int × ByteArray)) (i : Nat) (h : i ≤ l.length) : (mkd m l i).length = l.length := by simp [mkd, mb_len]; omega
theorem mkd_next (m : Nat) (l : List (Int × ByteArray)) (i : Nat) (h : i < l.length) : (mkd m l i).set i (((m + 2 * i : Nat) : Int), mk (m + 2 * i + 1)) = mkd m l (i + 1) := by
  unfold mkd
  have e2 : ((mb m l.length).take i).length = i := by simp [mb_len]; omega
  rw [List.set_append_right _ _ (by rw [e2]; exact Nat.le_refl _), e2, Nat.sub_self, List.drop_eq_getElem_cons h, List.set_cons_zero, List.take_add_one, mb_at m _ i h]
  simp
theorem bl_set : ∀ (l : List (Int × ByteArray)) (i : Nat) (x : Int) (y : ByteArray), i < l.length → ((bl l).set (i * 2) (.int .i64 x)).set (i * 2 + 1) (.string y) = bl (l.set i (x, y))
  | [], i, x, y, h => by simp at h
  | c :: l, 0, x, y, h => by simp [row.bl_cons]
  | c :: l, i + 1, x, y, h => by
    rw [row.bl_cons, List.set_cons_succ, row.bl_cons, ← bl_set l i x y (by simpa using h)]
    have e : (i + 1) * 2 = i * 2 + 1 + 1 := by omega
    rw [e]
    simp only [List.set_cons_succ]
theorem bl_set1 : ∀ (l : List (Int × ByteArray)) (i : Nat) (x : Int) (z : Int × ByteArray), l[i]? = some z → (bl l).set (i * 2) (.int .i64 x) = bl (l.set i (x, z.2))
  | [], i, x, z, h => by simp at h
  | c :: l, 0, x, z, h => by
    simp at h
    subst h
    simp [row.bl_cons]
  | c :: l, i + 1, x, z, h => by
    rw [row.bl_cons, List.set_cons_succ, row.bl_cons, ← bl_set1 l i x z (by simpa using h)]
    have e : (i + 1) * 2 = i * 2 + 1 + 1 := by omega
    rw [e]
    simp only [List.set_cons_succ]

theorem set_same {xs : List Value} {i : Nat} {v : Value} (h : xs[i]? = some v) : xs.set i v = xs := by
  apply List.ext_getElem?
  intro j
  by_cases e : i = j
  · subst e
    rw [List.getElem?_set_self (List.getElem?_eq_some_iff.1 h).1, h]
  · rw [List.getElem?_set_ne e]

end Go.Proofs.YtlmhdebjmkcanaaDoor.lwb
namespace Go.Proofs.YtlmhdebjmkcanaaDoor.lwb
open Go.RowKit Go.Joins
open Go.Proofs.YtlmhdebjmkcanaaDoor.base Go.Proofs.YtlmhdebjmkcanaaDoor.blk Go.Proofs.YtlmhdebjmkcanaaDoor.aid
open Go.Proofs.YtlmhdebjmkcanaaDoor.row (bl en Rd Own OwnV)
open Go.Proofs.YtlmhdebjmkcanaaDoor.strs (mk)
set_option linter.unusedVariables false

/-- marks from m on, n entries -/
def me1 (m i : Nat) : ByteArray × Int × Int × Int := (mk (m + 4 * i), (m : Int) + 4 * i + 1, (m : Int) + 4 * i + 1 + 1, (m : Int) + 4 * i + 1 + 1 + 1)
def me (m n : Nat) : List (ByteArray × Int × Int × Int) := (List.range n).map (me1 m)
theorem me_len (m n : Nat) : (me m n).length = n := by simp [me]
theorem me_at (m n i : Nat) (h : i < n) : (me m n)[i]? = some (me1 m i) := by simp [me, h]
def mkE (m : Nat) (l : List (ByteArray × Int × Int × Int)) (i : Nat) : List (ByteArray × Int × Int × Int) := (me m l.length).take i ++ l.drop i
theorem mkE_zero (m : Nat) (l : List (ByteArray × Int × Int × Int)) : mkE m l 0 = l := by simp [mkE]
theorem mkE_all (m : Nat) (l : List (ByteArray × Int × Int × Int)) : mkE m l l.length = me m l.length := by
  unfold mkE
  rw [List.take_of_length_le (by rw [me_len]; exact Nat.le_refl _)]
  simp
theorem mkE_len (m : Nat) (l : List (ByteArray × Int × Int × Int)) (i : Nat) (h : i ≤ l.length) : (mkE m l i).length = l.length := by simp [mkE, me_len]; omega
theorem mkE_next (m : Nat) (l : List (ByteArray × Int × Int × Int)) (i : Nat) (h : i < l.length) : (mkE m l i).set i (me1 m i) = mkE m l (i + 1) := by
  unfold mkE
  have e2 : ((me m l.length).take i).length = i := by simp [me_len]; omega
  rw [List.set_append_right _ _ (by rw [e2]; exact Nat.le_refl _), e2, Nat.sub_self, List.drop_eq_getElem_cons h, List.set_cons_zero, List.take_add_one, me_at m _ i h]
  simp
theorem en_set : ∀ (l : List (ByteArray × Int × Int × Int)) (i : Nat) (x : ByteArray) (a b c : Int), i < l.length → ((((en l).set (i * 4) (.string x)).set (i * 4 + 1) (.int .i64 a)).set (i * 4 + 2) (.int .i64 b)).set (i * 4 + 3) (.int .i64 c) = en (l.set i (x, a, b, c))
  | [], i, x, a, b, c, h => by simp at h
  | z :: l, 0, x, a, b, c, h => by simp [row.en_cons]
  | z :: l, i + 1, x, a, b, c, h => by
    rw [row.en_cons, List.set_cons_succ, row.en_cons, ← en_set l i x a b c (by simpa using h)]
    have e : (i + 1) * 4 = i * 4 + 1 + 1 + 1 + 1 := by omega
    rw [e]
    simp only [List.set_cons_succ]

end Go.Proofs.YtlmhdebjmkcanaaDoor.lwb
