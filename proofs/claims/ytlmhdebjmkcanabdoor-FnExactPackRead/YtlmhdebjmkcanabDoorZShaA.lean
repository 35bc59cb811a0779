/-
  What spec.HashRight, HashBegin, HashMore, HashEnd and Digest answer and leave. Conditions: at most 1,048,576 numbers, which lie in memory; at most 1,048,576 bytes.
  What spec.HashBegin answers and leaves. No condition.
  Rows of int64 that may be written, none or in a block of their own, maybe with room behind them: what laws.markInt64S answers and leaves. Conditions: at most 1,048,576 numbers.
  What laws.szHash, toHash, eqHash, markHash and heldHash answer and leave. Conditions: at most 1,048,576 numbers, which lie in memory; numbers that are written lie in a block of their own.
  What the program's HashRight and HashBegin are asked to answer and to leave, as the laws' walks take it. No condition.
-/
import Derived.Test.YtlmhdebjmkcanabDoorZGround
namespace Go.Proofs.YtlmhdebjmkcanabDoor.sha
open Go.RowKit Go.Joins
open Go.Proofs.YtlmhdebjmkcanabDoor.base Go.Proofs.YtlmhdebjmkcanabDoor.ints Go.Proofs.YtlmhdebjmkcanabDoor.blk
set_option linter.unusedVariables false

def u32B (z : Int) : Bool := decide (0 ≤ z ∧ z ≤ 4294967295)
/-- is a Hash right? -/
def hRight (zs : List Int) (r : ByteArray) (size : Int) : Bool := decide (zs.length = 8 ∧ (0 ≤ size ∧ size ≤ 1099511627776) ∧ (r.size : Int) = size % 64) && zs.all u32B

theorem all_next {zs : List Int} {k : Nat} {z : Int} (hz : zs[k]? = some z) (h : (zs.take k).all u32B = true) (hb : u32B z = true) : (zs.take (k + 1)).all u32B = true := by
  rw [List.take_add_one, hz, List.all_append, h]
  simp [hb]
theorem all_not {zs : List Int} {k : Nat} {z : Int} (hz : zs[k]? = some z) (hb : u32B z = false) : zs.all u32B = false := by
  rw [List.all_eq_false]
  exact ⟨z, List.mem_of_getElem? hz, by simp [hb]⟩

end Go.Proofs.YtlmhdebjmkcanabDoor.sha
namespace Go.Proofs.YtlmhdebjmkcanabDoor.sha
open Go.RowKit Go.Joins
open Go.Proofs.YtlmhdebjmkcanabDoor.base Go.Proofs.YtlmhdebjmkcanabDoor.ints Go.Proofs.YtlmhdebjmkcanabDoor.blk
set_option linter.unusedVariables false

theorem start_any (w : World) : Calls Tryd.prog 71 #[] w fun e w' => e = .returned (.slice (some ⟨w.heap.size, 0, none⟩) 8 8) ∧ w' = w.alloc (rowF .i64 2 8 start) := by
  go_enter Tryd.func71, Tryd.ntmps71
  go_wp2
  go_ret
  exact ⟨rfl, rfl⟩

set_option maxRecDepth 100000 in
theorem begin_any (w : World) : Calls Tryd.prog 60 #[] w fun e w' => e = .returned (hash (some ⟨w.heap.size + 1, 0, none⟩) 8 8 ⟨#[]⟩ 0) ∧ w'.heap[w.heap.size + 1]? = some (rowF .i64 2 8 start) ∧ Below w.heap.size w w' := by
  go_enter Tryd.func60, Tryd.ntmps60
  go_wp2_with fail
  refine (start_any _).mono ?_
  rintro e w1 ⟨rfl, rfl⟩
  have k0 := blk_old (blk_new w (.cells #[.slice none 0 0, .string ⟨#[]⟩, .int .i64 0] 95) w.heap.size rfl) (rowF .i64 2 8 start)
  have k1 := mkHid (blk_new (w.alloc (.cells #[.slice none 0 0, .string ⟨#[]⟩, .int .i64 0] 95)) (rowF .i64 2 8 start) (w.heap.size + 1) (by simp))
  have B := mkHid (below_alloc2 w (.cells #[.slice none 0 0, .string ⟨#[]⟩, .int .i64 0] 95) (rowF .i64 2 8 start))
  have hs : (w.alloc (.cells #[.slice none 0 0, .string ⟨#[]⟩, .int .i64 0] 95)).heap.size = w.heap.size + 1 := by simp
  rw [hs]
  clear hs
  generalize (w.alloc (.cells #[.slice none 0 0, .string ⟨#[]⟩, .int .i64 0] 95)).alloc (rowF .i64 2 8 start) = W at *
  have c0 : W.cell? ⟨w.heap.size, 0, none⟩ = some (.slice none 0 0) := cell_of_block k0 0
  have c1 : W.cell? ⟨w.heap.size, 1, none⟩ = some (.string ⟨#[]⟩) := cell_of_block k0 1
  have c2 : W.cell? ⟨w.heap.size, 2, none⟩ = some (.int .i64 0) := cell_of_block k0 2
  have f0 : ∀ j, W.frozen? ⟨w.heap.size, j, none⟩ = false := unfrozen_of_block k0
  clear k0
  go_wp2
  exact bodyPost_ret (v := hash (some ⟨w.heap.size + 1, 0, none⟩) 8 8 ⟨#[]⟩ 0) (by simp [results, Tryd.results60, go_sem, c0, c1, c2, hash]) rfl
    ⟨rfl, blk_set (blk_set (blk_set k1.out _ _ (by simp)) _ _ (by simp)) _ _ (by simp), ((B.out.setCell (by simp) _).setCell (by simp) _).setCell (by simp) _⟩

end Go.Proofs.YtlmhdebjmkcanabDoor.sha
namespace Go.Proofs.YtlmhdebjmkcanabDoor.blk
open Go.RowKit Go.Joins
open Go.Proofs.YtlmhdebjmkcanabDoor.base Go.Proofs.YtlmhdebjmkcanabDoor.ints
set_option linter.unusedVariables false

/-- a row in a block of its own, with room behind it -/
def OwnS (w : World) (g : Nat) (zs : List Int) : Prop := ∃ ex : List Value, w.heap[g]? = some (.cells (zs.map intV ++ ex).toArray 2 (0, 0))
theorem OwnS.of {w : World} {g : Nat} {zs : List Int} (h : Own w g zs) : OwnS w g zs := ⟨[], by simpa [Own] using h⟩
theorem OwnS.lt {w : World} {g : Nat} {zs : List Int} (h : OwnS w g zs) : g < w.heap.size := by
  obtain ⟨ex, h⟩ := h
  exact (Array.getElem?_eq_some_iff.1 h).1
theorem OwnS.block {w w' : World} {g : Nat} {zs : List Int} (h : OwnS w g zs) (hb : w'.heap[g]? = w.heap[g]?) : OwnS w' g zs := by
  obtain ⟨ex, h⟩ := h
  exact ⟨ex, hb.trans h⟩
theorem OwnS.below {w w' : World} {g : Nat} {zs : List Int} (h : OwnS w g zs) (hb : Below w.heap.size w w') : OwnS w' g zs := h.block (hb.block g h.lt)
theorem OwnS.cell {w : World} {g : Nat} {zs : List Int} (h : OwnS w g zs) {i : Nat} {z : Int} (hz : zs[i]? = some z) : w.cell? ⟨g, i, none⟩ = some (.int .i64 z) := by
  obtain ⟨ex, h⟩ := h
  have hi : i < zs.length := (List.getElem?_eq_some_iff.1 hz).1
  rw [cell_of_block h]
  simp [List.getElem?_append, hi, intV]
  exact (List.getElem?_eq_some_iff.1 hz).2
theorem OwnS.free {w : World} {g : Nat} {zs : List Int} (h : OwnS w g zs) (i : Nat) : w.frozen? ⟨g, i, none⟩ = false := by
  obtain ⟨ex, h⟩ := h
  exact unfrozen_of_block h i
theorem OwnS.rd {w : World} {g : Nat} {zs : List Int} (h : OwnS w g zs) : Rd w (some ⟨g, 0, none⟩) zs := by
  intro i z hz
  exact ⟨g, 0, rfl, by simpa using h.cell hz⟩
theorem OwnS.set {w : World} {g : Nat} {zs : List Int} (h : OwnS w g zs) (i : Nat) (hi : i < zs.length) (z : Int) : OwnS (w.setCell ⟨g, i, none⟩ (.int .i64 z)) g (zs.set i z) := by
  obtain ⟨ex, h⟩ := h
  refine ⟨ex, ?_⟩
  rw [block_setCell (i := i) h (.int .i64 z)]
  congr 2
  simp [intV, List.map_set, hi]
theorem OwnS.other {w : World} {g : Nat} {zs : List Int} (h : OwnS w g zs) (p : Addr) (v : Value) (hne : g ≠ p.block) : OwnS (w.setCell p v) g zs := h.block (Below.heap_setCell w p v g hne)
theorem OwnS.owns {w : World} {base g n c : Nat} {zs : List Int} (h : w.ownsRow base 2 1 (.slice (some ⟨g, 0, none⟩) n c) n (zs.map intV)) : OwnS w g zs := by
  obtain ⟨_, h2⟩ := h
  rcases h2 with ⟨e, _⟩ | ⟨g', cap, cur, e, hB, hg, _, _, _, ht⟩
  · cases e
  · simp at e
    obtain ⟨rfl, rfl⟩ := e
    refine ⟨cur.toList.drop (n * 1), ?_⟩
    rw [← ht, List.take_append_drop]
    exact hg

/-- cells that may be written: none, or a block of their own -/
def OwnV (w : World) (a : Option Addr) (zs : List Int) : Prop := (a = none ∧ zs = []) ∨ ∃ g, a = some ⟨g, 0, none⟩ ∧ OwnS w g zs
/-- all that was there stays, but for the block of these cells -/
def GrewV (w w' : World) (a : Option Addr) : Prop := w.grownBy w' (a.map (·.block))
theorem OwnV.rd {w : World} {a : Option Addr} {zs : List Int} (h : OwnV w a zs) : Rd w a zs := by
  rcases h with ⟨rfl, rfl⟩ | ⟨g, rfl, ho⟩
  · exact Rd.nil w
  · exact ho.rd
theorem OwnV.below {w w' : World} {a : Option Addr} {zs : List Int} (h : OwnV w a zs) (hb : Below w.heap.size w w') : OwnV w' a zs := by
  rcases h with ⟨rfl, rfl⟩ | ⟨g, rfl, ho⟩
  · exact .inl ⟨rfl, rfl⟩
  · exact .inr ⟨g, rfl, ho.below hb⟩
theorem OwnV.alloc {w : World} {a : Option Addr} {zs : List Int} (h : OwnV w a zs) (o : Obj) : OwnV (w.alloc o) a zs := h.below ((Below.refl _ _).alloc (Nat.le_refl _) o)
theorem grewV_alloc {w w' : World} {a : Option Addr} {o : Obj} (h : GrewV (w.alloc o) w' a) : GrewV w w' a := grew_trans (World.grownBy_alloc w o _) h

end Go.Proofs.YtlmhdebjmkcanabDoor.blk
namespace Go.Proofs.YtlmhdebjmkcanabDoor.hashes
open Go.RowKit Go.Joins
open Go.Proofs.YtlmhdebjmkcanabDoor.base Go.Proofs.YtlmhdebjmkcanabDoor.ints Go.Proofs.YtlmhdebjmkcanabDoor.blk
open Go.Proofs.YtlmhdebjmkcanabDoor.sha (hash zeroH)
set_option linter.unusedVariables false

theorem val_eq {a b : Value} (h : a = b) : Ending.returned a = Ending.returned b := by rw [h]
theorem bytes_ne {r s : ByteArray} (h : ¬ r = s) : (r.toList == s.toList) = false := by
  rw [ByteArray.toList_eq, ByteArray.toList_eq]
  simp
  intro e
  apply h
  apply ByteArray.ext
  exact e
/-- what is left when a Hash is counted -/
def szv (m : Int) (n l : Nat) : Int := if m - n < 0 then -1 else if m - n - l < 0 then -1 else m - n - l

end Go.Proofs.YtlmhdebjmkcanabDoor.hashes
namespace Go.Proofs.YtlmhdebjmkcanabDoor.himpl
open Go.RowKit Go.Joins
open Go.Proofs.YtlmhdebjmkcanabDoor.base Go.Proofs.YtlmhdebjmkcanabDoor.ints Go.Proofs.YtlmhdebjmkcanabDoor.blk Go.Proofs.YtlmhdebjmkcanabDoor.hashes
open Go.Proofs.YtlmhdebjmkcanabDoor.sha (hRight startL)
set_option linter.unusedVariables false

/-- what is there is new -/
def Fresh (w : World) (a : Option Addr) : Prop := ∀ b o s, a = some ⟨b, o, s⟩ → w.heap.size ≤ b
/-- a Hash of its own is the answer -/
def IPost (w : World) (o : List Int × ByteArray × Int) (e : Ending) (w' : World) : Prop :=
  ∃ a c, e = .returned (sha.hash a o.1.length c o.2.1 o.2.2) ∧ OwnV w' a o.1 ∧ Fresh w a ∧ Below w.heap.size w w'

def IRight : Prop := ∀ (b0 off cap : Nat) (zs : List Int) (r : ByteArray) (size : Int) (w : World), zs.length ≤ 1048576 → Rd w (some ⟨b0, off, none⟩) zs → r.size ≤ 1048576 → -9223372036854775808 ≤ size → size ≤ 9223372036854775807 →
  Calls Tryd.prog 72 #[sha.hash (some ⟨b0, off, none⟩) zs.length cap r size] w fun e w' => e = .returned (.bool (hRight zs r size)) ∧ Below w.heap.size w w'
def IBegin : Prop := ∀ (w : World), Calls Tryd.prog 65 #[] w fun e w' => IPost w (startL, ⟨#[]⟩, 0) e w'
end Go.Proofs.YtlmhdebjmkcanabDoor.himpl
