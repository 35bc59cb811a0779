/-
  What spec.DriveNames and impl.DriveNames answer and leave: a row of names of its own. Conditions: at most 1,048,576 files, which lie in memory, of texts of at most 1,048,576 bytes.
-/
import Derived.Test.YtlcdbkelonbcfaaDrvIR
import Derived.Test.YtlcdbkelonbcfaaClone
import Derived.Test.YtlcdbkelonbcfaaStrM
namespace Go.Proofs.Ytlcdbkelonbcfaa.drv
open Go.RowKit Go.Joins
open Go.Proofs.Ytlcdbkelonbcfaa.base Go.Proofs.Ytlcdbkelonbcfaa.blk Go.Proofs.Ytlcdbkelonbcfaa.aid
open Go.Proofs.Ytlcdbkelonbcfaa.row (Rd Own OwnV)
open Go.Proofs.Ytlcdbkelonbcfaa.rwStored (cs)
open Go.Proofs.Ytlcdbkelonbcfaa.strs (tx strV appSem app_fold appT)
set_option linter.unusedVariables false
attribute [local go_sem ↓] app_fold

theorem owns_next {w w' : World} {base e size n : Nat} {v : Value} {xs : List Value} (h : w.ownsRow base e size v n xs) (hb : Below w.heap.size w w') : w'.ownsRow base e size v n xs :=
  h.kept (row := none) ⟨hb.os, hb.tape, hb.output, hb.size, fun k hk _ => hb.block k hk⟩ (by cases hv : v.ownBlock <;> simp)
/-- names of its own are the answer -/
def NPost (w : World) (ts : List ByteArray) (e : Ending) (w' : World) : Prop :=
  ∃ a c, e = .returned (.slice a ts.length c) ∧ OwnV 9 w' a (tx ts) ∧ (∀ b o s, a = some ⟨b, o, s⟩ → w.heap.size ≤ b) ∧ Below w.heap.size w w'
/-- the row of names that grows, and the argument's variable -/
structure Nr (w : World) (box : Obj) (B : Nat) (v : Value) (k : Nat) (ts : List ByteArray) (wx : World) : Prop where
  below : Below w.heap.size w wx
  sz : B ≤ wx.heap.size
  bb : wx.heap[w.heap.size]? = some box
  own : wx.ownsRow B 9 1 v k (tx ts)
  hB : w.heap.size + 1 ≤ B
variable {w wx w' : World} {box : Obj} {B k : Nat} {v : Value} {ts : List ByteArray}
theorem Nr.next (h : Nr w box B v k ts wx) (hb : Below wx.heap.size wx w') : Nr w box B v k ts w' :=
  ⟨h.below.trans (hb.mono h.below.size), Nat.le_trans h.sz hb.size, blk_below h.bb hb, owns_next h.own hb, h.hB⟩
theorem Nr.app {o : Obj} {v' : Value} {us : List ByteArray} {k' : Nat} (h : Nr w box B v k ts wx) (hg : (wx.alloc o).grownBy w' v.ownBlock) (ho : w'.ownsRow B 9 1 v' k' (tx us)) : Nr w box B v' k' us w' := by
  have hk := fun j hj => (h.own.lt j hj).1
  have h2 := h.next (below_alloc1 wx o)
  have hB := h.hB
  exact ⟨h2.below.grown hg h2.below.size (fun j hj => by have := hk j hj; omega), Nat.le_trans h2.sz hg.size, (hg.block _ (Array.getElem?_eq_some_iff.1 h2.bb).1 (fun e2 => by have := hk _ e2.symm; omega)).trans h2.bb, ho, h.hB⟩
theorem Nr.post {ts' : List ByteArray} (h : Nr w box B v k ts wx) (hk : ts.length = k) (e : ts = ts') : NPost w ts' (.returned v) wx := by
  subst e
  obtain ⟨a, c, rfl, ho, hf⟩ := mem.own_of h.own
  exact ⟨a, c, by rw [hk], ho, fun b o s e => by have := hf b o s e; have := h.hB; omega, h.below⟩
/-- the names of the first k files -/
def nm (l : List (ByteArray × ByteArray × Int)) (k : Nat) : List ByteArray := (l.take k).map (fun f => f.1)
theorem nm_len (l : List (ByteArray × ByteArray × Int)) (k : Nat) (h : k ≤ l.length) : (nm l k).length = k := by simp [nm]; omega
theorem nm_next (l : List (ByteArray × ByteArray × Int)) (k : Nat) (f : ByteArray × ByteArray × Int) (h : l[k]? = some f) : nm l k ++ [f.1] = nm l (k + 1) := by
  unfold nm
  rw [List.take_add_one, h]
  simp
theorem nm_all (l : List (ByteArray × ByteArray × Int)) : nm l l.length = l.map (fun f => f.1) := by simp [nm]

end Go.Proofs.Ytlcdbkelonbcfaa.drv
