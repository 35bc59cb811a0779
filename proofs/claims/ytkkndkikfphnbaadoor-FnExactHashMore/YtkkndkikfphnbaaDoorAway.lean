/-
  Numbers that do not lie in a block that is written. No condition.
-/
import Derived.Test.YtkkndkikfphnbaaDoorHImplB
namespace Go.Proofs.YtkkndkikfphnbaaDoor.himpl
open Go.RowKit Go.Joins
open Go.Proofs.YtkkndkikfphnbaaDoor.base Go.Proofs.YtkkndkikfphnbaaDoor.ints Go.Proofs.YtkkndkikfphnbaaDoor.blk Go.Proofs.YtkkndkikfphnbaaDoor.hashes
open Go.Proofs.YtkkndkikfphnbaaDoor.sha (hRight startL)
set_option linter.unusedVariables false

/-- these numbers do not lie in that block, or there are none -/
def Away (a : Option Addr) (g : Nat) (zs : List Int) : Prop := zs = [] ∨ ∀ b o s, a = some ⟨b, o, s⟩ → b ≠ g

theorem rd_away {w w' : World} {a : Option Addr} {g : Nat} {zs : List Int} (h : Rd w a zs) (hg : w.grownBy w' (some g)) (ha : Away a g zs) : Rd w' a zs := by
  rcases ha with rfl | ha
  · intro i z hz; simp at hz
  · exact h.block (fun b o e hb => hg.block b hb (fun e2 => ha b o none e (by simpa using e2)))
theorem away_new {w : World} {a : Option Addr} {g : Nat} {zs : List Int} (h : Rd w a zs) (hg : w.heap.size ≤ g) : Away a g zs := by
  cases zs with
  | nil => exact .inl rfl
  | cons z l =>
    refine .inr (fun b o s e => ?_)
    obtain ⟨b', o', e1, e2⟩ := h 0 z rfl
    rw [e] at e1
    simp at e1
    obtain ⟨rfl, rfl, _⟩ := e1
    have := World.block_lt_of_cell? w _ e2
    simp at this
    omega
theorem away_old {w : World} {a : Option Addr} {g : Nat} {zs : List Int} (h : Fresh w a) (hg : g < w.heap.size) : Away a g zs := .inr (fun b o s e => by have := h b o s e; omega)
theorem ownV_away {w w' : World} {a : Option Addr} {g : Nat} {zs : List Int} (h : OwnV w a zs) (hg : w.grownBy w' (some g)) (ha : ∀ b o s, a = some ⟨b, o, s⟩ → b ≠ g) : OwnV w' a zs := by
  rcases h with ⟨rfl, rfl⟩ | ⟨k, rfl, ho⟩
  · exact .inl ⟨rfl, rfl⟩
  · exact .inr ⟨k, rfl, ho.block (hg.block k ho.lt (by simpa using ha k 0 none rfl))⟩
theorem blk_away {w w' : World} {j g : Nat} {o : Obj} (h : w.heap[j]? = some o) (hg : w.grownBy w' (some g)) (hne : j ≠ g) : w'.heap[j]? = some o :=
  (hg.block j (Array.getElem?_eq_some_iff.1 h).1 (by simpa using hne)).trans h

end Go.Proofs.YtkkndkikfphnbaaDoor.himpl
