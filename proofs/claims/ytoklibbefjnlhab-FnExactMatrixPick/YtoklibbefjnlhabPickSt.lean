/-
  What holds in memory while laws.FnExactMatrixPick goes on: its variables, and what they point to.
-/
import Derived.Test.YtoklibbefjnlhabPickS
import Derived.Test.YtoklibbefjnlhabPickJ
namespace Go.Proofs.Ytoklibbefjnlhab.fnExactMatrixPick
open Go.RowKit Go.Joins
open Go.Proofs.Ytoklibbefjnlhab.base Go.Proofs.Ytoklibbefjnlhab.ints Go.Proofs.Ytoklibbefjnlhab.mats Go.Proofs.Ytoklibbefjnlhab.right Go.Proofs.Ytoklibbefjnlhab.pick
set_option linter.unusedVariables false

theorem pick_len (R C : Int) (zs rs : List Int) : (pick R C zs rs).2.2.1.length ≤ 256 := by
  by_cases h1 : 400 < rs.length
  · rw [pick_big h1]; simp
  by_cases h2 : right R C zs = false ∨ rs.length < 1 ∨ 16 < rs.length
  · rw [pick_ill h1 h2]; simp
  cases h3 : rs.all (inR R)
  · rw [pick_not h1 h2 h3]; simp
  · rw [pick_ok h1 h2 h3]
    have hx : right R C zs = true := by
      cases hx : right R C zs
      · exact absurd (.inl hx) h2
      · rfl
    obtain ⟨r, c, rfl, rfl, k1, k2, k3, k4, k5⟩ := right_nat hx
    rw [Int.toNat_natCast]
    show (pickL c zs rs).length ≤ 256
    rw [pickL_len k5 _ h3]
    exact Nat.le_trans (Nat.mul_le_mul (show rs.length ≤ 16 by omega) k4) (by omega)

/-- these numbers do not lie in that block, or there are none -/
def Away (a : Option Addr) (g : Nat) (zs : List Int) : Prop := zs = [] ∨ ∀ b o s, a = some ⟨b, o, s⟩ → b ≠ g

theorem rd_away {w w' : World} {a : Option Addr} {g : Nat} {zs : List Int} (h : Rd w a zs) (hg : w.grownBy w' (some g)) (ha : Away a g zs) : Rd w' a zs := by
  rcases ha with rfl | ha
  · intro i z hz; simp at hz
  · exact h.block (fun b o e hb => hg.block b hb (fun e2 => ha b o none e (by simpa using e2)))
theorem away_new {w : World} {a : Option Addr} {g : Nat} {zs : List Int} (h : Rd w a zs) (hg : w.heap.size ≤ g) : Away a g zs := by
  cases zs with
  | nil => exact .inl rfl
  | cons z l =>
    refine .inr (fun b o s e => ?_)
    obtain ⟨b', o', e1, e2⟩ := h 0 z rfl
    rw [e] at e1
    simp at e1
    obtain ⟨rfl, rfl, _⟩ := e1
    have := World.block_lt_of_cell? w _ e2
    simp at this
    omega
theorem away_old {w : World} {a : Option Addr} {g : Nat} {zs : List Int} (h : Fresh w a) (hg : g < w.heap.size) : Away a g zs := .inr (fun b o s e => by have := h b o s e; omega)
theorem ownV_away {w w' : World} {a : Option Addr} {g : Nat} {zs : List Int} (h : OwnV w a zs) (hg : w.grownBy w' (some g)) (ha : ∀ b o s, a = some ⟨b, o, s⟩ → b ≠ g) : OwnV w' a zs := by
  rcases h with ⟨rfl, rfl⟩ | ⟨k, rfl, ho⟩
  · exact .inl ⟨rfl, rfl⟩
  · exact .inr ⟨k, rfl, (hg.block k ho.lt (by simpa using ha k 0 none rfl)).trans ho⟩
theorem blk_away {w w' : World} {j g : Nat} {o : Obj} (h : w.heap[j]? = some o) (hg : w.grownBy w' (some g)) (hne : j ≠ g) : w'.heap[j]? = some o :=
  (hg.block j (Array.getElem?_eq_some_iff.1 h).1 (by simpa using hne)).trans h

/-- the argument's variable, and those of the answers of both, and what they hold -/
structure St (W : World) (box b6 b7 b9 : Obj) (B6 B7 B9 : Nat) (ps : List Int) (a6 a9 : Option Addr) (zs9 : List Int) (wx : World) : Prop where
  below : Below W.heap.size W wx
  bx : wx.heap[W.heap.size]? = some box
  x6 : wx.heap[B6]? = some b6
  x7 : wx.heap[B7]? = some b7
  x9 : wx.heap[B9]? = some b9
  r6 : Rd wx a6 ps
  o9 : OwnV wx a9 zs9

theorem St.next {W wx w' : World} {box b6 b7 b9 : Obj} {B6 B7 B9 : Nat} {ps : List Int} {a6 a9 : Option Addr} {zs9 : List Int} (h : St W box b6 b7 b9 B6 B7 B9 ps a6 a9 zs9 wx) (hb : Below wx.heap.size wx w') : St W box b6 b7 b9 B6 B7 B9 ps a6 a9 zs9 w' :=
  ⟨h.below.trans (hb.mono h.below.size), blk_below h.bx hb, blk_below h.x6 hb, blk_below h.x7 hb, blk_below h.x9 hb, h.r6.below hb, h.o9.below hb⟩
/-- a block that none of them lies in is written -/
theorem St.wrote {W wx w' : World} {box b6 b7 b9 : Obj} {B6 B7 B9 g : Nat} {ps : List Int} {a6 a9 : Option Addr} {zs9 : List Int} (h : St W box b6 b7 b9 B6 B7 B9 ps a6 a9 zs9 wx) (hg : wx.grownBy w' (some g))
    (h0 : W.heap.size < g) (h6 : B6 ≠ g) (h7 : B7 ≠ g) (h9 : B9 ≠ g) (ha6 : Away a6 g ps) (ha9 : ∀ b o s, a9 = some ⟨b, o, s⟩ → b ≠ g) : St W box b6 b7 b9 B6 B7 B9 ps a6 a9 zs9 w' :=
  ⟨h.below.grown hg h.below.size (fun k hk => by simp at hk; omega), blk_away h.bx hg (by omega), blk_away h.x6 hg h6, blk_away h.x7 hg h7, blk_away h.x9 hg h9, rd_away h.r6 hg ha6, ownV_away h.o9 hg ha9⟩
/-- the answer's cells are written -/
theorem St.marked {W wx w' : World} {box b6 b7 b9 : Obj} {B6 B7 B9 : Nat} {ps : List Int} {a6 a9 : Option Addr} {zs9 zs' : List Int} (h : St W box b6 b7 b9 B6 B7 B9 ps a6 a9 zs9 wx) (hg : GrewV wx w' a9) (ho : OwnV w' a9 zs')
    (hne : ∀ b o s, a9 = some ⟨b, o, s⟩ → W.heap.size < b ∧ B6 ≠ b ∧ B7 ≠ b ∧ B9 ≠ b ∧ Away a6 b ps) : St W box b6 b7 b9 B6 B7 B9 ps a6 a9 zs' w' := by
  cases a9 with
  | none =>
    have hb : Below wx.heap.size wx w' := ⟨hg.os, hg.tape, hg.output, hg.size, fun k hk => hg.block k hk (by simp)⟩
    exact ⟨h.below.trans (hb.mono h.below.size), blk_below h.bx hb, blk_below h.x6 hb, blk_below h.x7 hb, blk_below h.x9 hb, h.r6.below hb, ho⟩
  | some ad =>
    obtain ⟨b, o, s⟩ := ad
    obtain ⟨e0, e6, e7, e9, e10⟩ := hne b o s rfl
    have hg' : wx.grownBy w' (some b) := hg
    exact ⟨h.below.grown hg' h.below.size (fun k hk => by simp at hk; omega), blk_away h.bx hg' (by omega), blk_away h.x6 hg' e6, blk_away h.x7 hg' e7, blk_away h.x9 hg' e9, rd_away h.r6 hg' e10, ho⟩

end Go.Proofs.Ytoklibbefjnlhab.fnExactMatrixPick
