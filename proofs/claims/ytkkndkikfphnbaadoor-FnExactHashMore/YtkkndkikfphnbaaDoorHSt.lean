/-
  What holds in memory while a law over a Hash goes on: its variables, and what they point to. No condition.
-/
import Derived.Test.YtkkndkikfphnbaaDoorHImpl
import Derived.Test.YtkkndkikfphnbaaDoorAway
namespace Go.Proofs.YtkkndkikfphnbaaDoor.himpl
open Go.RowKit Go.Joins
open Go.Proofs.YtkkndkikfphnbaaDoor.base Go.Proofs.YtkkndkikfphnbaaDoor.ints Go.Proofs.YtkkndkikfphnbaaDoor.blk Go.Proofs.YtkkndkikfphnbaaDoor.hashes
open Go.Proofs.YtkkndkikfphnbaaDoor.sha (hRight endH digest short moreH startL)
set_option linter.unusedVariables false

theorem moreH_len (zs : List Int) (r : ByteArray) (size : Int) (t : ByteArray) (h : zs.length ≤ 1048576) : (moreH zs r size t).1.length ≤ 1048576 := by
  unfold moreH
  split
  · simp
  · split
    · exact h
    · rw [sha.list8_len]; omega

/-- the argument's variable, and those of the answers of both, and what they hold -/
structure St (W : World) (box b6 b7 b9 : Obj) (B6 B7 B9 : Nat) (ps : List Int) (a6 a9 : Option Addr) (zs9 : List Int) (wx : World) : Prop where
  below : Below W.heap.size W wx
  bx : wx.heap[W.heap.size]? = some box
  x6 : wx.heap[B6]? = some b6
  x7 : wx.heap[B7]? = some b7
  x9 : wx.heap[B9]? = some b9
  r6 : Rd wx a6 ps
  o9 : OwnV wx a9 zs9

theorem St.next {W wx w' : World} {box b6 b7 b9 : Obj} {B6 B7 B9 : Nat} {ps : List Int} {a6 a9 : Option Addr} {zs9 : List Int} (h : St W box b6 b7 b9 B6 B7 B9 ps a6 a9 zs9 wx) (hb : Below wx.heap.size wx w') : St W box b6 b7 b9 B6 B7 B9 ps a6 a9 zs9 w' :=
  ⟨h.below.trans (hb.mono h.below.size), blk_below h.bx hb, blk_below h.x6 hb, blk_below h.x7 hb, blk_below h.x9 hb, h.r6.below hb, h.o9.below hb⟩
/-- a block that none of them lies in is written -/
theorem St.wrote {W wx w' : World} {box b6 b7 b9 : Obj} {B6 B7 B9 g : Nat} {ps : List Int} {a6 a9 : Option Addr} {zs9 : List Int} (h : St W box b6 b7 b9 B6 B7 B9 ps a6 a9 zs9 wx) (hg : wx.grownBy w' (some g))
    (h0 : W.heap.size < g) (h6 : B6 ≠ g) (h7 : B7 ≠ g) (h9 : B9 ≠ g) (ha6 : Away a6 g ps) (ha9 : ∀ b o s, a9 = some ⟨b, o, s⟩ → b ≠ g) : St W box b6 b7 b9 B6 B7 B9 ps a6 a9 zs9 w' :=
  ⟨h.below.grown hg h.below.size (fun k hk => by simp at hk; omega), blk_away h.bx hg (by omega), blk_away h.x6 hg h6, blk_away h.x7 hg h7, blk_away h.x9 hg h9, rd_away h.r6 hg ha6, ownV_away h.o9 hg ha9⟩
/-- the answer's cells are written -/
theorem St.marked {W wx w' : World} {box b6 b7 b9 : Obj} {B6 B7 B9 : Nat} {ps : List Int} {a6 a9 : Option Addr} {zs9 zs' : List Int} (h : St W box b6 b7 b9 B6 B7 B9 ps a6 a9 zs9 wx) (hg : GrewV wx w' a9) (ho : OwnV w' a9 zs')
    (hne : ∀ b o s, a9 = some ⟨b, o, s⟩ → W.heap.size < b ∧ B6 ≠ b ∧ B7 ≠ b ∧ B9 ≠ b ∧ Away a6 b ps) : St W box b6 b7 b9 B6 B7 B9 ps a6 a9 zs' w' := by
  cases a9 with
  | none =>
    have hb : Below wx.heap.size wx w' := ⟨hg.os, hg.tape, hg.output, hg.size, fun k hk => hg.block k hk (by simp)⟩
    exact ⟨h.below.trans (hb.mono h.below.size), blk_below h.bx hb, blk_below h.x6 hb, blk_below h.x7 hb, blk_below h.x9 hb, h.r6.below hb, ho⟩
  | some ad =>
    obtain ⟨b, o, s⟩ := ad
    obtain ⟨e0, e6, e7, e9, e10⟩ := hne b o s rfl
    have hg' : wx.grownBy w' (some b) := hg
    exact ⟨h.below.grown hg' h.below.size (fun k hk => by simp at hk; omega), blk_away h.bx hg' (by omega), blk_away h.x6 hg' e6, blk_away h.x7 hg' e7, blk_away h.x9 hg' e9, rd_away h.r6 hg' e10, ho⟩

end Go.Proofs.YtkkndkikfphnbaaDoor.himpl
