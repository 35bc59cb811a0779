/-
  laws.FnExactPackRead answers true at every text, where spec.l07At answers as told; nothing that was there turns. Condition: the numbers of the rounds are there.
-/
import Derived.Test.YtlmhdebjmkcanaaDoorZReadA
import Derived.Test.YtlmhdebjmkcanaaDoorZScanLaw
import Derived.Test.YtlmhdebjmkcanaaDoorZPackC
namespace Go.Proofs.YtlmhdebjmkcanaaDoor.pack
open Go.RowKit Go.Joins
open Go.Proofs.YtlmhdebjmkcanaaDoor.base Go.Proofs.YtlmhdebjmkcanaaDoor.blk Go.Proofs.YtlmhdebjmkcanaaDoor.aid
open Go.Proofs.YtlmhdebjmkcanaaDoor.row (bl en Rd Own OwnV)
open Go.Proofs.YtlmhdebjmkcanaaDoor.sha (GV)
set_option linter.unusedVariables false

theorem iPackRight : rdr.IPackRight := fun a c l w hl hs hr hG => right_pack a c l w hl hr digI.digest_any hG

/-- what stays while the law goes on: also the two answers' variables -/
structure Sr (W : World) (xs : List Value) (a5 a6 : Option Addr) (zs : List Value) (z5 z6 : Nat) (o5 o6 : Obj) (wx : World) : Prop where
  below : Below W.heap.size W wx
  r5 : Rd wx a5 xs
  ow : OwnV 39 wx a6 zs
  b5 : wx.heap[z5]? = some o5
  b6 : wx.heap[z6]? = some o6
theorem Sr.next {W wx w' : World} {xs zs : List Value} {a5 a6 : Option Addr} {z5 z6 : Nat} {o5 o6 : Obj} (h : Sr W xs a5 a6 zs z5 z6 o5 o6 wx) (hb : Below wx.heap.size wx w') : Sr W xs a5 a6 zs z5 z6 o5 o6 w' :=
  ⟨h.below.trans (hb.mono h.below.size), h.r5.below hb, h.ow.below hb, blk_below h.b5 hb, blk_below h.b6 hb⟩
theorem Sr.marked {W wx w' : World} {xs zs zs' : List Value} {a5 a6 : Option Addr} {z5 z6 : Nat} {o5 o6 : Obj} {r : Option Nat} (h : Sr W xs a5 a6 zs z5 z6 o5 o6 wx) (hg : wx.grownBy w' r) (ho : OwnV 39 w' a6 zs') (hne : ∀ b, r = some b → W.heap.size ≤ b ∧ Away a5 b xs ∧ b ≠ z5 ∧ b ≠ z6) : Sr W xs a5 a6 zs' z5 z6 o5 o6 w' := by
  cases r with
  | none =>
    have hb : Below wx.heap.size wx w' := ⟨hg.os, hg.tape, hg.output, hg.size, fun k hk => hg.block k hk (by simp)⟩
    exact ⟨h.below.trans (hb.mono h.below.size), h.r5.below hb, ho, blk_below h.b5 hb, blk_below h.b6 hb⟩
  | some b =>
    obtain ⟨e0, e1, e2, e3⟩ := hne b rfl
    exact ⟨h.below.grown hg h.below.size (fun k hk => by simp at hk; omega), rd_away h.r5 hg e1, ho, (hg.block z5 (Array.getElem?_eq_some_iff.1 h.b5).1 (by simp; omega)).trans h.b5, (hg.block z6 (Array.getElem?_eq_some_iff.1 h.b6).1 (by simp; omega)).trans h.b6⟩

end Go.Proofs.YtlmhdebjmkcanaaDoor.pack
