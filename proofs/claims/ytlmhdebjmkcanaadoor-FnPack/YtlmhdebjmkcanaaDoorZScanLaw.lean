/-
  laws.FnExactPackScan answers true at every text, where spec.l07At answers as told; nothing that was there turns. Condition: the numbers of the rounds are there.
-/
import Derived.Test.YtlmhdebjmkcanaaDoorZScanS
import Derived.Test.YtlmhdebjmkcanaaDoorZCellA
import Derived.Test.YtlmhdebjmkcanaaDoorZMarkA
import Derived.Test.YtlmhdebjmkcanaaDoorZShaH
namespace Go.Proofs.YtlmhdebjmkcanaaDoor.pack
open Go.RowKit Go.Joins
open Go.Proofs.YtlmhdebjmkcanaaDoor.base Go.Proofs.YtlmhdebjmkcanaaDoor.blk Go.Proofs.YtlmhdebjmkcanaaDoor.aid
open Go.Proofs.YtlmhdebjmkcanaaDoor.row (bl en Rd Own OwnV)
open Go.Proofs.YtlmhdebjmkcanaaDoor.rdr (SPost)
open Go.Proofs.YtlmhdebjmkcanaaDoor.sha (GV)
set_option linter.unusedVariables false

/-- these cells do not lie in that block, or there are none -/
def Away (a : Option Addr) (g : Nat) (xs : List Value) : Prop := xs = [] ∨ ∀ b o s, a = some ⟨b, o, s⟩ → b ≠ g
theorem rd_away {w w' : World} {a : Option Addr} {g : Nat} {xs : List Value} (h : Rd w a xs) (hg : w.grownBy w' (some g)) (ha : Away a g xs) : Rd w' a xs := by
  rcases ha with rfl | ha
  · exact Rd.nil _ _
  · exact h.block (fun b o e hb => hg.block b hb (fun e2 => ha b o none e (by simpa using e2)))
theorem away_new {w : World} {a : Option Addr} {g : Nat} {xs : List Value} (h : Rd w a xs) (hg : w.heap.size ≤ g) : Away a g xs := by
  cases xs with
  | nil => exact .inl rfl
  | cons z l =>
    refine .inr (fun b o s e => ?_)
    obtain ⟨b', o', e1, e2⟩ := h 0 z rfl
    rw [e] at e1
    simp at e1
    obtain ⟨rfl, rfl, _⟩ := e1
    have := World.block_lt_of_cell? w _ e2
    simp at this
    omega
/-- what stays while the law goes on -/
structure Sq (W : World) (T : TypeId) (xs : List Value) (a5 a6 : Option Addr) (zs : List Value) (wx : World) : Prop where
  below : Below W.heap.size W wx
  r5 : Rd wx a5 xs
  o6 : OwnV T wx a6 zs
theorem Sq.next {W wx w' : World} {T : TypeId} {xs zs : List Value} {a5 a6 : Option Addr} (h : Sq W T xs a5 a6 zs wx) (hb : Below wx.heap.size wx w') : Sq W T xs a5 a6 zs w' :=
  ⟨h.below.trans (hb.mono h.below.size), h.r5.below hb, h.o6.below hb⟩
theorem Sq.marked {W wx w' : World} {T : TypeId} {xs zs zs' : List Value} {a5 a6 : Option Addr} (h : Sq W T xs a5 a6 zs wx) (hg : wx.grownBy w' (a6.map (·.block))) (ho : OwnV T w' a6 zs') (hne : ∀ b o s, a6 = some ⟨b, o, s⟩ → W.heap.size ≤ b ∧ Away a5 b xs) : Sq W T xs a5 a6 zs' w' := by
  cases a6 with
  | none =>
    have hb : Below wx.heap.size wx w' := ⟨hg.os, hg.tape, hg.output, hg.size, fun k hk => hg.block k hk (by simp)⟩
    exact ⟨h.below.trans (hb.mono h.below.size), h.r5.below hb, ho⟩
  | some ad =>
    obtain ⟨b, o, s⟩ := ad
    obtain ⟨e0, e1⟩ := hne b o s rfl
    have hg' : wx.grownBy w' (some b) := hg
    exact ⟨h.below.grown hg' h.below.size (fun k hk => by simp at hk; omega), rd_away h.r5 hg' e1, ho⟩

end Go.Proofs.YtlmhdebjmkcanaaDoor.pack
