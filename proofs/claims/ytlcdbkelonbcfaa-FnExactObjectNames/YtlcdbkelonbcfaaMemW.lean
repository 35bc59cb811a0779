/-
  What holds in memory while a function goes on, when one of its variables is written. No condition.
-/
import Derived.Test.YtlcdbkelonbcfaaMem
namespace Go.Proofs.Ytlcdbkelonbcfaa.mem
open Go.RowKit Go.Joins
open Go.Proofs.Ytlcdbkelonbcfaa.base Go.Proofs.Ytlcdbkelonbcfaa.blk Go.Proofs.Ytlcdbkelonbcfaa.aid
open Go.Proofs.Ytlcdbkelonbcfaa.row (Rd Own OwnV)
set_option linter.unusedVariables false
variable {W wx w' : World} {bs : List (Nat × Obj)} {rs : List (Option Addr × List Value)} {os : List Mine}

/-- fewer variables, in another order -/
theorem Mem.pick {bs' : List (Nat × Obj)} (h : Mem W bs rs os wx) (hb : ∀ p ∈ bs', p ∈ bs) : Mem W bs' rs os wx :=
  ⟨h.below, fun p hp => h.b p (hb p hp), h.r, h.o, fun p hp hx g o s e => ⟨(h.new p hp hx g o s e).1, fun q hq => (h.new p hp hx g o s e).2.1 q (hb q hq), (h.new p hp hx g o s e).2.2⟩, h.apart⟩
/-- the first variable is written -/
theorem Mem.wr {z : Nat} {t : TypeId} {xs : Array Value} (h : Mem W ((z, .cells xs t) :: bs) rs os wx) (i : Nat) (v : Value) (hz : W.heap.size ≤ z) (hd : ∀ p ∈ bs, p.1 ≠ z) (hr : ∀ p ∈ rs, Off p.1 p.2 z) : Mem W ((z, .cells (xs.setIfInBounds i v) t) :: bs) rs os (wx.setCell ⟨z, i, none⟩ v) := by
  have hg := grew_cell wx z i v
  refine ⟨h.below.setCell (p := ⟨z, i, none⟩) hz v, ?_, ?_, ?_, ?_, h.apart⟩
  · intro p hp
    rcases List.mem_cons.1 hp with rfl | hp
    · exact heap_setCell_same wx z i xs t v h.b0
    · exact blk_set (h.b p (.tail _ hp)) ⟨z, i, none⟩ v (hd p hp)
  · intro p hp
    exact rd_off (h.r p hp) hg (fun b e => by cases e; exact hr p hp)
  · intro p hp
    refine own_off (h.o p hp) hg (fun b e => ?_)
    cases e
    by_cases hx : p.xs = []
    · exact .inl hx
    · refine .inr (fun o s e => ?_)
      exact ((h.new p hp hx z o s e).2.1 (z, .cells xs t) (.head _)) rfl
  · intro p hp hx g o s e
    obtain ⟨n1, n2, n3⟩ := h.new p hp hx g o s e
    refine ⟨n1, ?_, n3⟩
    intro q hq
    rcases List.mem_cons.1 hq with rfl | hq
    · exact n2 (z, .cells xs t) (.head _)
    · exact n2 q (.tail _ hq)
/-- rows that could be read at the start lie elsewhere -/
theorem old_off {a : Option Addr} {xs : List Value} {z : Nat} (h : Rd W a xs) (hz : W.heap.size ≤ z) : Off a xs z := by
  by_cases hx : xs = []
  · exact .inl hx
  · refine .inr (fun o s e => ?_)
    have := rd_lt h hx z o s e
    omega
/-- a new place is no variable's -/
theorem Mem.fresh (h : Mem W bs rs os wx) : ∀ p ∈ bs, p.1 ≠ wx.heap.size := fun p hp e => by
  have := (Array.getElem?_eq_some_iff.1 (h.b p hp)).1
  omega
/-- no row that can be read lies in a new place -/
theorem Mem.freshR (h : Mem W bs rs os wx) : ∀ p ∈ rs, Off p.1 p.2 wx.heap.size := fun p hp => by
  by_cases hx : p.2 = []
  · exact .inl hx
  · refine .inr (fun o s e => ?_)
    have := rd_lt (h.r p hp) hx _ o s e
    omega
/-- the first variable is written, all of its three cells -/
theorem Mem.wr3 {z : Nat} {t : TypeId} {a b c : Value} (h : Mem W ((z, .cells #[a, b, c] t) :: bs) rs os wx) (x y u : Value) (hz : W.heap.size ≤ z) (hd : ∀ p ∈ bs, p.1 ≠ z) (hr : ∀ p ∈ rs, Off p.1 p.2 z) : Mem W ((z, .cells #[x, y, u] t) :: bs) rs os (((wx.setCell ⟨z, 0, none⟩ x).setCell ⟨z, 1, none⟩ y).setCell ⟨z, 2, none⟩ u) := by
  have h1 := ((h.wr 0 x hz hd hr).wr 1 y hz hd hr).wr 2 u hz hd hr
  simpa using h1
/-- a row of our own is read from now on -/
theorem Mem.ownRow {t : TypeId} {a : Option Addr} {xs : List Value} (h : Mem W bs rs (⟨t, a, xs⟩ :: os) wx) : Mem W bs ((a, xs) :: rs) os wx := by
  have hap := List.pairwise_cons.1 h.apart
  refine ⟨h.below, h.b, ?_, fun p hp => h.o p (.tail _ hp), ?_, hap.2⟩
  · intro p hp
    rcases List.mem_cons.1 hp with rfl | hp
    · exact h.o0.rd
    · exact h.r p hp
  · intro p hp hx g o s e
    obtain ⟨n1, n2, n3⟩ := h.new p (.tail _ hp) hx g o s e
    refine ⟨n1, n2, ?_⟩
    intro q hq
    rcases List.mem_cons.1 hq with rfl | hq
    · exact off_sym (hap.1 p hp) hx g o s e
    · exact n3 q hq
end Go.Proofs.Ytlcdbkelonbcfaa.mem
