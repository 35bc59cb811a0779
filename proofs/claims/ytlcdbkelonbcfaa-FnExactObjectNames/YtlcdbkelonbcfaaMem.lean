/-
  What holds in memory while a law goes on: variables (blocks that stay), rows that can be read, rows of our own that may be written; all apart from each other. No condition.
-/
import Derived.Test.YtlcdbkelonbcfaaCells
namespace Go.Proofs.Ytlcdbkelonbcfaa.mem
open Go.RowKit Go.Joins
open Go.Proofs.Ytlcdbkelonbcfaa.base Go.Proofs.Ytlcdbkelonbcfaa.blk Go.Proofs.Ytlcdbkelonbcfaa.aid
open Go.Proofs.Ytlcdbkelonbcfaa.row (Rd Own OwnV)
set_option linter.unusedVariables false

/-- a row does not lie in this block (or it is empty) -/
def Off (a : Option Addr) (xs : List Value) (b : Nat) : Prop := xs = [] ∨ ∀ o s, a ≠ some ⟨b, o, s⟩
theorem rd_lt {w : World} {a : Option Addr} {xs : List Value} (h : Rd w a xs) (hx : xs ≠ []) : ∀ b o s, a = some ⟨b, o, s⟩ → b < w.heap.size := by
  intro b o s e
  cases xs with
  | nil => exact absurd rfl hx
  | cons u r =>
    obtain ⟨b', off, e', hc⟩ := h 0 u rfl
    rw [e] at e'
    simp at e'
    obtain ⟨rfl, rfl, rfl⟩ := e'
    exact World.block_lt_of_cell? w _ hc
theorem own_lt {T : TypeId} {w : World} {a : Option Addr} {xs : List Value} (h : OwnV T w a xs) (hx : xs ≠ []) : ∀ b o s, a = some ⟨b, o, s⟩ → b < w.heap.size := rd_lt h.rd hx
theorem rd_off {w w' : World} {a : Option Addr} {xs : List Value} {r : Option Nat} (h : Rd w a xs) (hg : w.grownBy w' r) (hr : ∀ b, r = some b → Off a xs b) : Rd w' a xs := by
  by_cases hx : xs = []
  · subst hx; exact Rd.nil _ _
  · refine h.block (fun b off e hl => hg.block b hl (fun e2 => ?_))
    rcases hr b e2.symm with h0 | h0
    · exact hx h0
    · exact h0 off none e
theorem own_off {T : TypeId} {w w' : World} {a : Option Addr} {xs : List Value} {r : Option Nat} (h : OwnV T w a xs) (hg : w.grownBy w' r) (hr : ∀ b, r = some b → Off a xs b) : OwnV T w' a xs := by
  rcases h with h | ⟨g, rfl, ho⟩
  · exact .inl h
  · by_cases hx : xs = []
    · exact .inl hx
    · refine .inr ⟨g, rfl, ho.block (hg.block g ho.lt (fun e2 => ?_))⟩
      rcases hr g e2.symm with h0 | h0
      · exact hx h0
      · exact h0 0 none rfl

/-- a row of our own: its type, its place, its cells -/
structure Mine where
  t : TypeId
  a : Option Addr
  xs : List Value
/-- what holds -/
structure Mem (W : World) (bs : List (Nat × Obj)) (rs : List (Option Addr × List Value)) (os : List Mine) (wx : World) : Prop where
  below : Below W.heap.size W wx
  b : ∀ p ∈ bs, wx.heap[p.1]? = some p.2
  r : ∀ p ∈ rs, Rd wx p.1 p.2
  o : ∀ p ∈ os, OwnV p.t wx p.a p.xs
  new : ∀ p ∈ os, p.xs ≠ [] → ∀ g o s, p.a = some ⟨g, o, s⟩ → W.heap.size ≤ g ∧ (∀ q ∈ bs, q.1 ≠ g) ∧ (∀ q ∈ rs, Off q.1 q.2 g)
  apart : os.Pairwise (fun p q => p.xs ≠ [] → ∀ g o s, p.a = some ⟨g, o, s⟩ → Off q.a q.xs g)
theorem start (W : World) : Mem W [] [] [] W := ⟨Below.refl _ _, by simp, by simp, by simp, by simp, .nil⟩
theorem startR {W : World} {a : Option Addr} {xs : List Value} (h : Rd W a xs) : Mem W [] [(a, xs)] [] W := ⟨Below.refl _ _, by simp, by simpa using h, by simp, by simp, .nil⟩
theorem startR2 {W : World} {a b : Option Addr} {xs ys : List Value} (h : Rd W a xs) (h2 : Rd W b ys) : Mem W [] [(a, xs), (b, ys)] [] W := by
  refine ⟨Below.refl _ _, by simp, ?_, by simp, by simp, .nil⟩
  intro p hp
  rcases List.mem_cons.1 hp with rfl | hp
  · exact h
  · rcases List.mem_cons.1 hp with rfl | hp
    · exact h2
    · cases hp
variable {W wx w' : World} {bs : List (Nat × Obj)} {rs : List (Option Addr × List Value)} {os : List Mine}
theorem Mem.next (h : Mem W bs rs os wx) (hb : Below wx.heap.size wx w') : Mem W bs rs os w' :=
  ⟨h.below.trans (hb.mono h.below.size), fun p hp => blk_below (h.b p hp) hb, fun p hp => (h.r p hp).below hb, fun p hp => (h.o p hp).below hb, h.new, h.apart⟩
theorem Mem.drew (h : Mem W bs rs os wx) : Mem W bs rs os wx.drew := h.next ⟨rfl, rfl, rfl, Nat.le_refl _, fun _ _ => rfl⟩
theorem Mem.alloc (h : Mem W bs rs os wx) (o : Obj) : Mem W bs rs os (wx.alloc o) := h.next (below_alloc1 wx o)
/-- a new variable -/
theorem Mem.var (h : Mem W bs rs os wx) (o : Obj) : Mem W ((wx.heap.size, o) :: bs) rs os (wx.alloc o) := by
  have h1 := h.alloc o
  refine ⟨h1.below, ?_, h1.r, h1.o, ?_, h1.apart⟩
  · intro p hp
    rcases List.mem_cons.1 hp with rfl | hp
    · exact blk_new wx o _ rfl
    · exact h1.b p hp
  · intro p hp hx g o' s e
    obtain ⟨n1, n2, n3⟩ := h.new p hp hx g o' s e
    refine ⟨n1, ?_, n3⟩
    intro q hq
    rcases List.mem_cons.1 hq with rfl | hq
    · have := own_lt (h.o p hp) hx g o' s e
      simp only
      omega
    · exact n2 q hq
/-- a new row that can be read -/
theorem Mem.row (h : Mem W bs rs os wx) (hb : Below wx.heap.size wx w') {a : Option Addr} {xs : List Value} (hr : Rd w' a xs) (hn : ∀ b o s, a = some ⟨b, o, s⟩ → wx.heap.size ≤ b) : Mem W bs ((a, xs) :: rs) os w' := by
  have h1 := h.next hb
  refine ⟨h1.below, h1.b, ?_, h1.o, ?_, h1.apart⟩
  · intro p hp
    rcases List.mem_cons.1 hp with rfl | hp
    · exact hr
    · exact h1.r p hp
  · intro p hp hx g o' s e
    obtain ⟨n1, n2, n3⟩ := h.new p hp hx g o' s e
    refine ⟨n1, n2, ?_⟩
    intro q hq
    rcases List.mem_cons.1 hq with rfl | hq
    · refine .inr (fun o2 s2 e2 => ?_)
      have := own_lt (h.o p hp) hx g o' s e
      have := hn g o2 s2 e2
      omega
    · exact n3 q hq
/-- a new row of our own -/
theorem Mem.own (h : Mem W bs rs os wx) (hb : Below wx.heap.size wx w') {t : TypeId} {a : Option Addr} {xs : List Value} (ho : OwnV t w' a xs) (hn : ∀ b o s, a = some ⟨b, o, s⟩ → wx.heap.size ≤ b) : Mem W bs rs (⟨t, a, xs⟩ :: os) w' := by
  have h1 := h.next hb
  refine ⟨h1.below, h1.b, h1.r, ?_, ?_, ?_⟩
  · intro p hp
    rcases List.mem_cons.1 hp with rfl | hp
    · exact ho
    · exact h1.o p hp
  · intro p hp hx g o' s e
    rcases List.mem_cons.1 hp with rfl | hp
    · have hg := hn g o' s e
      refine ⟨Nat.le_trans h.below.size hg, fun q hq e2 => ?_, fun q hq => ?_⟩
      · have := (Array.getElem?_eq_some_iff.1 (h.b q hq)).1
        omega
      · by_cases hq0 : q.2 = []
        · exact .inl hq0
        · refine .inr (fun o2 s2 e2 => ?_)
          have := rd_lt (h.r q hq) hq0 g o2 s2 e2
          omega
    · exact h.new p hp hx g o' s e
  · refine List.pairwise_cons.2 ⟨?_, h.apart⟩
    intro q hq hx g o' s e
    by_cases hq0 : q.xs = []
    · exact .inl hq0
    · refine .inr (fun o2 s2 e2 => ?_)
      have := own_lt (h.o q hq) hq0 g o2 s2 e2
      have := hn g o' s e
      omega
theorem off_sym {p q : Mine} (h : p.xs ≠ [] → ∀ g o s, p.a = some ⟨g, o, s⟩ → Off q.a q.xs g) : q.xs ≠ [] → ∀ g o s, q.a = some ⟨g, o, s⟩ → Off p.a p.xs g := by
  intro hq g o s e
  by_cases hp : p.xs = []
  · exact .inl hp
  · refine .inr (fun o2 s2 e2 => ?_)
    rcases h hp g o2 s2 e2 with h0 | h0
    · exact hq h0
    · exact h0 o s e
/-- the first row of our own is written -/
theorem Mem.mark {t : TypeId} {a : Option Addr} {xs xs' : List Value} {r : Option Nat} (h : Mem W bs rs (⟨t, a, xs⟩ :: os) wx) (hg : wx.grownBy w' r) (hr : ∀ b, r = some b → xs ≠ [] ∧ ∃ o s, a = some ⟨b, o, s⟩) (ho : OwnV t w' a xs') (hx : xs' ≠ [] → xs ≠ []) : Mem W bs rs (⟨t, a, xs'⟩ :: os) w' := by
  have hap := List.pairwise_cons.1 h.apart
  have hN : ∀ b, r = some b → W.heap.size ≤ b ∧ (∀ q ∈ bs, q.1 ≠ b) ∧ (∀ q ∈ rs, Off q.1 q.2 b) ∧ ∀ q ∈ os, Off q.a q.xs b := by
    intro b e
    obtain ⟨e1, o, s, e2⟩ := hr b e
    obtain ⟨n1, n2, n3⟩ := h.new ⟨t, a, xs⟩ (.head _) e1 b o s e2
    exact ⟨n1, n2, n3, fun q hq => hap.1 q hq e1 b o s e2⟩
  refine ⟨h.below.grown hg h.below.size (fun k hk => (hN k hk).1), ?_, ?_, ?_, ?_, ?_⟩
  · intro p hp
    exact (hg.block p.1 (Array.getElem?_eq_some_iff.1 (h.b p hp)).1 (fun e => (hN p.1 e.symm).2.1 p hp rfl)).trans (h.b p hp)
  · intro p hp
    exact rd_off (h.r p hp) hg (fun b e => (hN b e).2.2.1 p hp)
  · intro p hp
    rcases List.mem_cons.1 hp with rfl | hp
    · exact ho
    · exact own_off (h.o p (.tail _ hp)) hg (fun b e => (hN b e).2.2.2 p hp)
  · intro p hp hx' g o s e
    rcases List.mem_cons.1 hp with rfl | hp
    · exact h.new ⟨t, a, xs⟩ (.head _) (hx hx') g o s e
    · exact h.new p (.tail _ hp) hx' g o s e
  · refine List.pairwise_cons.2 ⟨?_, hap.2⟩
    intro q hq hx' g o s e
    exact hap.1 q hq (hx hx') g o s e
theorem Mem.swap {p q : Mine} (h : Mem W bs rs (p :: q :: os) wx) : Mem W bs rs (q :: p :: os) wx := by
  have h1 := List.pairwise_cons.1 h.apart
  have h2 := List.pairwise_cons.1 h1.2
  have hs : ∀ x, x ∈ q :: p :: os → x ∈ p :: q :: os := by
    intro x hx
    rcases List.mem_cons.1 hx with rfl | hx
    · exact .tail _ (.head _)
    · rcases List.mem_cons.1 hx with rfl | hx
      · exact .head _
      · exact .tail _ (.tail _ hx)
  refine ⟨h.below, h.b, h.r, fun x hx => h.o x (hs x hx), fun x hx => h.new x (hs x hx), ?_⟩
  refine List.pairwise_cons.2 ⟨?_, List.pairwise_cons.2 ⟨fun x hx => h1.1 x (.tail _ hx), h2.2⟩⟩
  intro x hx
  rcases List.mem_cons.1 hx with rfl | hx
  · exact off_sym (h1.1 q (.head _))
  · exact h2.1 x hx
/-- the third row of our own comes first -/
theorem Mem.third {p q s : Mine} (h : Mem W bs rs (p :: q :: s :: os) wx) : Mem W bs rs (s :: p :: q :: os) wx := by
  have h1 := List.pairwise_cons.1 h.apart
  have h2 := List.pairwise_cons.1 h1.2
  have h3 := List.pairwise_cons.1 h2.2
  have hs : ∀ x, x ∈ s :: p :: q :: os → x ∈ p :: q :: s :: os := by
    intro x hx
    rcases List.mem_cons.1 hx with rfl | hx
    · exact .tail _ (.tail _ (.head _))
    · rcases List.mem_cons.1 hx with rfl | hx
      · exact .head _
      · rcases List.mem_cons.1 hx with rfl | hx
        · exact .tail _ (.head _)
        · exact .tail _ (.tail _ (.tail _ hx))
  refine ⟨h.below, h.b, h.r, fun x hx => h.o x (hs x hx), fun x hx => h.new x (hs x hx), ?_⟩
  refine List.pairwise_cons.2 ⟨?_, List.pairwise_cons.2 ⟨?_, List.pairwise_cons.2 ⟨fun x hx => h2.1 x (.tail _ hx), h3.2⟩⟩⟩
  · intro x hx
    rcases List.mem_cons.1 hx with rfl | hx
    · exact off_sym (h1.1 s (.tail _ (.head _)))
    · rcases List.mem_cons.1 hx with rfl | hx
      · exact off_sym (h2.1 s (.head _))
      · exact h3.1 x hx
  · intro x hx
    rcases List.mem_cons.1 hx with rfl | hx
    · exact h1.1 x (.head _)
    · exact h1.1 x (.tail _ (.tail _ hx))
theorem Mem.b0 {z : Nat} {o : Obj} (h : Mem W ((z, o) :: bs) rs os wx) : wx.heap[z]? = some o := h.b (z, o) (.head _)
theorem Mem.b1 {z : Nat} {o : Obj} {p : Nat × Obj} (h : Mem W (p :: (z, o) :: bs) rs os wx) : wx.heap[z]? = some o := h.b (z, o) (.tail _ (.head _))
theorem Mem.b2 {z : Nat} {o : Obj} {p q : Nat × Obj} (h : Mem W (p :: q :: (z, o) :: bs) rs os wx) : wx.heap[z]? = some o := h.b (z, o) (.tail _ (.tail _ (.head _)))
theorem Mem.b3 {z : Nat} {o : Obj} {p q s : Nat × Obj} (h : Mem W (p :: q :: s :: (z, o) :: bs) rs os wx) : wx.heap[z]? = some o := h.b (z, o) (.tail _ (.tail _ (.tail _ (.head _))))
theorem Mem.b4 {z : Nat} {o : Obj} {p q s t : Nat × Obj} (h : Mem W (p :: q :: s :: t :: (z, o) :: bs) rs os wx) : wx.heap[z]? = some o := h.b (z, o) (.tail _ (.tail _ (.tail _ (.tail _ (.head _)))))
theorem Mem.r0 {a : Option Addr} {xs : List Value} (h : Mem W bs ((a, xs) :: rs) os wx) : Rd wx a xs := h.r (a, xs) (.head _)
theorem Mem.r1 {a : Option Addr} {xs : List Value} {p : Option Addr × List Value} (h : Mem W bs (p :: (a, xs) :: rs) os wx) : Rd wx a xs := h.r (a, xs) (.tail _ (.head _))
theorem Mem.r2 {a : Option Addr} {xs : List Value} {p q : Option Addr × List Value} (h : Mem W bs (p :: q :: (a, xs) :: rs) os wx) : Rd wx a xs := h.r (a, xs) (.tail _ (.tail _ (.head _)))
theorem Mem.r3 {a : Option Addr} {xs : List Value} {p q s : Option Addr × List Value} (h : Mem W bs (p :: q :: s :: (a, xs) :: rs) os wx) : Rd wx a xs := h.r (a, xs) (.tail _ (.tail _ (.tail _ (.head _))))
theorem Mem.o0 {t : TypeId} {a : Option Addr} {xs : List Value} (h : Mem W bs rs (⟨t, a, xs⟩ :: os) wx) : OwnV t wx a xs := h.o ⟨t, a, xs⟩ (.head _)
theorem Mem.o1 {t : TypeId} {a : Option Addr} {xs : List Value} {p : Mine} (h : Mem W bs rs (p :: ⟨t, a, xs⟩ :: os) wx) : OwnV t wx a xs := h.o ⟨t, a, xs⟩ (.tail _ (.head _))
theorem Mem.o2 {t : TypeId} {a : Option Addr} {xs : List Value} {p q : Mine} (h : Mem W bs rs (p :: q :: ⟨t, a, xs⟩ :: os) wx) : OwnV t wx a xs := h.o ⟨t, a, xs⟩ (.tail _ (.tail _ (.head _)))
theorem Mem.o3 {t : TypeId} {a : Option Addr} {xs : List Value} {p q s : Mine} (h : Mem W bs rs (p :: q :: s :: ⟨t, a, xs⟩ :: os) wx) : OwnV t wx a xs := h.o ⟨t, a, xs⟩ (.tail _ (.tail _ (.tail _ (.head _))))
theorem Mem.b5 {z : Nat} {o : Obj} {p q s t u : Nat × Obj} (h : Mem W (p :: q :: s :: t :: u :: (z, o) :: bs) rs os wx) : wx.heap[z]? = some o := h.b (z, o) (.tail _ (.tail _ (.tail _ (.tail _ (.tail _ (.head _))))))
theorem Mem.r4 {a : Option Addr} {xs : List Value} {p q s t : Option Addr × List Value} (h : Mem W bs (p :: q :: s :: t :: (a, xs) :: rs) os wx) : Rd wx a xs := h.r (a, xs) (.tail _ (.tail _ (.tail _ (.tail _ (.head _)))))
/-- rows that are not needed any more -/
theorem Mem.lessR {p : Option Addr × List Value} (h : Mem W bs (p :: rs) os wx) : Mem W bs rs os wx :=
  ⟨h.below, h.b, fun x hx => h.r x (.tail _ hx), h.o, fun x hx hn g o s e => ⟨(h.new x hx hn g o s e).1, (h.new x hx hn g o s e).2.1, fun q hq => (h.new x hx hn g o s e).2.2 q (.tail _ hq)⟩, h.apart⟩
theorem Mem.lessO {p : Mine} (h : Mem W bs rs (p :: os) wx) : Mem W bs rs os wx :=
  ⟨h.below, h.b, h.r, fun x hx => h.o x (.tail _ hx), fun x hx => h.new x (.tail _ hx), (List.pairwise_cons.1 h.apart).2⟩
/-- a world that differs by draws alone -/
theorem Mem.same {wy : World} (h : Mem W bs rs os wx) (h1 : wy.os = wx.os) (h2 : wy.tape = wx.tape) (h3 : wy.output = wx.output) (h4 : wy.heap = wx.heap) : Mem W bs rs os wy :=
  h.next ⟨h1, h2, h3, by rw [h4]; exact Nat.le_refl _, fun k hk => by rw [h4]⟩
/-- a row that may grow, as a row of our own -/
theorem own_of {T base size n : Nat} {w : World} {v : Value} {xs : List Value} (h : w.ownsRow base T size v n xs) : ∃ a c, v = .slice a n c ∧ OwnV T w a xs ∧ ∀ b o s, a = some ⟨b, o, s⟩ → base ≤ b := by
  have h' := h
  obtain ⟨h1, h2⟩ := h
  rcases h2 with ⟨rfl, rfl⟩ | ⟨g, cap, cur, rfl, hB, hg, _, _, _, ht⟩
  · exact ⟨none, 0, rfl, .inl (List.eq_nil_of_length_eq_zero (by omega)), fun b o s e => by simp at e⟩
  · exact ⟨_, _, rfl, .inr ⟨g, rfl, Own.owns h'⟩, fun b o s e => by simp at e; omega⟩
end Go.Proofs.Ytlcdbkelonbcfaa.mem
