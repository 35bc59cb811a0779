/-
  What spec.l05More answers and leaves. Conditions: a state of eight numbers, which lie in memory; at most 2,000,000 bytes in all; a size of at most 2^41.
  The bytes behind a text and the digest, plain; append of bytes. No condition.
  What spec.l05End answers and leaves. Conditions: a state of eight numbers, which lie in memory; at most 64 bytes behind it; a size of 0 to 2^40.
  What spec.HashBegin, HashMore, HashEnd and Digest answer and leave. Conditions: at most 1,048,576 numbers, which lie in memory; at most 1,048,576 bytes.
  laws.FnExactHex answers true at every text.
  What spec.Digest and spec.Short answer and leave. Conditions: at most 1,048,576 bytes.
-/
import Derived.Test.YtmoojhnblakdhaaGreatZShaA
import Derived.Test.YtmoojhnblakdhaaGreatRows
import Derived.Test.YtmoojhnblakdhaaGreatBase
import Derived.Deep.RegionWith
import Derived.Laws.DeepStrings4
namespace Go.Proofs.YtmoojhnblakdhaaGreat.sha
open Go.RowKit Go.Joins
open Go.Proofs.YtmoojhnblakdhaaGreat.base Go.Proofs.YtmoojhnblakdhaaGreat.word Go.Proofs.YtmoojhnblakdhaaGreat.ints Go.Proofs.YtmoojhnblakdhaaGreat.blk
set_option linter.unusedVariables false
attribute [local go_sem ↓] app_fold

/-- the state behind so many blocks of a text -/
def after (z : Nat → Int) (s : ByteArray) : Nat → (Nat → Int)
  | 0 => z
  | j + 1 => block (after z s j) (wordAt (s.extract (64 * j) (64 * j + 64)))
/-- what stands behind the whole blocks of a text -/
def rest (s : ByteArray) : ByteArray := s.extract (64 * (s.size / 64)) s.size
def HPost (w : World) (f : Nat → Int) (r : ByteArray) (size : Int) (e : Ending) (w' : World) : Prop :=
  ∃ g c, e = .returned (hash (some ⟨g, 0, none⟩) 8 c r size) ∧ w.heap.size ≤ g ∧ (∀ i, i < 8 → w'.cell? ⟨g, i, none⟩ = some (.int .i64 (f i))) ∧ Below w.heap.size w w'

/-- the variable that is built up -/
structure Mo (w : World) (p g c : Nat) (f : Nat → Int) (s : ByteArray) (sz : Int) (wr : World) : Prop where
  below : Below w.heap.size w wr
  res : wr.heap[w.heap.size + 1]? = some zeroH
  out : wr.heap[p]? = some (.cells #[.slice (some ⟨g, 0, none⟩) 8 c, .string s, .int .i64 sz] 88)
  cells : ∀ i, i < 8 → wr.cell? ⟨g, i, none⟩ = some (.int .i64 (f i))
  hp : w.heap.size + 1 < p
  hg : w.heap.size + 1 < g
  ne : g ≠ p

theorem Mo.next {w wr w1 : World} {p g c g' c' : Nat} {f f' : Nat → Int} {s : ByteArray} {sz : Int} (h : Mo w p g c f s sz wr) (hb : Below wr.heap.size wr w1) (hg' : wr.heap.size ≤ g') (hc : ∀ i, i < 8 → w1.cell? ⟨g', i, none⟩ = some (.int .i64 (f' i))) :
    Mo w p g' c' f' s sz (w1.setCell ⟨p, 0, none⟩ (.slice (some ⟨g', 0, none⟩) 8 c')) := by
  have hp : p < wr.heap.size := (Array.getElem?_eq_some_iff.1 h.out).1
  have hpp := h.hp
  refine ⟨((h.below.trans (hb.mono h.below.size)).setCell (by simp; omega) _), blk_set (blk_below h.res hb) _ _ (by simp; omega), ?_, fun i hi => ?_, h.hp, by omega, by omega⟩
  · rw [block_setCell (blk_below h.out hb)]
    simp
  · rw [World.cell?_setCell_other w1 _ _ _ (fun e => by injection e; omega)]
    exact hc i hi

theorem grown_blk {W w2 : World} {r : Option Nat} {j : Nat} {x : Obj} (h : W.heap[j]? = some x) (hg : W.grownBy w2 r) (hne : some j ≠ r) : w2.heap[j]? = some x :=
  (hg.block j (Array.getElem?_eq_some_iff.1 h).1 hne).trans h
theorem grown_below {B j : Nat} {w W w2 : World} (hB : Below B w W) (hs : B ≤ W.heap.size) (hg : W.grownBy w2 (some j)) (hj : B ≤ j) : Below B w w2 :=
  hB.grown hg hs (fun k hk => by injection hk; omega)

/-- append of the eight numbers to an empty row of our own -/
theorem app8 (b0 off cap : Nat) (z : Nat → Int) (W : World) (base : Nat) (v : Value) (hown : W.ownsRow base 2 1 v 0 []) (hb : base ≤ W.heap.size) (hr : ∀ i, i < 8 → W.cell? ⟨b0, off + i, none⟩ = some (.int .i64 (z i))) :
    ∃ g c w2, (appSem #[84, 84] 84 #[v, .slice (some ⟨b0, off, none⟩) 8 cap]).run Tryz.prog W.drew = .ok (.slice (some ⟨g, 0, none⟩) 8 c) w2 ∧ base ≤ g ∧ g < w2.heap.size ∧ (∀ i, i < 8 → w2.cell? ⟨g, i, none⟩ = some (.int .i64 (z i))) ∧ W.grownBy w2 v.ownBlock := by
  obtain ⟨i0, hi, hz0, hz1, hz2⟩ := info_parts info2
  obtain ⟨v', w2, happ0, hown2, hgrow, _⟩ := run_append_own (P := Tryz.prog) W.drew base 84 84 2 i0 (.int .i64 0) 1 8 Tryz.underlying84 hi hz0 hz1 hz2 rfl (by decide) v 0 [] hown ⟨b0, off, none⟩ 8 cap ((List.range 8).map fun i => Value.int .i64 (z i)) (by simp) (by
      intro j u hj
      rw [List.getElem?_map] at hj
      by_cases h8 : j < 8
      · rw [List.getElem?_range h8] at hj
        simp at hj
        subst hj
        rw [Addr.add_lit]
        exact hr j h8
      · rw [List.getElem?_eq_none (by simp; omega)] at hj
        simp at hj) (by intro u hu; rw [List.mem_map] at hu; obtain ⟨j, _, rfl⟩ := hu; rfl) (by decide) (by decide) hb
  obtain ⟨g, c, rfl⟩ := ownsRow_form hown2 (by omega)
  refine ⟨g, c, w2, happ0, (hown2.lt g rfl).1, (hown2.lt g rfl).2, fun i hi => ?_, ⟨hgrow.os, hgrow.tape, hgrow.output, hgrow.size, hgrow.block⟩⟩
  have := hown2.cells rfl i (.int .i64 (z i)) (by simp [hi])
  rw [Addr.add_lit, Nat.zero_add] at this
  exact this

theorem Mo.store {w w2 : World} {p g c : Nat} {z : Nat → Int} {s : ByteArray} {sz : Int} (hL : Below w.heap.size w w2) (hy : w2.heap[w.heap.size + 1]? = some zeroH) (hn : w2.heap[p]? = some zeroH) (hc : ∀ i, i < 8 → w2.cell? ⟨g, i, none⟩ = some (.int .i64 (z i))) (hp : w.heap.size + 1 < p) (hg : w.heap.size + 1 < g) :
    Mo w p g c z s sz (((w2.setCell ⟨p, 0, none⟩ (.slice (some ⟨g, 0, none⟩) 8 c)).setCell ⟨p, 1, none⟩ (.string s)).setCell ⟨p, 2, none⟩ (.int .i64 sz)) := by
  have ne : g ≠ p := by
    intro e
    have h0 := hc 0 (by omega)
    rw [e, cell_of_block hn] at h0
    simp at h0
  refine ⟨((hL.setCell (by simp; omega) _).setCell (by simp; omega) _).setCell (by simp; omega) _, blk_set (blk_set (blk_set hy _ _ (by simp; omega)) _ _ (by simp; omega)) _ _ (by simp; omega), ?_, fun i hi => ?_, hp, hg, ne⟩
  · rw [block_setCell (block_setCell (block_setCell hn _) _)]
    simp
  · rw [World.cell?_setCell_other _ _ _ _ (fun e => by injection e; omega), World.cell?_setCell_other _ _ _ _ (fun e => by injection e; omega), World.cell?_setCell_other _ _ _ _ (fun e => by injection e; omega)]
    exact hc i hi
theorem Mo.made {w w1 : World} {g c : Nat} {z : Nat → Int} {s : ByteArray} {sz : Int} (hL : Below w.heap.size w w1) (hy : w1.heap[w.heap.size + 1]? = some zeroH) (hc : ∀ i, i < 8 → w1.cell? ⟨g, i, none⟩ = some (.int .i64 (z i))) (hg : w.heap.size + 1 < g) (hg1 : g < w1.heap.size) :
    Mo w w1.heap.size g c z s sz (w1.alloc (.cells #[.slice (some ⟨g, 0, none⟩) 8 c, .string s, .int .i64 sz] 88)) :=
  ⟨hL.alloc hL.size _, blk_old hy _, blk_new w1 _ _ rfl, fun i hi => by
    have B := (Below.refl w1.heap.size w1).alloc (Nat.le_refl _) (.cells #[.slice (some ⟨g, 0, none⟩) 8 c, .string s, .int .i64 sz] 88)
    rw [B.cell (p := ⟨g, i, none⟩) hg1]
    exact hc i hi, by omega, hg, by omega⟩

theorem Mo.done {w wr : World} {p g c : Nat} {f : Nat → Int} {s r : ByteArray} {sz : Int} (h : Mo w p g c f s sz wr) (x x0 x1 x2 : Value) :
    HPost w f r sz (.returned (hash (some ⟨g, 0, none⟩) 8 c r sz)) ((((wr.setCell ⟨p, 1, none⟩ x).setCell ⟨w.heap.size + 1, 0, none⟩ x0).setCell ⟨w.heap.size + 1, 1, none⟩ x1).setCell ⟨w.heap.size + 1, 2, none⟩ x2) := by
  have hg := h.hg
  have hp := h.hp
  have ne := h.ne
  refine ⟨g, c, rfl, by omega, fun i hi => ?_, (((h.below.setCell (by simp; omega) _).setCell (by simp) _).setCell (by simp) _).setCell (by simp) _⟩
  rw [World.cell?_setCell_other _ _ _ _ (fun e => by injection e; omega), World.cell?_setCell_other _ _ _ _ (fun e => by injection e; omega), World.cell?_setCell_other _ _ _ _ (fun e => by injection e; omega), World.cell?_setCell_other _ _ _ _ (fun e => by injection e; omega)]
  exact h.cells i hi

set_option maxRecDepth 100000 in
set_option maxHeartbeats 1000000 in
theorem more_s (b0 off cap : Nat) (z : Nat → Int) (r t s : ByteArray) (HH : Hid (s = r ++ t)) (size : Int) (w : World) (hs : r.size + t.size ≤ 2000000) (h0 : 0 ≤ size) (h1 : size ≤ 2199023255552) (hr : ∀ i, i < 8 → w.cell? ⟨b0, off + i, none⟩ = some (.int .i64 (z i))) :
    Calls Tryz.prog 49 #[hash (some ⟨b0, off, none⟩) 8 cap r size, .string t] w fun e w' => HPost w (after z s (s.size / 64)) (rest s) (size + t.size) e w' := by
  unfold hash
  go_enter Tryz.func49, Tryz.ntmps49
  go_wp2
  have k0 := blk_old (blk_new w (.cells #[.slice (some ⟨b0, off, none⟩) 8 cap, .string r, .int .i64 size] 88) w.heap.size rfl) zeroH
  have k1 := blk_new (w.alloc (.cells #[.slice (some ⟨b0, off, none⟩) 8 cap, .string r, .int .i64 size] 88)) zeroH (w.heap.size + 1) (by simp)
  have B := below_alloc2 w (.cells #[.slice (some ⟨b0, off, none⟩) 8 cap, .string r, .int .i64 size] 88) zeroH
  unfold zeroH at k0 k1 B
  generalize (w.alloc (.cells #[.slice (some ⟨b0, off, none⟩) 8 cap, .string r, .int .i64 size] 88)).alloc (.cells #[.slice none 0 0, .string ⟨#[]⟩, .int .i64 0] 88) = W at *
  have hW : w.heap.size + 1 < W.heap.size := (Array.getElem?_eq_some_iff.1 k1).1
  have hb0 : ∀ i, i < 8 → b0 < w.heap.size := fun i hi => World.block_lt_of_cell? w ⟨b0, off + i, none⟩ (hr i hi)
  have B1 := B.alloc B.size (.cells #[] 2)
  have B2 := B1.alloc B1.size zeroH
  have B3 := B.alloc B.size zeroH
  have B4 := B3.alloc B3.size (.cells #[] 2)
  obtain ⟨g1, c1, w1, a1, g1a, g1b, g1c, g1d⟩ := app8 b0 off cap z (W.alloc (.cells #[] 2)) W.heap.size (.slice (some ⟨W.heap.size, 0, none⟩) 0 0) (World.ownsRow_made W #[] 0 (Nat.le_refl _) (by decide) rfl) (by simp) (fun i hi => (B1.cell (p := ⟨b0, off + i, none⟩) (hb0 i hi)).trans (hr i hi))
  obtain ⟨g2, c2, w2, a2, g2a, g2b, g2c, g2d⟩ := app8 b0 off cap z ((W.alloc (.cells #[] 2)).alloc zeroH) W.heap.size (.slice (some ⟨W.heap.size, 0, none⟩) 0 0) ((World.ownsRow_made W #[] 0 (Nat.le_refl _) (by decide) rfl).alloc zeroH) (by simp; omega) (fun i hi => (B2.cell (p := ⟨b0, off + i, none⟩) (hb0 i hi)).trans (hr i hi))
  obtain ⟨g3, c3, w3, a3, g3a, g3b, g3c, g3d⟩ := app8 b0 off cap z ((W.alloc zeroH).alloc (.cells #[] 2)) (W.alloc zeroH).heap.size (.slice (some ⟨(W.alloc zeroH).heap.size, 0, none⟩) 0 0) (World.ownsRow_made (W.alloc zeroH) #[] 0 (Nat.le_refl _) (by decide) rfl) (by simp) (fun i hi => (B4.cell (p := ⟨b0, off + i, none⟩) (hb0 i hi)).trans (hr i hi))
  have e3 : (W.alloc zeroH).heap.size = W.heap.size + 1 := by simp
  rw [e3] at a3 g3a g3d
  replace g1d : (W.alloc (.cells #[] 2)).grownBy w1 (some W.heap.size) := g1d
  replace g2d : ((W.alloc (.cells #[] 2)).alloc zeroH).grownBy w2 (some W.heap.size) := g2d
  replace g3d : ((W.alloc zeroH).alloc (.cells #[] 2)).grownBy w3 (some (W.heap.size + 1)) := g3d
  have hne0 : ¬ w.heap.size = W.heap.size := by omega
  have hne1 : ¬ w.heap.size = W.heap.size + 1 := by omega
  -- the box, the answer's variable and the new variable in each world
  have x1 := grown_blk (blk_old k0 (.cells #[] 2)) g1d (fun e => by injection e; omega)
  have x2 := grown_blk (blk_old (blk_old k0 (.cells #[] 2)) zeroH) g2d (fun e => by injection e; omega)
  have x3 := grown_blk (blk_old (blk_old k0 zeroH) (.cells #[] 2)) g3d (fun e => by injection e; omega)
  have y1 := grown_blk (blk_old k1 (.cells #[] 2)) g1d (fun e => by injection e; omega)
  have y2 := grown_blk (blk_old (blk_old k1 (.cells #[] 2)) zeroH) g2d (fun e => by injection e; omega)
  have y3 := grown_blk (blk_old (blk_old k1 zeroH) (.cells #[] 2)) g3d (fun e => by injection e; omega)
  have n2 := grown_blk (blk_new (W.alloc (.cells #[] 2)) zeroH (W.heap.size + 1) (by simp)) g2d (fun e => by injection e; omega)
  have n3 := grown_blk (blk_old (blk_new W zeroH W.heap.size rfl) (.cells #[] 2)) g3d (fun e => by injection e; omega)
  have L1 := grown_below B1 (by simp; omega) g1d (by omega)
  have L2 := grown_below B2 (by simp; omega) g2d (by omega)
  have L3 := grown_below B4 (by simp; omega) g3d (by omega)
  have s1 := g1d.size
  have s2 := g2d.size
  have s3 := g3d.size
  simp at s1 s2 s3
  unfold zeroH at a2 a3 n2 n3
  have p0 : W.cell? ⟨w.heap.size, 0, none⟩ = some (.slice (some ⟨b0, off, none⟩) 8 cap) := cell_of_block k0 0
  have p1 : W.cell? ⟨w.heap.size, 1, none⟩ = some (.string r) := cell_of_block k0 1
  have p2 : W.cell? ⟨w.heap.size, 2, none⟩ = some (.int .i64 size) := cell_of_block k0 2
  have u0 : ∀ o, (W.alloc o).cell? ⟨w.heap.size, 0, none⟩ = some (.slice (some ⟨b0, off, none⟩) 8 cap) := fun o => cell_of_block (blk_old k0 o) 0
  have v0 : ∀ o o', ((W.alloc o).alloc o').cell? ⟨w.heap.size, 0, none⟩ = some (.slice (some ⟨b0, off, none⟩) 8 cap) := fun o o' => cell_of_block (blk_old (blk_old k0 o) o') 0
  have u1 : ∀ o, (W.alloc o).cell? ⟨w.heap.size, 1, none⟩ = some (.string r) := fun o => cell_of_block (blk_old k0 o) 1
  have v1 : ∀ o o', ((W.alloc o).alloc o').cell? ⟨w.heap.size, 1, none⟩ = some (.string r) := fun o o' => cell_of_block (blk_old (blk_old k0 o) o') 1
  have z1 : ∀ o, (w1.alloc o).cell? ⟨w.heap.size, 1, none⟩ = some (.string r) := fun o => cell_of_block (blk_old x1 o) 1
  have u2 : ∀ o, (W.alloc o).cell? ⟨w.heap.size, 2, none⟩ = some (.int .i64 size) := fun o => cell_of_block (blk_old k0 o) 2
  have v2 : ∀ o o', ((W.alloc o).alloc o').cell? ⟨w.heap.size, 2, none⟩ = some (.int .i64 size) := fun o o' => cell_of_block (blk_old (blk_old k0 o) o') 2
  have z2 : ∀ o, (w1.alloc o).cell? ⟨w.heap.size, 2, none⟩ = some (.int .i64 size) := fun o => cell_of_block (blk_old x1 o) 2
  have p10 : w1.cell? ⟨w.heap.size, 1, none⟩ = some (.string r) := cell_of_block x1 1
  have p11 : w1.cell? ⟨w.heap.size, 2, none⟩ = some (.int .i64 size) := cell_of_block x1 2
  have p20 : w2.cell? ⟨w.heap.size, 1, none⟩ = some (.string r) := cell_of_block x2 1
  have p21 : w2.cell? ⟨w.heap.size, 2, none⟩ = some (.int .i64 size) := cell_of_block x2 2
  have p30 : w3.cell? ⟨w.heap.size, 1, none⟩ = some (.string r) := cell_of_block x3 1
  have p31 : w3.cell? ⟨w.heap.size, 2, none⟩ = some (.int .i64 size) := cell_of_block x3 2
  have q20 : w2.cell? ⟨W.heap.size + 1, 0, none⟩ = some (.slice none 0 0) := cell_of_block n2 0
  have q21 : w2.cell? ⟨W.heap.size + 1, 1, none⟩ = some (.string ⟨#[]⟩) := cell_of_block n2 1
  have q22 : w2.cell? ⟨W.heap.size + 1, 2, none⟩ = some (.int .i64 0) := cell_of_block n2 2
  have q2f : ∀ j, w2.frozen? ⟨W.heap.size + 1, j, none⟩ = false := unfrozen_of_block n2
  have q30 : w3.cell? ⟨W.heap.size, 0, none⟩ = some (.slice none 0 0) := cell_of_block n3 0
  have q31 : w3.cell? ⟨W.heap.size, 1, none⟩ = some (.string ⟨#[]⟩) := cell_of_block n3 1
  have q32 : w3.cell? ⟨W.heap.size, 2, none⟩ = some (.int .i64 0) := cell_of_block n3 2
  have q3f : ∀ j, w3.frozen? ⟨W.heap.size, j, none⟩ = false := unfrozen_of_block n3
  have m1 : ¬ w.heap.size = w1.heap.size := by omega
  have hst : (r.size : Int) + (t.size : Int) ≤ 2000000 := by omega
  have HX := mkHid (And.intro (And.intro y1 (And.intro y2 y3)) (And.intro (And.intro L1 (And.intro L2 L3)) (And.intro (And.intro n2 n3) (And.intro (And.intro g1c (And.intro g2c g3c)) (And.intro (And.intro g1a (And.intro g2a g3a)) (And.intro (And.intro g1b (And.intro g2b g3b)) (And.intro s1 (And.intro s2 s3))))))))
  clear y1 y2 y3 L1 L2 L3 n2 n3 g1c g2c g3c g1a g2a g3a g1b g2b g3b s1 s2 s3 g1d g2d g3d x1 x2 x3 k0 k1 B B1 B2 B3 B4 hr hb0 e3
  go_cut [5] (fun s5 wx => ∃ p g c, s5 = .pointer (some ⟨p, 0, none⟩) ∧ Hid (Mo w p g c z (r ++ t) (size + t.size) wx))
  case first =>
    go_region
    all_goals go_wp2
    all_goals go_meet
    · obtain ⟨⟨y1, y2, y3⟩, ⟨L1, L2, L3⟩, ⟨n2, n3⟩, ⟨g1c, g2c, g3c⟩, ⟨g1a, g2a, g3a⟩, ⟨g1b, g2b, g3b⟩, s1, s2, s3⟩ := HX.out
      exact ⟨_, _, _, rfl, mkHid (Mo.made L1 y1 g1c (by omega) g1b)⟩
    · obtain ⟨⟨y1, y2, y3⟩, ⟨L1, L2, L3⟩, ⟨n2, n3⟩, ⟨g1c, g2c, g3c⟩, ⟨g1a, g2a, g3a⟩, ⟨g1b, g2b, g3b⟩, s1, s2, s3⟩ := HX.out
      exact ⟨_, _, _, rfl, mkHid (Mo.store L2 y2 n2 g2c (by omega) (by omega))⟩
    · obtain ⟨⟨y1, y2, y3⟩, ⟨L1, L2, L3⟩, ⟨n2, n3⟩, ⟨g1c, g2c, g3c⟩, ⟨g1a, g2a, g3a⟩, ⟨g1b, g2b, g3b⟩, s1, s2, s3⟩ := HX.out
      exact ⟨_, _, _, rfl, mkHid (Mo.store L3 y3 n3 g3c (by omega) (by omega))⟩
  case rest =>
    obtain ⟨p, g, c, rfl, hmo⟩ := hcut
    clear HX
    have hsz : s.size ≤ 2000000 := by rw [HH.out]; simp; omega
    rw [← HH.out] at hmo
    clear p0 p1 p2 p10 p11 p20 p21 p30 p31 q20 q21 q22 q2f q30 q31 q32 q3f u0 u1 u2 v0 v1 v2 z1 z2 a1 a2 a3 m1 hne0 hne1 hW hs hst
    go_wp2
    go_loopw [6] (fun i wr => ∃ (k at_ g c : Nat), k ≤ s.size / 64 ∧ i = .int .i64 at_ ∧ Hid (at_ = 64 * k) ∧ Hid (Mo w p g c (after z s k) s (size + t.size) wr))
      (fun i _ => s.size - (intOf i).toNat)
    case atStart => exact ⟨0, 0, _, _, Nat.zero_le _, rfl, mkHid rfl, hmo⟩
    case round =>
      clear hmo g c
      obtain ⟨k, at_, g, c, hk, rfl, hat, hmo⟩ := hrel
      have o0 : wr.cell? ⟨p, 0, none⟩ = some (.slice (some ⟨g, 0, none⟩) 8 c) := cell_of_block hmo.out.out 0
      have o1 : wr.cell? ⟨p, 1, none⟩ = some (.string s) := cell_of_block hmo.out.out 1
      have o2 : wr.cell? ⟨p, 2, none⟩ = some (.int .i64 (size + t.size)) := cell_of_block hmo.out.out 2
      have of : ∀ j, wr.frozen? ⟨p, j, none⟩ = false := unfrozen_of_block hmo.out.out
      by_cases hlt : k < s.size / 64
      · have hle : (at_ : Int) + 64 ≤ (s.size : Int) := by have := hat.out; omega
        have hsl : ∀ wx, (Instr.slice 9 (.string s) (some (.int .i64 (at_ : Int))) (some (.int .i64 ((at_ : Int) + 64))) none).run Tryz.prog wx = .ok (.string (s.extract at_ (at_ + 64))) wx := fun wx => by
          rw [run_slice_string_if wx 9 s .i64 .i64 (at_ : Int) ((at_ : Int) + 64) Tryz.underlying9, if_pos ⟨by omega, by omega⟩, if_pos ⟨by omega, by omega⟩]
          rfl
        have HB : Hid (∀ wx, (∀ i, i < 8 → wx.cell? ⟨g, i, none⟩ = some (.int .i64 (after z s k i))) → Calls Tryz.prog 71 #[.slice (some ⟨g, 0, none⟩) 8 c, .string (s.extract at_ (at_ + 64))] wx fun e w' => BPost wx (after z s (k + 1)) e w') := mkHid (fun wx hc => by
          have h := block_any g 0 c (after z s k) (s.extract at_ (at_ + 64)) wx (by simp; omega) (fun i hi => by simpa using hc i hi)
          rw [hat.out] at h ⊢
          exact h)
        have hq : IntKind.i64.wrap ((at_ : Int) + 64) = (at_ : Int) + 64 := by simp [IntKind.wrap, IntKind.bits, IntKind.signed]; omega
        go_wp2
        go_region_with (go_at_call 71; refine (HB.out _ (by exact hmo.out.cells)).mono ?_; rintro e w1 ⟨g', c', rfl, hg', hc', hb'⟩; have b1 : Below wr.heap.size wr w1 := ⟨hb'.os, hb'.tape, hb'.output, hb'.size, hb'.block⟩; have M1 := mkHid (hmo.out.next (c' := c') b1 hg' hc'); have n1 := blk_below hmo.out.out b1; have x0 : w1.cell? ⟨p, 0, none⟩ = some (.slice (some ⟨g, 0, none⟩) 8 c) := cell_of_block n1 0; have xf : ∀ j, w1.frozen? ⟨p, j, none⟩ = false := unfrozen_of_block n1; clear n1 b1 hb' hc' hg')
        all_goals go_wp2
        all_goals exact ⟨⟨k + 1, at_ + 64, _, _, by omega, by go_num, mkHid (by have := hat.out; omega), M1⟩, by simp [intOf]; omega⟩
      · have hge : (s.size : Int) - (at_ : Int) < 64 := by have := hat.out; omega
        have hle : (at_ : Int) ≤ (s.size : Int) := by have := hat.out; omega
        have HE : Hid (after z s k = after z s (s.size / 64) ∧ s.extract at_ s.size = rest s) := by
          have e1 : k = s.size / 64 := by omega
          have e2 := hat.out
          subst e1
          exact ⟨rfl, by unfold rest; rw [← e2]⟩
        have r0 : wr.cell? ⟨w.heap.size + 1, 0, none⟩ = some (.slice none 0 0) := cell_of_block hmo.out.res 0
        have r1 : wr.cell? ⟨w.heap.size + 1, 1, none⟩ = some (.string ⟨#[]⟩) := cell_of_block hmo.out.res 1
        have r2 : wr.cell? ⟨w.heap.size + 1, 2, none⟩ = some (.int .i64 0) := cell_of_block hmo.out.res 2
        have rf : ∀ j, wr.frozen? ⟨w.heap.size + 1, j, none⟩ = false := unfrozen_of_block hmo.out.res
        have hne : ¬ w.heap.size + 1 = p := by have := hmo.out.hp; omega
        have hne' : ¬ p = w.heap.size + 1 := by have := hmo.out.hp; omega
        go_wp2
        rw [← HE.out.1, ← HE.out.2]
        exact bodyPost_ret (v := hash (some ⟨g, 0, none⟩) 8 c (s.extract at_ s.size) (size + t.size)) (by simp [results, Tryz.results49, go_sem, r0, r1, r2, hash]) rfl (hmo.out.done _ _ _ _)

theorem more_any (b0 off cap : Nat) (z : Nat → Int) (r t : ByteArray) (size : Int) (w : World) (hs : r.size + t.size ≤ 2000000) (h0 : 0 ≤ size) (h1 : size ≤ 2199023255552) (hr : ∀ i, i < 8 → w.cell? ⟨b0, off + i, none⟩ = some (.int .i64 (z i))) :
    Calls Tryz.prog 49 #[hash (some ⟨b0, off, none⟩) 8 cap r size, .string t] w fun e w' => HPost w (after z (r ++ t) ((r ++ t).size / 64)) (rest (r ++ t)) (size + t.size) e w' :=
  more_s b0 off cap z r t (r ++ t) (mkHid rfl) size w hs h0 h1 hr
end Go.Proofs.YtmoojhnblakdhaaGreat.sha
namespace Go.Proofs.YtmoojhnblakdhaaGreat.sha
open Go.RowKit Go.Joins
open Go.Proofs.YtmoojhnblakdhaaGreat.base Go.Proofs.YtmoojhnblakdhaaGreat.word Go.Proofs.YtmoojhnblakdhaaGreat.ints Go.Proofs.YtmoojhnblakdhaaGreat.blk
set_option linter.unusedVariables false
attribute [local go_sem ↓] app_fold

/-- byte d of a number, from the lowest -/
def by8 (n d : Int) : UInt8 := UInt8.ofNat ((n / d) % 256).toNat
theorem by8_val (n d : Int) : ((by8 n d).toNat : Int) = n / d % 256 := by
  unfold by8
  rw [UInt8.toNat_ofNat']
  have h1 : 0 ≤ n / d % 256 := by omega
  have h2 : n / d % 256 < 256 := by omega
  omega
/-- how many bytes 0 -/
def gap (size : Int) : Nat := ((119 - size % 64) % 64).toNat
def pad (j : Nat) : List UInt8 := 128 :: List.replicate j 0
/-- the first i bytes of the length in bits -/
def lenB (size : Int) (i : Nat) : List UInt8 := (List.range i).map fun q => by8 (8 * size) (2 ^ (56 - 8 * q))
/-- what is put behind a text of that size -/
def tail (size : Int) : List UInt8 := pad (gap size) ++ lenB size 8
/-- the first i numbers of a state in bytes -/
def digL (f : Nat → Int) (i : Nat) : List UInt8 := (List.range i).flatMap fun q => [by8 (f q) 16777216, by8 (f q) 65536, by8 (f q) 256, by8 (f q) 1]
/-- the digest of a Hash -/
def dig (z : Nat → Int) (r : ByteArray) (size : Int) : ByteArray :=
  ⟨(digL (after z (r ++ ⟨(tail size).toArray⟩) ((r ++ (⟨(tail size).toArray⟩ : ByteArray)).size / 64)) 8).toArray⟩

theorem pad_len (j : Nat) : (pad j).length = j + 1 := by simp [pad]
theorem pad_next (j : Nat) : pad j ++ [0] = pad (j + 1) := by unfold pad; rw [List.replicate_succ', List.cons_append]
theorem lenB_len (size : Int) (i : Nat) : (lenB size i).length = i := by simp [lenB]
theorem lenB_next (size : Int) (i : Nat) : lenB size i ++ [by8 (8 * size) (2 ^ (56 - 8 * i))] = lenB size (i + 1) := by unfold lenB; rw [List.range_succ, List.map_append]; rfl
theorem digL_next (f : Nat → Int) (i : Nat) : digL f i ++ [by8 (f i) 16777216, by8 (f i) 65536, by8 (f i) 256, by8 (f i) 1] = digL f (i + 1) := by unfold digL; rw [List.range_succ, List.flatMap_append]; simp
theorem digL_len (f : Nat → Int) (i : Nat) : (digL f i).length = 4 * i := by
  induction i with
  | zero => rfl
  | succ i ih => rw [← digL_next, List.length_append, ih]; simp; omega
theorem gap_lt (size : Int) : gap size < 64 := by unfold gap; omega
theorem gap_not {size : Int} {j : Nat} (h0 : 0 ≤ size) (h : j < gap size) : ¬ (size + ((j : Int) + 1)) % 64 = 56 := by unfold gap at h; omega
theorem gap_yes {size : Int} (h0 : 0 ≤ size) : (size + ((gap size : Int) + 1)) % 64 = 56 := by unfold gap; omega
theorem tail_len (size : Int) : (tail size).length = gap size + 9 := by unfold tail; rw [List.length_append, pad_len, lenB_len]

theorem infoB : (Tryz.prog.info? 5).map (fun i => (i.zero, i.size, i.bytes)) = some (some (.int .u8 0), 1, 1) := by kernel_rfl

/-- append of bytes in a block of their own to a row of our own -/
theorem appB (W W' : World) (hW : W' = W ∨ W' = W.drew) (base q : Nat) (v : Value) (n m : Nat) (acc bs : List UInt8) (hn : acc.length = n) (hm : bs.length = m) (hm0 : 0 < n + m) (hown : W.ownsRow base 5 1 v n (acc.map byteV)) (hb : base ≤ W.heap.size)
    (hq : W.heap[q]? = some (.cells (bs.map byteV).toArray 5 (0, 0))) (hl : n + m ≤ 1000) :
    ∃ g c w2, (appSem #[22, 22] 22 #[v, .slice (some ⟨q, 0, none⟩) m m]).run Tryz.prog W' = .ok (.slice (some ⟨g, 0, none⟩) (n + m) c) w2 ∧ w2.ownsRow base 5 1 (.slice (some ⟨g, 0, none⟩) (n + m) c) (n + m) ((acc ++ bs).map byteV) ∧ W.grownBy w2 v.ownBlock := by
  subst hn hm
  obtain ⟨i0, hi, hz0, hz1, hz2⟩ := info_parts infoB
  have hown' : W'.ownsRow base 5 1 v acc.length (acc.map byteV) := by rcases hW with rfl | rfl <;> exact hown
  have hc : ∀ j u, (bs.map byteV)[j]? = some u → W'.cell? ((⟨q, 0, none⟩ : Addr).add j) = some u := by
    intro j u hj
    rw [Addr.add_lit, Nat.zero_add]
    have h : W.cell? ⟨q, j, none⟩ = some u := by rw [cell_of_block hq]; simpa using hj
    rcases hW with rfl | rfl <;> exact h
  obtain ⟨v', w2, happ0, hown2, hgrow, _⟩ := run_append_own (P := Tryz.prog) W' base 22 22 5 i0 (.int .u8 0) 1 1 Tryz.underlying22 hi hz0 hz1 hz2 rfl (by decide) v acc.length (acc.map byteV) hown' ⟨q, 0, none⟩ bs.length bs.length (bs.map byteV) (by simp) hc (by intro u hu; rw [List.mem_map] at hu; obtain ⟨j, _, rfl⟩ := hu; rfl) (by unfold maxLen; omega) (by omega) (by rcases hW with rfl | rfl <;> exact hb)
  obtain ⟨g, c, rfl⟩ := ownsRow_form hown2 (by omega)
  refine ⟨g, c, w2, happ0, by rw [List.map_append]; exact hown2, ?_⟩
  rcases hW with rfl | rfl
  · exact hgrow
  · exact ⟨hgrow.os, hgrow.tape, hgrow.output, hgrow.size, hgrow.block⟩

end Go.Proofs.YtmoojhnblakdhaaGreat.sha
namespace Go.Proofs.YtmoojhnblakdhaaGreat.sha
open Go.RowKit Go.Joins
open Go.Proofs.YtmoojhnblakdhaaGreat.base Go.Proofs.YtmoojhnblakdhaaGreat.word Go.Proofs.YtmoojhnblakdhaaGreat.ints Go.Proofs.YtmoojhnblakdhaaGreat.blk
set_option linter.unusedVariables false
attribute [local go_sem ↓] app_fold

def sliceLen : Value → Nat
  | .slice _ n _ => n
  | _ => 0
/-- bytes that are gathered, the box that is read -/
structure En (w : World) (base : Nat) (box : Obj) (va : Option Addr) (n vc : Nat) (acc : List UInt8) (wr : World) : Prop where
  below : Below w.heap.size w wr
  bx : wr.heap[w.heap.size]? = some box
  own : wr.ownsRow base 5 1 (.slice va n vc) n (acc.map byteV)
  len : acc.length = n
  hb : w.heap.size + 1 ≤ base

theorem En.app {w wr : World} {base : Nat} {box : Obj} {va : Option Addr} {n vc : Nat} {acc : List UInt8} (h : En w base box va n vc acc wr) (bs : List UInt8) (m : Nat) (hm : bs.length = m) (hm0 : 0 < m) (hbase : base ≤ wr.heap.size) (hl : n + m ≤ 1000) :
    ∃ g c w2, (appSem #[22, 22] 22 #[.slice va n vc, .slice (some ⟨wr.heap.size, 0, none⟩) m m]).run Tryz.prog (wr.alloc (.cells (bs.map byteV).toArray 5)) = .ok (.slice (some ⟨g, 0, none⟩) (n + m) c) w2 ∧ En w base box (some ⟨g, 0, none⟩) (n + m) c (acc ++ bs) w2 ∧ wr.heap.size ≤ w2.heap.size := by
  have hb := h.hb
  obtain ⟨g, c, w2, hrun, hown, hgr⟩ := appB (wr.alloc (.cells (bs.map byteV).toArray 5)) _ (.inl rfl) base wr.heap.size (.slice va n vc) n m acc bs h.len hm (by omega) (h.own.alloc _) (by simp; omega) (heap_alloc_new wr _) hl
  refine ⟨g, c, w2, hrun, ⟨?_, ?_, hown, by rw [List.length_append, h.len, hm], hb⟩, ?_⟩
  · exact below_app h.below.size (by omega) h.below h.own hgr
  · exact blk_grown h.bx (fun e => by have := (h.own.lt w.heap.size e).1; omega) hgr
  · have := hgr.size
    simp at this
    omega

theorem En.str {w wr : World} {base : Nat} {box : Obj} {va : Option Addr} {n vc : Nat} {acc : List UInt8} (h : En w base box va n vc acc wr) : (convert 22 9 (.slice va n vc)).run Tryz.prog wr = .ok (.string ⟨acc.toArray⟩) wr := by
  obtain ⟨a, m, c, hv, hr⟩ := owns_string_any Tryz.underlying22 Tryz.underlying5 Tryz.underlying9 (by rw [h.len]; exact h.own)
  rw [hv]
  exact hr

theorem En.nothing {w : World} {o : Obj} (f : Nat → Int) : En w (w.heap.size + 1) o (some ⟨w.heap.size + 1, 0, none⟩) (4 * 0) 0 (digL f 0) ((w.alloc o).alloc (.cells #[] 5)) :=
  ⟨below_alloc2 w _ _, blk_old (blk_new w o _ rfl) _, ⟨rfl, .inr ⟨w.heap.size + 1, 0, #[], rfl, Nat.le_refl _, blk_new (w.alloc o) _ _ (by simp), Nat.le_refl _, by decide, rfl, rfl⟩⟩, rfl, Nat.le_refl _⟩
theorem En.one {w : World} {o : Obj} : En w (w.heap.size + 1) o (some ⟨w.heap.size + 1, 0, none⟩) 1 1 (pad 0) ((w.alloc o).alloc (.cells #[.int .u8 128] 5)) :=
  ⟨below_alloc2 w _ _, blk_old (blk_new w o _ rfl) _, ⟨rfl, .inr ⟨w.heap.size + 1, 1, #[.int .u8 128], rfl, Nat.le_refl _, blk_new (w.alloc o) _ _ (by simp), Nat.le_refl _, by decide, rfl, rfl⟩⟩, rfl, Nat.le_refl _⟩

set_option maxRecDepth 100000 in
set_option maxHeartbeats 1000000 in
theorem end_any (b0 off cap : Nat) (z : Nat → Int) (r : ByteArray) (size : Int) (w : World) (hr : ∀ i, i < 8 → w.cell? ⟨b0, off + i, none⟩ = some (.int .i64 (z i))) (hr64 : r.size ≤ 64) (h0 : 0 ≤ size) (h1 : size ≤ 1099511627776) :
    Calls Tryz.prog 48 #[hash (some ⟨b0, off, none⟩) 8 cap r size] w fun e w' => e = .returned (.string (dig z r size)) ∧ Below w.heap.size w w' := by
  unfold hash
  go_enter Tryz.func48, Tryz.ntmps48
  go_wp2
  go_loopw [3] (fun v wr => ∃ (j : Nat) (va : Option Addr) (vc : Nat), j ≤ gap size ∧ v = .slice va (j + 1) vc ∧ Hid (En w (w.heap.size + 1) (.cells #[.slice (some ⟨b0, off, none⟩) 8 cap, .string r, .int .i64 size] 88) va (j + 1) vc (pad j) wr))
    (fun v _ => gap size + 1 - sliceLen v)
  case atStart => exact ⟨0, _, _, Nat.zero_le _, rfl, mkHid En.one⟩
  case round =>
    obtain ⟨j, va, vc, hj, rfl, hen⟩ := hrel
    have c2 : wr.cell? ⟨w.heap.size, 2, none⟩ = some (.int .i64 size) := cell_of_block hen.out.bx 2
    have hgl := gap_lt size
    by_cases hlt : j < gap size
    · have hc : ¬ (size + ((j : Int) + 1)) % 64 = 56 := gap_not h0 hlt
      have hj2 : (j : Int) < 64 := by omega
      obtain ⟨g, c, w2, hrun0, hen2, hsz⟩ := hen.out.app [0] 1 rfl (by omega) (by have h2 := (Array.getElem?_eq_some_iff.1 hen.out.bx).1; omega) (by omega)
      have hrun : (appSem #[22, 22] 22 #[.slice va (j + 1) vc, .slice (some ⟨wr.heap.size, 0, none⟩) 1 1]).run Tryz.prog (wr.alloc (.cells #[.int .u8 0] 5)) = .ok (.slice (some ⟨g, 0, none⟩) (j + 1 + 1) c) w2 := hrun0
      rw [pad_next] at hen2
      have E2 := mkHid hen2
      clear hen hen2 hrun0
      go_wp2
      go_roundw
      case rel => exact ⟨j + 1, _, _, by omega, rfl, E2⟩
      case measure => simp [sliceLen]; omega
    · have ej : j = gap size := by omega
      have hc : (size + ((j : Int) + 1)) % 64 = 56 := by rw [ej]; exact gap_yes h0
      have hj2 : (j : Int) < 64 := by omega
      have HG := mkHid ej.symm
      clear ej hlt hgl hj
      go_wp2
      clear hc
      go_loopw [3, 5] (fun v k wr => ∃ (i : Nat) (va : Option Addr) (vc : Nat) (y : Int), i ≤ 8 ∧ k = .int .i64 y ∧ y = 56 - 8 * (i : Int) ∧ v = .slice va (j + 1 + i) vc ∧ Hid (En w (w.heap.size + 1) (.cells #[.slice (some ⟨b0, off, none⟩) 8 cap, .string r, .int .i64 size] 88) va (j + 1 + i) vc (pad j ++ lenB size i) wr))
        (fun _ k _ => (intOf k + 8).toNat)
      case atStart => exact ⟨0, _, _, 56, by omega, rfl, by omega, rfl, mkHid (by have h := hen.out; simpa [lenB] using h)⟩
      case round =>
        clear hen c2
        obtain ⟨i, va, vc, y, hi8, rfl, hy, rfl, hen⟩ := hrel
        by_cases hlt : i < 8
        · obtain ⟨q, rfl⟩ : ∃ q : Nat, y = (q : Int) := ⟨y.toNat, by omega⟩
          have hq : q = 56 - 8 * i := by omega
          obtain ⟨g, c, w2, hrun0, hen2, hsz⟩ := hen.out.app [by8 (8 * size) (2 ^ q)] 1 rfl (by omega) (by have h2 := (Array.getElem?_eq_some_iff.1 hen.out.bx).1; omega) (by omega)
          have hrun : (appSem #[22, 22] 22 #[.slice va (j + 1 + i) vc, .slice (some ⟨wr.heap.size, 0, none⟩) 1 1]).run Tryz.prog (wr.alloc (.cells #[.int .u8 (8 * size / 2 ^ q % 256)] 5)) = .ok (.slice (some ⟨g, 0, none⟩) (j + 1 + i + 1) c) w2 := by rw [← by8_val]; exact hrun0
          rw [List.append_assoc, hq, lenB_next] at hen2
          have E2 := mkHid hen2
          have q0 : (q : Int) ≤ 56 := by omega
          have q8 : (q : Int) - 8 = 56 - 8 * ((i + 1 : Nat) : Int) := by omega
          have Q := mkHid (And.intro hq q8)
          clear hen hen2 hrun0 hq hy q8
          go_wp2
          go_roundw
          case rel => exact ⟨i + 1, _, _, _, by omega, rfl, Q.out.2, rfl, E2⟩
          case measure => simp [intOf]; omega
        · have hi : i = 8 := by omega
          subst hi
          have hy8 : y < 0 := by omega
          have hconv := hen.out.str
          rw [show pad j ++ lenB size 8 = tail size by unfold tail; rw [HG.out]] at hconv
          have cx0 : wr.cell? ⟨w.heap.size, 0, none⟩ = some (.slice (some ⟨b0, off, none⟩) 8 cap) := cell_of_block hen.out.bx 0
          have cx1 : wr.cell? ⟨w.heap.size, 1, none⟩ = some (.string r) := cell_of_block hen.out.bx 1
          have cx2 : wr.cell? ⟨w.heap.size, 2, none⟩ = some (.int .i64 size) := cell_of_block hen.out.bx 2
          have HM := mkHid (more_any b0 off cap z r ⟨(tail size).toArray⟩ size wr (by show r.size + (tail size).toArray.size ≤ _; rw [List.size_toArray, tail_len]; have := gap_lt size; omega) h0 (by omega) (fun i hi => (hen.out.below.cell (p := ⟨b0, off + i, none⟩) (World.block_lt_of_cell? w _ (hr i hi))).trans (hr i hi)))
          have B0 := mkHid hen.out.below
          clear hen
          go_wp2_with fail
          refine HM.out.mono ?_
          rintro e w1 ⟨g, c, rfl, hg, hcs, hb1⟩
          clear HM
          have B1 := mkHid (B0.out.trans (hb1.mono B0.out.size))
          have K1 := mkHid (And.intro hg hcs)
          have D : dig z r size = ⟨(digL (after z (r ++ ⟨(tail size).toArray⟩) ((r ++ (⟨(tail size).toArray⟩ : ByteArray)).size / 64)) 8).toArray⟩ := rfl
          have HD := mkHid D
          clear D hconv cx0 cx1 cx2 hb1 hg hcs B0
          unfold hash
          generalize after z (r ++ ⟨(tail size).toArray⟩) ((r ++ (⟨(tail size).toArray⟩ : ByteArray)).size / 64) = f at *
          generalize rest (r ++ ⟨(tail size).toArray⟩) = rr at *
          go_wp2
          go_loopw [7, 8] (fun v k wr => ∃ (i : Nat) (va : Option Addr) (vc : Nat), i ≤ 8 ∧ k = .int .i64 i ∧ v = .slice va (4 * i) vc ∧ Hid (En w1 (w1.heap.size + 1) (.cells #[.slice (some ⟨g, 0, none⟩) 8 c, .string rr, .int .i64 (size + (tail size).length)] 88) va (4 * i) vc (digL f i) wr))
            (fun _ k _ => 8 - (intOf k).toNat)
          case atStart => exact ⟨0, _, _, by omega, rfl, rfl, mkHid (En.nothing f)⟩
          case round =>
            obtain ⟨i, va, vc, hi8, rfl, rfl, hen⟩ := hrel
            have cx0 : wr.cell? ⟨w1.heap.size, 0, none⟩ = some (.slice (some ⟨g, 0, none⟩) 8 c) := cell_of_block hen.out.bx 0
            by_cases hlt : i < 8
            · have cn : wr.cell? ⟨g, i, none⟩ = some (.int .i64 (f i)) := (hen.out.below.cell (p := ⟨g, i, none⟩) (World.block_lt_of_cell? w1 _ (K1.out.2 i hlt))).trans (K1.out.2 i hlt)
              obtain ⟨g', c', w2, hrun0, hen2, hsz⟩ := hen.out.app [by8 (f i) 16777216, by8 (f i) 65536, by8 (f i) 256, by8 (f i) 1] 4 rfl (by omega) (by have h2 := (Array.getElem?_eq_some_iff.1 hen.out.bx).1; omega) (by omega)
              have hrun : (appSem #[22, 22] 22 #[.slice va (4 * i) vc, .slice (some ⟨wr.heap.size, 0, none⟩) 4 4]).run Tryz.prog (wr.alloc (.cells #[.int .u8 (f i / 16777216 % 256), .int .u8 (f i / 65536 % 256), .int .u8 (f i / 256 % 256), .int .u8 (f i % 256)] 5)) = .ok (.slice (some ⟨g', 0, none⟩) (4 * i + 4) c') w2 := by
                have e := by8_val (f i) 1
                rw [Int.ediv_one] at e
                rw [← by8_val, ← by8_val, ← by8_val, ← e]
                exact hrun0
              rw [digL_next] at hen2
              have E2 := mkHid hen2
              clear hen hen2 hrun0
              generalize f i = n at *
              have bi : (i : Int) < 8 := by omega
              go_wp2
              go_roundw
              case rel => exact ⟨i + 1, _, _, by omega, by go_num, by rw [Nat.mul_add], E2⟩
              case measure => simp [intOf]; omega
            · have hi : i = 8 := by omega
              subst hi
              have hconv := hen.out.str
              rw [← HD.out] at hconv
              have B2 := mkHid (B1.out.trans (hen.out.below.mono B1.out.size))
              clear hen
              go_wp2
              go_ret
              exact ⟨rfl, B2.out⟩
end Go.Proofs.YtmoojhnblakdhaaGreat.sha
namespace Go.Proofs.YtmoojhnblakdhaaGreat.sha
open Go.RowKit Go.Joins
open Go.Proofs.YtmoojhnblakdhaaGreat.base Go.Proofs.YtmoojhnblakdhaaGreat.word Go.Proofs.YtmoojhnblakdhaaGreat.ints Go.Proofs.YtmoojhnblakdhaaGreat.blk
set_option linter.unusedVariables false
attribute [local go_sem ↓] app_fold

/-- what HashMore tells: State, Rest, Size -/
def moreH (zs : List Int) (r : ByteArray) (size : Int) (t : ByteArray) : List Int × ByteArray × Int :=
  if 20000 < t.size then ([], ⟨#[]⟩, 0)
  else if hRight zs r size = false ∨ 1099511627776 < size + t.size then (zs, r, size)
  else (list8 (after (fn zs) (r ++ t) ((r ++ t).size / 64)), rest (r ++ t), size + t.size)
def endH (zs : List Int) (r : ByteArray) (size : Int) : ByteArray := if hRight zs r size = true then dig (fn zs) r size else ⟨#[]⟩
def digest (t : ByteArray) : ByteArray := if 20000 < t.size then ⟨#[]⟩ else dig (after start t (t.size / 64)) (rest t) t.size

def RPost (w : World) (o : List Int × ByteArray × Int) (e : Ending) (w' : World) : Prop :=
  ∃ a c, e = .returned (hash a o.1.length c o.2.1 o.2.2) ∧ Rd w' a o.1 ∧ Below w.heap.size w w'

theorem hRight_parts {zs : List Int} {r : ByteArray} {size : Int} (h : hRight zs r size = true) : zs.length = 8 ∧ 0 ≤ size ∧ size ≤ 1099511627776 ∧ (r.size : Int) = size % 64 ∧ r.size < 64 := by
  unfold hRight at h
  simp at h
  omega

/-- append of numbers to an empty row of our own -/
theorem appZ (b0 off cap : Nat) (zs : List Int) (W W' : World) (hW : W' = W ∨ W' = W.drew) (base : Nat) (q : Nat) (hown : W.ownsRow base 2 1 (.slice (some ⟨q, 0, none⟩) 0 0) 0 []) (hb : base ≤ W.heap.size) (hr : Rd W (some ⟨b0, off, none⟩) zs) (hl : zs.length ≤ 1048576) :
    ∃ g c w2, (appSem #[84, 84] 84 #[.slice (some ⟨q, 0, none⟩) 0 0, .slice (some ⟨b0, off, none⟩) zs.length cap]).run Tryz.prog W' = .ok (.slice (some ⟨g, 0, none⟩) zs.length c) w2 ∧ base ≤ g ∧ Rd w2 (some ⟨g, 0, none⟩) zs ∧ W.grownBy w2 (some q) := by
  obtain ⟨i0, hi, hz0, hz1, hz2⟩ := info_parts info2
  have hown' : W'.ownsRow base 2 1 (.slice (some ⟨q, 0, none⟩) 0 0) 0 [] := by rcases hW with rfl | rfl <;> exact hown
  have hc : ∀ j u, (zs.map intV)[j]? = some u → W'.cell? ((⟨b0, off, none⟩ : Addr).add j) = some u := by
    intro j u hj
    rw [List.getElem?_map] at hj
    cases hz : zs[j]? with
    | none => rw [hz] at hj; simp at hj
    | some z =>
      rw [hz] at hj
      simp at hj
      subst hj
      obtain ⟨b', o', e, hc⟩ := hr j z hz
      simp at e
      obtain ⟨rfl, rfl⟩ := e
      rw [Addr.add_lit]
      rcases hW with rfl | rfl <;> exact hc
  obtain ⟨v', w2, happ0, hown2, hgrow, hn⟩ := run_append_own (P := Tryz.prog) W' base 84 84 2 i0 (.int .i64 0) 1 8 Tryz.underlying84 hi hz0 hz1 hz2 rfl (by decide) (.slice (some ⟨q, 0, none⟩) 0 0) 0 [] hown' ⟨b0, off, none⟩ zs.length cap (zs.map intV) (by simp) hc (by intro u hu; rw [List.mem_map] at hu; obtain ⟨j, _, rfl⟩ := hu; rfl) (by unfold maxLen; omega) (by omega) (by rcases hW with rfl | rfl <;> exact hb)
  have h2 := hown2
  obtain ⟨_, h2⟩ := h2
  rcases h2 with ⟨rfl, h0⟩ | ⟨g, c, cur, rfl, hbg, hg, _, _, _, ht⟩
  · simp at hn
  · refine ⟨g, c, w2, by rw [Nat.zero_add] at happ0; exact happ0, hbg, ?_, ?_⟩
    · intro i z hz
      refine ⟨g, 0, rfl, ?_⟩
      have := hown2.cells rfl i (.int .i64 z) (by simp [hz, intV])
      rw [Addr.add_lit, Nat.zero_add] at this
      simpa using this
    · rcases hW with rfl | rfl
      · exact hgrow
      · exact ⟨hgrow.os, hgrow.tape, hgrow.output, hgrow.size, hgrow.block⟩

theorem rpost_set {w W : World} {o : List Int × ByteArray × Int} {a : Option Addr} {c n : Nat} {zs : List Int} {r : ByteArray} {sz : Int} (ho : o = (zs, r, sz)) (hn : zs.length = n) (hr : Rd W a zs) (hb : Below w.heap.size w W) (hne : ∀ b o s, a = some ⟨b, o, s⟩ → b ≠ w.heap.size + 1) (x0 x1 x2 : Value) :
    RPost w o (.returned (hash a n c r sz)) (((W.setCell ⟨w.heap.size + 1, 0, none⟩ x0).setCell ⟨w.heap.size + 1, 1, none⟩ x1).setCell ⟨w.heap.size + 1, 2, none⟩ x2) := by
  subst ho hn
  refine ⟨a, c, rfl, hr.block (fun b o' e hlt => ?_), ((hb.setCell (by simp) _).setCell (by simp) _).setCell (by simp) _⟩
  have := hne b o' none e
  rw [Below.heap_setCell _ _ _ _ (by simpa using this), Below.heap_setCell _ _ _ _ (by simpa using this), Below.heap_setCell _ _ _ _ (by simpa using this)]

end Go.Proofs.YtmoojhnblakdhaaGreat.sha
namespace Go.Proofs.YtmoojhnblakdhaaGreat.fnExactHex
open Go.ChangeShapes Go.WideShapes Go.ChangeAt Go.RowKit
open Go.Proofs.YtmoojhnblakdhaaGreat.base
open Go.ChangeMaps (open_string shut_string)
set_option linter.unusedVariables false

theorem own : ownKnob Tryz.prog.godebug = none := by kernel_rfl
theorem info5 : (Tryz.prog.info? 5).map (fun i => (i.zero, i.size, i.bytes)) = some (some (.int .u8 0), 1, 1) := by kernel_rfl

/-- a digit of sixteen -/
def hd (n : Nat) : UInt8 := if n < 10 then UInt8.ofNat (48 + n) else UInt8.ofNat (87 + n)
def hexL (l : List UInt8) : List UInt8 := l.flatMap fun c => [hd (c.toNat / 16), hd (c.toNat % 16)]
theorem hexL_len (l : List UInt8) : (hexL l).length = 2 * l.length := by
  induction l with
  | nil => rfl
  | cons c l ih => simp only [hexL, List.flatMap_cons, List.length_append, List.length_cons, List.length_nil] at *; omega
theorem hexL_snoc (l : List UInt8) (c : UInt8) : hexL (l ++ [c]) = hexL l ++ [hd (c.toNat / 16), hd (c.toNat % 16)] := by
  simp [hexL]

theorem dig_at : ∀ n : Fin 16, (⟨#[48, 49, 50, 51, 52, 53, 54, 55, 56, 57, 97, 98, 99, 100, 101, 102]⟩ : ByteArray)[n.val]'n.isLt = hd n.val := by decide +kernel
theorem dig_hi (c : UInt8) : ∀ h, (⟨#[48, 49, 50, 51, 52, 53, 54, 55, 56, 57, 97, 98, 99, 100, 101, 102]⟩ : ByteArray)[(IntKind.u8.wrap ((c.toNat : Int) / 16)).toNat]'h = hd (c.toNat / 16) := by
  have hc := c.toNat_lt
  have e : (IntKind.u8.wrap ((c.toNat : Int) / 16)).toNat = c.toNat / 16 := by rw [IntKind.wrap_u8']; omega
  simp only [e]
  intro _
  exact dig_at ⟨c.toNat / 16, by omega⟩
theorem dig_lo (c : UInt8) : ∀ h, (⟨#[48, 49, 50, 51, 52, 53, 54, 55, 56, 57, 97, 98, 99, 100, 101, 102]⟩ : ByteArray)[((c.toNat : Int).tmod 16).toNat]'h = hd (c.toNat % 16) := by
  have hc := c.toNat_lt
  have e : ((c.toNat : Int).tmod 16).toNat = c.toNat % 16 := by rw [Int.tmod_eq_emod_of_nonneg (by omega)]; omega
  simp only [e]
  intro _
  exact dig_at ⟨c.toNat % 16, by omega⟩
theorem hi_lt (c : UInt8) : IntKind.u8.wrap ((c.toNat : Int) / 16) < 16 := by
  have := c.toNat_lt
  rw [IntKind.wrap_u8']; omega
theorem lo_eq (c : UInt8) : (c.toNat : Int).tmod 16 = ((c.toNat % 16 : Nat) : Int) := by
  rw [Int.tmod_eq_emod_of_nonneg (by omega)]; omega
theorem lo_ge (c : UInt8) : 0 ≤ (c.toNat : Int).tmod 16 := by rw [lo_eq]; omega
theorem lo_lt (c : UInt8) : (c.toNat : Int).tmod 16 < 16 := by rw [lo_eq]; omega

end Go.Proofs.YtmoojhnblakdhaaGreat.fnExactHex
namespace Go.Proofs.YtmoojhnblakdhaaGreat.sha
open Go.RowKit Go.Joins
open Go.Proofs.YtmoojhnblakdhaaGreat.base Go.Proofs.YtmoojhnblakdhaaGreat.word Go.Proofs.YtmoojhnblakdhaaGreat.ints Go.Proofs.YtmoojhnblakdhaaGreat.blk
set_option linter.unusedVariables false

theorem nil_app (t : ByteArray) : (⟨#[]⟩ : ByteArray) ++ t = t := by
  apply ByteArray.ext
  simp
theorem rest_size (t : ByteArray) : (rest t).size = t.size % 64 := by
  unfold rest
  simp
  omega
theorem dig_size (z : Nat → Int) (r : ByteArray) (size : Int) : (dig z r size).size = 32 := by
  unfold dig
  show (digL _ 8).toArray.size = 32
  rw [List.size_toArray, digL_len]

set_option maxRecDepth 100000 in
theorem digest_any (t : ByteArray) (w : World) (ht : t.size ≤ 1048576) :
    Calls Tryz.prog 21 #[.string t] w fun e w' => e = .returned (.string (digest t)) ∧ Below w.heap.size w w' := by
  go_enter Tryz.func21, Tryz.ntmps21
  by_cases h1 : 20000 < (t.size : Int)
  · have E := mkHid (show digest t = ⟨#[]⟩ by unfold digest; rw [if_pos (by omega)])
    go_wp2
    go_ret
    exact ⟨word.ret_eq (by rw [E.out]; rfl), Below.refl _ _⟩
  · have E := mkHid (show digest t = dig (after start t (t.size / 64)) (rest t) t.size by unfold digest; rw [if_neg (by omega)])
    go_wp2_with fail
    refine (begin_any _).mono ?_
    rintro e w1 ⟨rfl, hk, hb1⟩
    have HM := more_any (w.heap.size + 1) 0 8 start ⟨#[]⟩ t 0 w1 (by show 0 + t.size ≤ _; omega) (by omega) (by omega) (fun i hi => by rw [Nat.zero_add]; exact rowF_cell hk hi)
    rw [nil_app, Int.zero_add] at HM
    have HM := mkHid HM
    have B1 := mkHid hb1
    clear hk hb1
    go_wp2_with fail
    refine HM.out.mono ?_
    rintro e w2 ⟨g, c, rfl, hg, hcs, hb2⟩
    have HE := mkHid (end_any g 0 c (after start t (t.size / 64)) (rest t) t.size w2 (fun i hi => by rw [Nat.zero_add]; exact hcs i hi) (by rw [rest_size]; omega) (by omega) (by omega))
    have B2 := mkHid (B1.out.trans (hb2.mono B1.out.size))
    clear hcs hb2 hg HM B1
    go_wp2_with fail
    refine HE.out.mono ?_
    rintro e w3 ⟨rfl, hb3⟩
    have B3 := mkHid (B2.out.trans (hb3.mono B2.out.size))
    clear hb3 B2 HE
    go_wp2
    go_ret
    exact ⟨word.ret_eq (by rw [E.out]; rfl), B3.out⟩

def short (t : ByteArray) : ByteArray := if 20000 < t.size then ⟨#[]⟩ else ⟨(fnExactHex.hexL ((digest t).data.toList.take 4)).toArray⟩

end Go.Proofs.YtmoojhnblakdhaaGreat.sha
