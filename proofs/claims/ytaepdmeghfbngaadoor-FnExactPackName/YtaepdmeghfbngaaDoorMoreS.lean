/-
  What spec.l05More answers and leaves. Conditions: a state of eight numbers, which lie in memory; at most 2,000,000 bytes in all; a size of at most 2^41.
-/
import Derived.Test.YtaepdmeghfbngaaDoorShaS
import Derived.Deep.RegionWith
import Derived.Laws.DeepStrings4
namespace Go.Proofs.YtaepdmeghfbngaaDoor.sha
open Go.RowKit Go.Joins
open Go.Proofs.YtaepdmeghfbngaaDoor.base Go.Proofs.YtaepdmeghfbngaaDoor.word Go.Proofs.YtaepdmeghfbngaaDoor.ints Go.Proofs.YtaepdmeghfbngaaDoor.blk
set_option linter.unusedVariables false
attribute [local go_sem ↓] app_fold

/-- the state behind so many blocks of a text -/
def after (z : Nat → Int) (s : ByteArray) : Nat → (Nat → Int)
  | 0 => z
  | j + 1 => block (after z s j) (wordAt (s.extract (64 * j) (64 * j + 64)))
/-- what stands behind the whole blocks of a text -/
def rest (s : ByteArray) : ByteArray := s.extract (64 * (s.size / 64)) s.size
def HPost (w : World) (f : Nat → Int) (r : ByteArray) (size : Int) (e : Ending) (w' : World) : Prop :=
  ∃ g c, e = .returned (hash (some ⟨g, 0, none⟩) 8 c r size) ∧ w.heap.size ≤ g ∧ (∀ i, i < 8 → w'.cell? ⟨g, i, none⟩ = some (.int .i64 (f i))) ∧ Below w.heap.size w w'

/-- the variable that is built up -/
structure Mo (w : World) (p g c : Nat) (f : Nat → Int) (s : ByteArray) (sz : Int) (wr : World) : Prop where
  below : Below w.heap.size w wr
  res : wr.heap[w.heap.size + 1]? = some zeroH
  out : wr.heap[p]? = some (.cells #[.slice (some ⟨g, 0, none⟩) 8 c, .string s, .int .i64 sz] 28)
  cells : ∀ i, i < 8 → wr.cell? ⟨g, i, none⟩ = some (.int .i64 (f i))
  hp : w.heap.size + 1 < p
  hg : w.heap.size + 1 < g
  ne : g ≠ p

theorem Mo.next {w wr w1 : World} {p g c g' c' : Nat} {f f' : Nat → Int} {s : ByteArray} {sz : Int} (h : Mo w p g c f s sz wr) (hb : Below wr.heap.size wr w1) (hg' : wr.heap.size ≤ g') (hc : ∀ i, i < 8 → w1.cell? ⟨g', i, none⟩ = some (.int .i64 (f' i))) :
    Mo w p g' c' f' s sz (w1.setCell ⟨p, 0, none⟩ (.slice (some ⟨g', 0, none⟩) 8 c')) := by
  have hp : p < wr.heap.size := (Array.getElem?_eq_some_iff.1 h.out).1
  have hpp := h.hp
  refine ⟨((h.below.trans (hb.mono h.below.size)).setCell (by simp; omega) _), blk_set (blk_below h.res hb) _ _ (by simp; omega), ?_, fun i hi => ?_, h.hp, by omega, by omega⟩
  · rw [block_setCell (blk_below h.out hb)]
    simp
  · rw [World.cell?_setCell_other w1 _ _ _ (fun e => by injection e; omega)]
    exact hc i hi

theorem grown_blk {W w2 : World} {r : Option Nat} {j : Nat} {x : Obj} (h : W.heap[j]? = some x) (hg : W.grownBy w2 r) (hne : some j ≠ r) : w2.heap[j]? = some x :=
  (hg.block j (Array.getElem?_eq_some_iff.1 h).1 hne).trans h
theorem grown_below {B j : Nat} {w W w2 : World} (hB : Below B w W) (hs : B ≤ W.heap.size) (hg : W.grownBy w2 (some j)) (hj : B ≤ j) : Below B w w2 :=
  hB.grown hg hs (fun k hk => by injection hk; omega)

/-- append of the eight numbers to an empty row of our own -/
theorem app8 (b0 off cap : Nat) (z : Nat → Int) (W : World) (base : Nat) (v : Value) (hown : W.ownsRow base 2 1 v 0 []) (hb : base ≤ W.heap.size) (hr : ∀ i, i < 8 → W.cell? ⟨b0, off + i, none⟩ = some (.int .i64 (z i))) :
    ∃ g c w2, (appSem #[26, 26] 26 #[v, .slice (some ⟨b0, off, none⟩) 8 cap]).run Tryd.prog W.drew = .ok (.slice (some ⟨g, 0, none⟩) 8 c) w2 ∧ base ≤ g ∧ g < w2.heap.size ∧ (∀ i, i < 8 → w2.cell? ⟨g, i, none⟩ = some (.int .i64 (z i))) ∧ W.grownBy w2 v.ownBlock := by
  obtain ⟨i0, hi, hz0, hz1, hz2⟩ := info_parts info2
  obtain ⟨v', w2, happ0, hown2, hgrow, _⟩ := run_append_own (P := Tryd.prog) W.drew base 26 26 2 i0 (.int .i64 0) 1 8 Tryd.underlying26 hi hz0 hz1 hz2 rfl (by decide) v 0 [] hown ⟨b0, off, none⟩ 8 cap ((List.range 8).map fun i => Value.int .i64 (z i)) (by simp) (by
      intro j u hj
      rw [List.getElem?_map] at hj
      by_cases h8 : j < 8
      · rw [List.getElem?_range h8] at hj
        simp at hj
        subst hj
        rw [Addr.add_lit]
        exact hr j h8
      · rw [List.getElem?_eq_none (by simp; omega)] at hj
        simp at hj) (by intro u hu; rw [List.mem_map] at hu; obtain ⟨j, _, rfl⟩ := hu; rfl) (by decide) (by decide) hb
  obtain ⟨g, c, rfl⟩ := ownsRow_form hown2 (by omega)
  refine ⟨g, c, w2, happ0, (hown2.lt g rfl).1, (hown2.lt g rfl).2, fun i hi => ?_, ⟨hgrow.os, hgrow.tape, hgrow.output, hgrow.size, hgrow.block⟩⟩
  have := hown2.cells rfl i (.int .i64 (z i)) (by simp [hi])
  rw [Addr.add_lit, Nat.zero_add] at this
  exact this

theorem Mo.store {w w2 : World} {p g c : Nat} {z : Nat → Int} {s : ByteArray} {sz : Int} (hL : Below w.heap.size w w2) (hy : w2.heap[w.heap.size + 1]? = some zeroH) (hn : w2.heap[p]? = some zeroH) (hc : ∀ i, i < 8 → w2.cell? ⟨g, i, none⟩ = some (.int .i64 (z i))) (hp : w.heap.size + 1 < p) (hg : w.heap.size + 1 < g) :
    Mo w p g c z s sz (((w2.setCell ⟨p, 0, none⟩ (.slice (some ⟨g, 0, none⟩) 8 c)).setCell ⟨p, 1, none⟩ (.string s)).setCell ⟨p, 2, none⟩ (.int .i64 sz)) := by
  have ne : g ≠ p := by
    intro e
    have h0 := hc 0 (by omega)
    rw [e, cell_of_block hn] at h0
    simp at h0
  refine ⟨((hL.setCell (by simp; omega) _).setCell (by simp; omega) _).setCell (by simp; omega) _, blk_set (blk_set (blk_set hy _ _ (by simp; omega)) _ _ (by simp; omega)) _ _ (by simp; omega), ?_, fun i hi => ?_, hp, hg, ne⟩
  · rw [block_setCell (block_setCell (block_setCell hn _) _)]
    simp
  · rw [World.cell?_setCell_other _ _ _ _ (fun e => by injection e; omega), World.cell?_setCell_other _ _ _ _ (fun e => by injection e; omega), World.cell?_setCell_other _ _ _ _ (fun e => by injection e; omega)]
    exact hc i hi
theorem Mo.made {w w1 : World} {g c : Nat} {z : Nat → Int} {s : ByteArray} {sz : Int} (hL : Below w.heap.size w w1) (hy : w1.heap[w.heap.size + 1]? = some zeroH) (hc : ∀ i, i < 8 → w1.cell? ⟨g, i, none⟩ = some (.int .i64 (z i))) (hg : w.heap.size + 1 < g) (hg1 : g < w1.heap.size) :
    Mo w w1.heap.size g c z s sz (w1.alloc (.cells #[.slice (some ⟨g, 0, none⟩) 8 c, .string s, .int .i64 sz] 28)) :=
  ⟨hL.alloc hL.size _, blk_old hy _, blk_new w1 _ _ rfl, fun i hi => by
    have B := (Below.refl w1.heap.size w1).alloc (Nat.le_refl _) (.cells #[.slice (some ⟨g, 0, none⟩) 8 c, .string s, .int .i64 sz] 28)
    rw [B.cell (p := ⟨g, i, none⟩) hg1]
    exact hc i hi, by omega, hg, by omega⟩

theorem Mo.done {w wr : World} {p g c : Nat} {f : Nat → Int} {s r : ByteArray} {sz : Int} (h : Mo w p g c f s sz wr) (x x0 x1 x2 : Value) :
    HPost w f r sz (.returned (hash (some ⟨g, 0, none⟩) 8 c r sz)) ((((wr.setCell ⟨p, 1, none⟩ x).setCell ⟨w.heap.size + 1, 0, none⟩ x0).setCell ⟨w.heap.size + 1, 1, none⟩ x1).setCell ⟨w.heap.size + 1, 2, none⟩ x2) := by
  have hg := h.hg
  have hp := h.hp
  have ne := h.ne
  refine ⟨g, c, rfl, by omega, fun i hi => ?_, (((h.below.setCell (by simp; omega) _).setCell (by simp) _).setCell (by simp) _).setCell (by simp) _⟩
  rw [World.cell?_setCell_other _ _ _ _ (fun e => by injection e; omega), World.cell?_setCell_other _ _ _ _ (fun e => by injection e; omega), World.cell?_setCell_other _ _ _ _ (fun e => by injection e; omega), World.cell?_setCell_other _ _ _ _ (fun e => by injection e; omega)]
  exact h.cells i hi

set_option maxRecDepth 100000 in
set_option maxHeartbeats 1000000 in
theorem more_s (b0 off cap : Nat) (z : Nat → Int) (r t s : ByteArray) (HH : Hid (s = r ++ t)) (size : Int) (w : World) (hs : r.size + t.size ≤ 2000000) (h0 : 0 ≤ size) (h1 : size ≤ 2199023255552) (hr : ∀ i, i < 8 → w.cell? ⟨b0, off + i, none⟩ = some (.int .i64 (z i))) :
    Calls Tryd.prog 11 #[hash (some ⟨b0, off, none⟩) 8 cap r size, .string t] w fun e w' => HPost w (after z s (s.size / 64)) (rest s) (size + t.size) e w' := by
  unfold hash
  go_enter Tryd.func11, Tryd.ntmps11
  go_wp2
  have k0 := blk_old (blk_new w (.cells #[.slice (some ⟨b0, off, none⟩) 8 cap, .string r, .int .i64 size] 28) w.heap.size rfl) zeroH
  have k1 := blk_new (w.alloc (.cells #[.slice (some ⟨b0, off, none⟩) 8 cap, .string r, .int .i64 size] 28)) zeroH (w.heap.size + 1) (by simp)
  have B := below_alloc2 w (.cells #[.slice (some ⟨b0, off, none⟩) 8 cap, .string r, .int .i64 size] 28) zeroH
  unfold zeroH at k0 k1 B
  generalize (w.alloc (.cells #[.slice (some ⟨b0, off, none⟩) 8 cap, .string r, .int .i64 size] 28)).alloc (.cells #[.slice none 0 0, .string ⟨#[]⟩, .int .i64 0] 28) = W at *
  have hW : w.heap.size + 1 < W.heap.size := (Array.getElem?_eq_some_iff.1 k1).1
  have hb0 : ∀ i, i < 8 → b0 < w.heap.size := fun i hi => World.block_lt_of_cell? w ⟨b0, off + i, none⟩ (hr i hi)
  have B1 := B.alloc B.size (.cells #[] 2)
  have B2 := B1.alloc B1.size zeroH
  have B3 := B.alloc B.size zeroH
  have B4 := B3.alloc B3.size (.cells #[] 2)
  obtain ⟨g1, c1, w1, a1, g1a, g1b, g1c, g1d⟩ := app8 b0 off cap z (W.alloc (.cells #[] 2)) W.heap.size (.slice (some ⟨W.heap.size, 0, none⟩) 0 0) (World.ownsRow_made W #[] 0 (Nat.le_refl _) (by decide) rfl) (by simp) (fun i hi => (B1.cell (p := ⟨b0, off + i, none⟩) (hb0 i hi)).trans (hr i hi))
  obtain ⟨g2, c2, w2, a2, g2a, g2b, g2c, g2d⟩ := app8 b0 off cap z ((W.alloc (.cells #[] 2)).alloc zeroH) W.heap.size (.slice (some ⟨W.heap.size, 0, none⟩) 0 0) ((World.ownsRow_made W #[] 0 (Nat.le_refl _) (by decide) rfl).alloc zeroH) (by simp; omega) (fun i hi => (B2.cell (p := ⟨b0, off + i, none⟩) (hb0 i hi)).trans (hr i hi))
  obtain ⟨g3, c3, w3, a3, g3a, g3b, g3c, g3d⟩ := app8 b0 off cap z ((W.alloc zeroH).alloc (.cells #[] 2)) (W.alloc zeroH).heap.size (.slice (some ⟨(W.alloc zeroH).heap.size, 0, none⟩) 0 0) (World.ownsRow_made (W.alloc zeroH) #[] 0 (Nat.le_refl _) (by decide) rfl) (by simp) (fun i hi => (B4.cell (p := ⟨b0, off + i, none⟩) (hb0 i hi)).trans (hr i hi))
  have e3 : (W.alloc zeroH).heap.size = W.heap.size + 1 := by simp
  rw [e3] at a3 g3a g3d
  replace g1d : (W.alloc (.cells #[] 2)).grownBy w1 (some W.heap.size) := g1d
  replace g2d : ((W.alloc (.cells #[] 2)).alloc zeroH).grownBy w2 (some W.heap.size) := g2d
  replace g3d : ((W.alloc zeroH).alloc (.cells #[] 2)).grownBy w3 (some (W.heap.size + 1)) := g3d
  have hne0 : ¬ w.heap.size = W.heap.size := by omega
  have hne1 : ¬ w.heap.size = W.heap.size + 1 := by omega
  -- the box, the answer's variable and the new variable in each world
  have x1 := grown_blk (blk_old k0 (.cells #[] 2)) g1d (fun e => by injection e; omega)
  have x2 := grown_blk (blk_old (blk_old k0 (.cells #[] 2)) zeroH) g2d (fun e => by injection e; omega)
  have x3 := grown_blk (blk_old (blk_old k0 zeroH) (.cells #[] 2)) g3d (fun e => by injection e; omega)
  have y1 := grown_blk (blk_old k1 (.cells #[] 2)) g1d (fun e => by injection e; omega)
  have y2 := grown_blk (blk_old (blk_old k1 (.cells #[] 2)) zeroH) g2d (fun e => by injection e; omega)
  have y3 := grown_blk (blk_old (blk_old k1 zeroH) (.cells #[] 2)) g3d (fun e => by injection e; omega)
  have n2 := grown_blk (blk_new (W.alloc (.cells #[] 2)) zeroH (W.heap.size + 1) (by simp)) g2d (fun e => by injection e; omega)
  have n3 := grown_blk (blk_old (blk_new W zeroH W.heap.size rfl) (.cells #[] 2)) g3d (fun e => by injection e; omega)
  have L1 := grown_below B1 (by simp; omega) g1d (by omega)
  have L2 := grown_below B2 (by simp; omega) g2d (by omega)
  have L3 := grown_below B4 (by simp; omega) g3d (by omega)
  have s1 := g1d.size
  have s2 := g2d.size
  have s3 := g3d.size
  simp at s1 s2 s3
  unfold zeroH at a2 a3 n2 n3
  have p0 : W.cell? ⟨w.heap.size, 0, none⟩ = some (.slice (some ⟨b0, off, none⟩) 8 cap) := cell_of_block k0 0
  have p1 : W.cell? ⟨w.heap.size, 1, none⟩ = some (.string r) := cell_of_block k0 1
  have p2 : W.cell? ⟨w.heap.size, 2, none⟩ = some (.int .i64 size) := cell_of_block k0 2
  have u0 : ∀ o, (W.alloc o).cell? ⟨w.heap.size, 0, none⟩ = some (.slice (some ⟨b0, off, none⟩) 8 cap) := fun o => cell_of_block (blk_old k0 o) 0
  have v0 : ∀ o o', ((W.alloc o).alloc o').cell? ⟨w.heap.size, 0, none⟩ = some (.slice (some ⟨b0, off, none⟩) 8 cap) := fun o o' => cell_of_block (blk_old (blk_old k0 o) o') 0
  have u1 : ∀ o, (W.alloc o).cell? ⟨w.heap.size, 1, none⟩ = some (.string r) := fun o => cell_of_block (blk_old k0 o) 1
  have v1 : ∀ o o', ((W.alloc o).alloc o').cell? ⟨w.heap.size, 1, none⟩ = some (.string r) := fun o o' => cell_of_block (blk_old (blk_old k0 o) o') 1
  have z1 : ∀ o, (w1.alloc o).cell? ⟨w.heap.size, 1, none⟩ = some (.string r) := fun o => cell_of_block (blk_old x1 o) 1
  have u2 : ∀ o, (W.alloc o).cell? ⟨w.heap.size, 2, none⟩ = some (.int .i64 size) := fun o => cell_of_block (blk_old k0 o) 2
  have v2 : ∀ o o', ((W.alloc o).alloc o').cell? ⟨w.heap.size, 2, none⟩ = some (.int .i64 size) := fun o o' => cell_of_block (blk_old (blk_old k0 o) o') 2
  have z2 : ∀ o, (w1.alloc o).cell? ⟨w.heap.size, 2, none⟩ = some (.int .i64 size) := fun o => cell_of_block (blk_old x1 o) 2
  have p10 : w1.cell? ⟨w.heap.size, 1, none⟩ = some (.string r) := cell_of_block x1 1
  have p11 : w1.cell? ⟨w.heap.size, 2, none⟩ = some (.int .i64 size) := cell_of_block x1 2
  have p20 : w2.cell? ⟨w.heap.size, 1, none⟩ = some (.string r) := cell_of_block x2 1
  have p21 : w2.cell? ⟨w.heap.size, 2, none⟩ = some (.int .i64 size) := cell_of_block x2 2
  have p30 : w3.cell? ⟨w.heap.size, 1, none⟩ = some (.string r) := cell_of_block x3 1
  have p31 : w3.cell? ⟨w.heap.size, 2, none⟩ = some (.int .i64 size) := cell_of_block x3 2
  have q20 : w2.cell? ⟨W.heap.size + 1, 0, none⟩ = some (.slice none 0 0) := cell_of_block n2 0
  have q21 : w2.cell? ⟨W.heap.size + 1, 1, none⟩ = some (.string ⟨#[]⟩) := cell_of_block n2 1
  have q22 : w2.cell? ⟨W.heap.size + 1, 2, none⟩ = some (.int .i64 0) := cell_of_block n2 2
  have q2f : ∀ j, w2.frozen? ⟨W.heap.size + 1, j, none⟩ = false := unfrozen_of_block n2
  have q30 : w3.cell? ⟨W.heap.size, 0, none⟩ = some (.slice none 0 0) := cell_of_block n3 0
  have q31 : w3.cell? ⟨W.heap.size, 1, none⟩ = some (.string ⟨#[]⟩) := cell_of_block n3 1
  have q32 : w3.cell? ⟨W.heap.size, 2, none⟩ = some (.int .i64 0) := cell_of_block n3 2
  have q3f : ∀ j, w3.frozen? ⟨W.heap.size, j, none⟩ = false := unfrozen_of_block n3
  have m1 : ¬ w.heap.size = w1.heap.size := by omega
  have hst : (r.size : Int) + (t.size : Int) ≤ 2000000 := by omega
  have HX := mkHid (And.intro (And.intro y1 (And.intro y2 y3)) (And.intro (And.intro L1 (And.intro L2 L3)) (And.intro (And.intro n2 n3) (And.intro (And.intro g1c (And.intro g2c g3c)) (And.intro (And.intro g1a (And.intro g2a g3a)) (And.intro (And.intro g1b (And.intro g2b g3b)) (And.intro s1 (And.intro s2 s3))))))))
  clear y1 y2 y3 L1 L2 L3 n2 n3 g1c g2c g3c g1a g2a g3a g1b g2b g3b s1 s2 s3 g1d g2d g3d x1 x2 x3 k0 k1 B B1 B2 B3 B4 hr hb0 e3
  go_cut [5] (fun s5 wx => ∃ p g c, s5 = .pointer (some ⟨p, 0, none⟩) ∧ Hid (Mo w p g c z (r ++ t) (size + t.size) wx))
  case first =>
    go_region
    all_goals go_wp2
    all_goals go_meet
    · obtain ⟨⟨y1, y2, y3⟩, ⟨L1, L2, L3⟩, ⟨n2, n3⟩, ⟨g1c, g2c, g3c⟩, ⟨g1a, g2a, g3a⟩, ⟨g1b, g2b, g3b⟩, s1, s2, s3⟩ := HX.out
      exact ⟨_, _, _, rfl, mkHid (Mo.made L1 y1 g1c (by omega) g1b)⟩
    · obtain ⟨⟨y1, y2, y3⟩, ⟨L1, L2, L3⟩, ⟨n2, n3⟩, ⟨g1c, g2c, g3c⟩, ⟨g1a, g2a, g3a⟩, ⟨g1b, g2b, g3b⟩, s1, s2, s3⟩ := HX.out
      exact ⟨_, _, _, rfl, mkHid (Mo.store L2 y2 n2 g2c (by omega) (by omega))⟩
    · obtain ⟨⟨y1, y2, y3⟩, ⟨L1, L2, L3⟩, ⟨n2, n3⟩, ⟨g1c, g2c, g3c⟩, ⟨g1a, g2a, g3a⟩, ⟨g1b, g2b, g3b⟩, s1, s2, s3⟩ := HX.out
      exact ⟨_, _, _, rfl, mkHid (Mo.store L3 y3 n3 g3c (by omega) (by omega))⟩
  case rest =>
    obtain ⟨p, g, c, rfl, hmo⟩ := hcut
    clear HX
    have hsz : s.size ≤ 2000000 := by rw [HH.out]; simp; omega
    rw [← HH.out] at hmo
    clear p0 p1 p2 p10 p11 p20 p21 p30 p31 q20 q21 q22 q2f q30 q31 q32 q3f u0 u1 u2 v0 v1 v2 z1 z2 a1 a2 a3 m1 hne0 hne1 hW hs hst
    go_wp2
    go_loopw [6] (fun i wr => ∃ (k at_ g c : Nat), k ≤ s.size / 64 ∧ i = .int .i64 at_ ∧ Hid (at_ = 64 * k) ∧ Hid (Mo w p g c (after z s k) s (size + t.size) wr))
      (fun i _ => s.size - (intOf i).toNat)
    case atStart => exact ⟨0, 0, _, _, Nat.zero_le _, rfl, mkHid rfl, hmo⟩
    case round =>
      clear hmo g c
      obtain ⟨k, at_, g, c, hk, rfl, hat, hmo⟩ := hrel
      have o0 : wr.cell? ⟨p, 0, none⟩ = some (.slice (some ⟨g, 0, none⟩) 8 c) := cell_of_block hmo.out.out 0
      have o1 : wr.cell? ⟨p, 1, none⟩ = some (.string s) := cell_of_block hmo.out.out 1
      have o2 : wr.cell? ⟨p, 2, none⟩ = some (.int .i64 (size + t.size)) := cell_of_block hmo.out.out 2
      have of : ∀ j, wr.frozen? ⟨p, j, none⟩ = false := unfrozen_of_block hmo.out.out
      by_cases hlt : k < s.size / 64
      · have hle : (at_ : Int) + 64 ≤ (s.size : Int) := by have := hat.out; omega
        have hsl : ∀ wx, (Instr.slice 9 (.string s) (some (.int .i64 (at_ : Int))) (some (.int .i64 ((at_ : Int) + 64))) none).run Tryd.prog wx = .ok (.string (s.extract at_ (at_ + 64))) wx := fun wx => by
          rw [run_slice_string_if wx 9 s .i64 .i64 (at_ : Int) ((at_ : Int) + 64) Tryd.underlying9, if_pos ⟨by omega, by omega⟩, if_pos ⟨by omega, by omega⟩]
          rfl
        have HB : Hid (∀ wx, (∀ i, i < 8 → wx.cell? ⟨g, i, none⟩ = some (.int .i64 (after z s k i))) → Calls Tryd.prog 17 #[.slice (some ⟨g, 0, none⟩) 8 c, .string (s.extract at_ (at_ + 64))] wx fun e w' => BPost wx (after z s (k + 1)) e w') := mkHid (fun wx hc => by
          have h := block_any g 0 c (after z s k) (s.extract at_ (at_ + 64)) wx (by simp; omega) (fun i hi => by simpa using hc i hi)
          rw [hat.out] at h ⊢
          exact h)
        have hq : IntKind.i64.wrap ((at_ : Int) + 64) = (at_ : Int) + 64 := by simp [IntKind.wrap, IntKind.bits, IntKind.signed]; omega
        go_wp2
        go_region_with (go_at_call 17; refine (HB.out _ (by exact hmo.out.cells)).mono ?_; rintro e w1 ⟨g', c', rfl, hg', hc', hb'⟩; have b1 : Below wr.heap.size wr w1 := ⟨hb'.os, hb'.tape, hb'.output, hb'.size, hb'.block⟩; have M1 := mkHid (hmo.out.next (c' := c') b1 hg' hc'); have n1 := blk_below hmo.out.out b1; have x0 : w1.cell? ⟨p, 0, none⟩ = some (.slice (some ⟨g, 0, none⟩) 8 c) := cell_of_block n1 0; have xf : ∀ j, w1.frozen? ⟨p, j, none⟩ = false := unfrozen_of_block n1; clear n1 b1 hb' hc' hg')
        all_goals go_wp2
        all_goals exact ⟨⟨k + 1, at_ + 64, _, _, by omega, by go_num, mkHid (by have := hat.out; omega), M1⟩, by simp [intOf]; omega⟩
      · have hge : (s.size : Int) - (at_ : Int) < 64 := by have := hat.out; omega
        have hle : (at_ : Int) ≤ (s.size : Int) := by have := hat.out; omega
        have HE : Hid (after z s k = after z s (s.size / 64) ∧ s.extract at_ s.size = rest s) := by
          have e1 : k = s.size / 64 := by omega
          have e2 := hat.out
          subst e1
          exact ⟨rfl, by unfold rest; rw [← e2]⟩
        have r0 : wr.cell? ⟨w.heap.size + 1, 0, none⟩ = some (.slice none 0 0) := cell_of_block hmo.out.res 0
        have r1 : wr.cell? ⟨w.heap.size + 1, 1, none⟩ = some (.string ⟨#[]⟩) := cell_of_block hmo.out.res 1
        have r2 : wr.cell? ⟨w.heap.size + 1, 2, none⟩ = some (.int .i64 0) := cell_of_block hmo.out.res 2
        have rf : ∀ j, wr.frozen? ⟨w.heap.size + 1, j, none⟩ = false := unfrozen_of_block hmo.out.res
        have hne : ¬ w.heap.size + 1 = p := by have := hmo.out.hp; omega
        have hne' : ¬ p = w.heap.size + 1 := by have := hmo.out.hp; omega
        go_wp2
        rw [← HE.out.1, ← HE.out.2]
        exact bodyPost_ret (v := hash (some ⟨g, 0, none⟩) 8 c (s.extract at_ s.size) (size + t.size)) (by simp [results, Tryd.results11, go_sem, r0, r1, r2, hash]) rfl (hmo.out.done _ _ _ _)

theorem more_any (b0 off cap : Nat) (z : Nat → Int) (r t : ByteArray) (size : Int) (w : World) (hs : r.size + t.size ≤ 2000000) (h0 : 0 ≤ size) (h1 : size ≤ 2199023255552) (hr : ∀ i, i < 8 → w.cell? ⟨b0, off + i, none⟩ = some (.int .i64 (z i))) :
    Calls Tryd.prog 11 #[hash (some ⟨b0, off, none⟩) 8 cap r size, .string t] w fun e w' => HPost w (after z (r ++ t) ((r ++ t).size / 64)) (rest (r ++ t)) (size + t.size) e w' :=
  more_s b0 off cap z r t (r ++ t) (mkHid rfl) size w hs h0 h1 hr
end Go.Proofs.YtaepdmeghfbngaaDoor.sha
