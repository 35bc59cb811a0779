/-
  laws.FnExactHashBegin answers true, where the program's HashBegin answers as told; nothing that was there turns. Condition: what the program's call answers.
-/
import Derived.Test.YtkkndkikfphnbaaAway
import Derived.Test.YtkkndkikfphnbaaHBeginS
namespace Go.Proofs.Ytkkndkikfphnbaa.himpl
open Go.RowKit Go.Joins
open Go.Proofs.Ytkkndkikfphnbaa.base Go.Proofs.Ytkkndkikfphnbaa.ints Go.Proofs.Ytkkndkikfphnbaa.blk Go.Proofs.Ytkkndkikfphnbaa.hashes
open Go.Proofs.Ytkkndkikfphnbaa.sha (hRight startL)
set_option linter.unusedVariables false

theorem start_rd {w : World} {g : Nat} (h : w.heap[g]? = some (sha.rowF .i64 2 8 sha.start)) : Rd w (some ⟨g, 0, none⟩) startL :=
  (sha.rd8 (fun i hi => sha.rowF_cell h hi) : Rd w (some ⟨g, 0, none⟩) (sha.list8 sha.start))

structure Sb (W : World) (b6 b9 : Obj) (B6 B9 : Nat) (ps : List Int) (a6 a9 : Option Addr) (zs9 : List Int) (wx : World) : Prop where
  below : Below W.heap.size W wx
  x6 : wx.heap[B6]? = some b6
  x9 : wx.heap[B9]? = some b9
  r6 : Rd wx a6 ps
  o9 : OwnV wx a9 zs9
theorem Sb.next {W wx w' : World} {b6 b9 : Obj} {B6 B9 : Nat} {ps : List Int} {a6 a9 : Option Addr} {zs9 : List Int} (h : Sb W b6 b9 B6 B9 ps a6 a9 zs9 wx) (hb : Below wx.heap.size wx w') : Sb W b6 b9 B6 B9 ps a6 a9 zs9 w' :=
  ⟨h.below.trans (hb.mono h.below.size), blk_below h.x6 hb, blk_below h.x9 hb, h.r6.below hb, h.o9.below hb⟩
theorem Sb.marked {W wx w' : World} {b6 b9 : Obj} {B6 B9 : Nat} {ps : List Int} {a6 a9 : Option Addr} {zs9 zs' : List Int} (h : Sb W b6 b9 B6 B9 ps a6 a9 zs9 wx) (hg : GrewV wx w' a9) (ho : OwnV w' a9 zs')
    (hne : ∀ b o s, a9 = some ⟨b, o, s⟩ → W.heap.size ≤ b ∧ B6 ≠ b ∧ B9 ≠ b ∧ Away a6 b ps) : Sb W b6 b9 B6 B9 ps a6 a9 zs' w' := by
  cases a9 with
  | none =>
    have hb : Below wx.heap.size wx w' := ⟨hg.os, hg.tape, hg.output, hg.size, fun k hk => hg.block k hk (by simp)⟩
    exact ⟨h.below.trans (hb.mono h.below.size), blk_below h.x6 hb, blk_below h.x9 hb, h.r6.below hb, ho⟩
  | some ad =>
    obtain ⟨b, o, s⟩ := ad
    obtain ⟨e0, e6, e9, e10⟩ := hne b o s rfl
    have hg' : wx.grownBy w' (some b) := hg
    exact ⟨h.below.grown hg' h.below.size (fun k hk => by simp at hk; omega), blk_away h.x6 hg' e6, blk_away h.x9 hg' e9, rd_away h.r6 hg' e10, ho⟩

set_option maxRecDepth 100000 in
set_option maxHeartbeats 4000000 in
theorem begin_walk (I : IBegin) (w : World) :
    Calls Try.prog 3 #[] w fun e w' => e = .returned (.bool true) ∧ Below w.heap.size w w' := by
  have HS : Hid (∀ wx, Calls Try.prog 5 #[] wx fun e w' => ∃ g6, e = .returned (.agg #[.slice (some ⟨g6, 0, none⟩) 8 8, .string ⟨#[]⟩, .int .i64 0]) ∧ Rd w' (some ⟨g6, 0, none⟩) startL ∧ Below wx.heap.size wx w') := mkHid (fun wx => (sha.begin_any wx).mono (by rintro e w' ⟨rfl, h1, h2⟩; exact ⟨_, rfl, start_rd h1, h2⟩))
  have HP : Hid (∀ wx, Calls Try.prog 6 #[] wx fun e w' => ∃ a9 c9, e = .returned (.agg #[.slice a9 8 c9, .string ⟨#[]⟩, .int .i64 0]) ∧ OwnV w' a9 startL ∧ Fresh wx a9 ∧ Below wx.heap.size wx w') := mkHid (fun wx => I wx)
  have HE : Hid (∀ wx a c a' c', Rd wx a startL → Rd wx a' startL → Calls Try.prog 7 #[.agg #[.slice a 8 c, .string ⟨#[]⟩, .int .i64 0], .agg #[.slice a' 8 c', .string ⟨#[]⟩, .int .i64 0]] wx fun e w' => e = .returned (.bool true) ∧ Below wx.heap.size wx w') :=
    mkHid (fun wx a c a' c' h1 h2 => (eqH_any a a' c c' startL startL ⟨#[]⟩ ⟨#[]⟩ 0 0 wx (by decide) (by decide) h1 h2).mono (by rintro e w' ⟨rfl, hb⟩; exact ⟨ints.ret_eq (by simp), hb⟩))
  have HM : Hid (∀ wx a c, OwnV wx a startL → Calls Try.prog 8 #[.agg #[.slice a 8 c, .string ⟨#[]⟩, .int .i64 0], .int .i64 1] wx fun e w' => e = .returned (.int .i64 9) ∧ OwnV w' a (from_ 1 8) ∧ GrewV wx w' a) := mkHid (fun wx a c h => markH_any a c startL ⟨#[]⟩ 0 1 wx (by decide) (by omega) (by omega) h)
  have HH : Hid (∀ wx a c, Rd wx a (from_ 1 8) → Calls Try.prog 9 #[.agg #[.slice a 8 c, .string ⟨#[]⟩, .int .i64 0], .int .i64 1] wx fun e w' => e = .returned (.int .i64 9) ∧ Below wx.heap.size wx w') := mkHid (fun wx a c h => heldH_any a c 8 ⟨#[]⟩ 0 1 wx (by omega) (by omega) (by omega) h)
  clear I
  go_enter Try.func3, Try.ntmps3
  go_wp2_with fail
  refine (HS.out _).mono ?_
  rintro e w1 ⟨g6, rfl, hr6, hb1⟩
  have B1 := mkHid (And.intro hb1 hr6)
  clear hb1 hr6
  go_wp2_with fail
  refine (HP.out _).mono ?_
  rintro e w2 ⟨a9, c9, rfl, ho9, hf9, hb2'⟩
  have k6 := blk_below (blk_new w1 (.cells #[.slice (some ⟨g6, 0, none⟩) 8 8, .string ⟨#[]⟩, .int .i64 0] 24) w1.heap.size rfl) hb2'
  have hb2 := below_allocs (os := [_]) hb2'
  have hs2 := hb2'.size
  simp at hs2
  have hF9 : ∀ b o s, a9 = some ⟨b, o, s⟩ → w.heap.size ≤ b ∧ w1.heap.size ≠ b ∧ w2.heap.size ≠ b ∧ Away (some ⟨g6, 0, none⟩) b startL := fun b o s e => by
    have q1 := hf9 b o s e
    simp at q1
    have q2 : b < w2.heap.size := by
      rcases ho9 with ⟨rfl, _⟩ | ⟨k, rfl, hk⟩
      · simp at e
      · simp at e; have := hk.lt; omega
    have q3 := B1.out.1.size
    exact ⟨by omega, by omega, by omega, away_new B1.out.2 (by omega)⟩
  have S2 : Hid (Sb w (.cells #[.slice (some ⟨g6, 0, none⟩) 8 8, .string ⟨#[]⟩, .int .i64 0] 24) (.cells #[.slice a9 8 c9, .string ⟨#[]⟩, .int .i64 0] 24) w1.heap.size w2.heap.size startL (some ⟨g6, 0, none⟩) a9 startL (w2.alloc (.cells #[.slice a9 8 c9, .string ⟨#[]⟩, .int .i64 0] 24))) := mkHid ⟨(B1.out.1.trans (hb2.mono B1.out.1.size)).alloc (by have := B1.out.1.size; omega) _, blk_old k6 _, blk_new w2 _ w2.heap.size rfl, (Rd.below B1.out.2 hb2).alloc _, ho9.alloc _⟩
  have D2 := mkHid hF9
  have s0 : w2.cell? ⟨w1.heap.size, 0, none⟩ = some (.slice (some ⟨g6, 0, none⟩) 8 8) := cell_of_block (k6) 0
  have s1 : w2.cell? ⟨w1.heap.size, 1, none⟩ = some (.string ⟨#[]⟩) := cell_of_block (k6) 1
  have s2 : w2.cell? ⟨w1.heap.size, 2, none⟩ = some (.int .i64 0) := cell_of_block (k6) 2
  have hlt2 : w1.heap.size < w2.heap.size := by omega
  have hnq2 : ¬ (w1.heap.size = w2.heap.size) := by omega
  clear hb2 hb2' ho9 hf9 hF9 B1 k6 hs2
  go_wp2_with fail
  refine (HE.out _ _ _ _ _ S2.out.o9.rd S2.out.r6).mono ?_
  rintro e w3 ⟨rfl, hb3⟩
  have S3 := mkHid (S2.out.next hb3)
  have t0 : w3.cell? ⟨w2.heap.size, 0, none⟩ = some (.slice a9 8 c9) := cell_of_block (S3.out.x9) 0
  have t1 : w3.cell? ⟨w2.heap.size, 1, none⟩ = some (.string ⟨#[]⟩) := cell_of_block (S3.out.x9) 1
  have t2 : w3.cell? ⟨w2.heap.size, 2, none⟩ = some (.int .i64 0) := cell_of_block (S3.out.x9) 2
  clear hb3 S2 s0 s1 s2 hlt2 hnq2
  go_wp2_with fail
  refine (HM.out _ _ _ S3.out.o9).mono ?_
  rintro e w4 ⟨rfl, ho4, hg4⟩
  have S4 := mkHid (S3.out.marked hg4 ho4 D2.out)
  have s0 : w4.cell? ⟨w2.heap.size, 0, none⟩ = some (.slice a9 8 c9) := cell_of_block (S4.out.x9) 0
  have s1 : w4.cell? ⟨w2.heap.size, 1, none⟩ = some (.string ⟨#[]⟩) := cell_of_block (S4.out.x9) 1
  have s2 : w4.cell? ⟨w2.heap.size, 2, none⟩ = some (.int .i64 0) := cell_of_block (S4.out.x9) 2
  clear ho4 hg4 S3 t0 t1 t2
  go_wp2_with fail
  refine (HH.out _ _ _ S4.out.o9.rd).mono ?_
  rintro e w5 ⟨rfl, hb5⟩
  have S5 := mkHid (S4.out.next hb5)
  clear hb5 S4 s0 s1 s2
  go_wp2_with fail
  refine (HP.out _).mono ?_
  rintro e w6 ⟨a6, c6, rfl, ho6, hf6, hb6⟩
  have S6 := mkHid (And.intro (S5.out.next hb6) ho6)
  have s0 : w6.cell? ⟨w1.heap.size, 0, none⟩ = some (.slice (some ⟨g6, 0, none⟩) 8 8) := cell_of_block (S6.out.1.x6) 0
  have s1 : w6.cell? ⟨w1.heap.size, 1, none⟩ = some (.string ⟨#[]⟩) := cell_of_block (S6.out.1.x6) 1
  have s2 : w6.cell? ⟨w1.heap.size, 2, none⟩ = some (.int .i64 0) := cell_of_block (S6.out.1.x6) 2
  have hlt6 : w1.heap.size < w6.heap.size := (Array.getElem?_eq_some_iff.1 S6.out.1.x6).1
  have hnq6 : ¬ (w1.heap.size = w6.heap.size) := by omega
  clear hb6 ho6 hf6 S5
  go_wp2_with fail
  refine (HE.out _ _ _ _ _ (S6.out.2.rd.alloc _) (S6.out.1.r6.alloc _)).mono ?_
  rintro e w7 ⟨rfl, hb7⟩
  have S7 := mkHid (S6.out.1.next (below_allocs (os := [_]) hb7))
  have t0 : w7.cell? ⟨w2.heap.size, 0, none⟩ = some (.slice a9 8 c9) := cell_of_block (S7.out.x9) 0
  have t1 : w7.cell? ⟨w2.heap.size, 1, none⟩ = some (.string ⟨#[]⟩) := cell_of_block (S7.out.x9) 1
  have t2 : w7.cell? ⟨w2.heap.size, 2, none⟩ = some (.int .i64 0) := cell_of_block (S7.out.x9) 2
  clear hb7 S6 s0 s1 s2 hlt6 hnq6
  go_wp2_with fail
  refine (HH.out _ _ _ S7.out.o9.rd).mono ?_
  rintro e w8 ⟨rfl, hb8⟩
  have S8 := mkHid (S7.out.next hb8)
  clear hb8 S7 t0 t1 t2
  go_wp2
  go_ret
  exact ⟨rfl, S8.out.below⟩
end Go.Proofs.Ytkkndkikfphnbaa.himpl
