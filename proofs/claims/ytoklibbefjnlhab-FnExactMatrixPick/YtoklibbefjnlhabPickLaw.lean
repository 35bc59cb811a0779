/-
  laws.FnExactMatrixPick answers true at every matrix and all rows, and nothing that was there turns. Condition: at most 1,048,576 cells and rows.
-/
import Derived.Test.YtoklibbefjnlhabPickSt
import Derived.Deep.RegionHeld3
namespace Go.Proofs.Ytoklibbefjnlhab.fnExactMatrixPick
open Go.RowKit Go.Joins
open Go.Proofs.Ytoklibbefjnlhab.base Go.Proofs.Ytoklibbefjnlhab.ints Go.Proofs.Ytoklibbefjnlhab.mats Go.Proofs.Ytoklibbefjnlhab.right Go.Proofs.Ytoklibbefjnlhab.pick
set_option linter.unusedVariables false

set_option maxRecDepth 100000 in
set_option maxHeartbeats 4000000 in
theorem walk_in (R C : Int) (a : Option Addr) (cap : Nat) (zs : List Int) (b : Option Addr) (capb : Nat) (rs : List Int) (w : World) (hl : zs.length ≤ 1048576) (hlr : rs.length ≤ 1048576) (hr : Rd w a zs) (hrs : Rd w b rs) :
    Calls Try.prog 4 #[mat R C a zs.length cap, .slice b rs.length capb] w fun e w' => e = .returned (.bool true) ∧ Below w.heap.size w w' := by
  have HT : Hid (∀ wx, Below w.heap.size w wx → Calls Try.prog 7 #[.agg #[.int .i64 R, .int .i64 C, .slice a zs.length cap]] wx fun e w' => ∃ g, e = .returned (.agg #[.int .i64 R, .int .i64 C, .slice (some ⟨g, 0, none⟩) zs.length zs.length]) ∧ wx.heap.size ≤ g ∧ Own w' g zs ∧ Below wx.heap.size wx w') :=
    mkHid (fun wx hb => (toM_any R C a cap zs wx hl (hr.below hb)).mono (by rintro e w' ⟨rfl, h1, h2⟩; exact ⟨_, rfl, by omega, h1, h2⟩))
  have HI : Hid (∀ wx, Below w.heap.size w wx → Calls Try.prog 11 #[.slice b rs.length capb] wx fun e w' => ∃ g, e = .returned (.slice (some ⟨g, 0, none⟩) rs.length rs.length) ∧ wx.heap.size ≤ g ∧ Own w' g rs ∧ Below wx.heap.size wx w') :=
    mkHid (fun wx hb => (to_any b capb rs wx hlr (hrs.below hb)).mono (by rintro e w' ⟨rfl, h1, h2⟩; exact ⟨_, rfl, Nat.le_refl _, h1, h2⟩))
  have hp := pick_len R C zs rs
  have KS := fun wx g h (hg : Own wx g zs) (hh : Own wx h rs) => pick.spec_any R C (some ⟨g, 0, none⟩) (some ⟨h, 0, none⟩) rs.length zs rs wx hl hlr hg.rd hh.rd
  have KI := fun wx g h (hg : Own wx g zs) (hh : Own wx h rs) => picki.impl_any R C (some ⟨g, 0, none⟩) (some ⟨h, 0, none⟩) rs.length zs rs wx hl hlr hg.rd hh.rd
  generalize pick R C zs rs = p at hp KS KI
  obtain ⟨p1, p2, ps, p4⟩ := p
  have hps : ps.length ≤ 256 := hp
  clear hp
  have HS : Hid (∀ wx g h, Own wx g zs → Own wx h rs → Calls Try.prog 10 #[.agg #[.int .i64 R, .int .i64 C, .slice (some ⟨g, 0, none⟩) zs.length zs.length], .slice (some ⟨h, 0, none⟩) rs.length rs.length] wx fun e w' => ∃ a6 c6, e = .returned (.agg #[.int .i64 p1, .int .i64 p2, .slice a6 ps.length c6, .int .i64 p4]) ∧ Rd w' a6 ps ∧ Fresh wx a6 ∧ Below wx.heap.size wx w') := mkHid KS
  have HP : Hid (∀ wx g h, Own wx g zs → Own wx h rs → Calls Try.prog 12 #[.agg #[.int .i64 R, .int .i64 C, .slice (some ⟨g, 0, none⟩) zs.length zs.length], .slice (some ⟨h, 0, none⟩) rs.length rs.length] wx fun e w' => ∃ a9 c9, e = .returned (.agg #[.int .i64 p1, .int .i64 p2, .slice a9 ps.length c9, .int .i64 p4]) ∧ OwnV w' a9 ps ∧ Fresh wx a9 ∧ Below wx.heap.size wx w') := mkHid KI
  have HE : Hid (∀ wx a c a' c', Rd wx a ps → Rd wx a' ps → Calls Try.prog 13 #[.agg #[.int .i64 p1, .int .i64 p2, .slice a ps.length c, .int .i64 p4], .agg #[.int .i64 p1, .int .i64 p2, .slice a' ps.length c', .int .i64 p4]] wx fun e w' => e = .returned (.bool true) ∧ Below wx.heap.size wx w') :=
    mkHid (fun wx a c a' c' h1 h2 => (eqO_any p1 p2 p1 p2 p4 p4 a a' c c' ps ps wx (by omega) (by omega) h1 h2).mono (by rintro e w' ⟨rfl, hb⟩; exact ⟨ret_eq (by simp), hb⟩))
  have HEM : Hid (∀ wx g h, Own wx g zs → Own wx h zs → Calls Try.prog 9 #[.agg #[.int .i64 R, .int .i64 C, .slice (some ⟨g, 0, none⟩) zs.length zs.length], .agg #[.int .i64 R, .int .i64 C, .slice (some ⟨h, 0, none⟩) zs.length zs.length]] wx fun e w' => e = .returned (.bool true) ∧ Below wx.heap.size wx w') :=
    mkHid (fun wx g h hg hh => (eqM_any R C R C _ _ _ _ zs zs wx hl hl hg.rd hh.rd).mono (by rintro e w' ⟨rfl, hb⟩; exact ⟨ret_eq (by simp), hb⟩))
  have HEI : Hid (∀ wx g h, Own wx g rs → Own wx h rs → Calls Try.prog 14 #[.slice (some ⟨g, 0, none⟩) rs.length rs.length, .slice (some ⟨h, 0, none⟩) rs.length rs.length] wx fun e w' => e = .returned (.bool true) ∧ Below wx.heap.size wx w') :=
    mkHid (fun wx g h hg hh => (eq_any _ _ _ _ rs rs wx hlr hlr hg.rd hh.rd).mono (by rintro e w' ⟨rfl, hb⟩; exact ⟨ret_eq (by simp), hb⟩))
  have HM7 : Hid (∀ wx g, Own wx g zs → Calls Try.prog 15 #[.agg #[.int .i64 R, .int .i64 C, .slice (some ⟨g, 0, none⟩) zs.length zs.length], .int .i64 1] wx fun e w' => e = .returned (.int .i64 (1 + zs.length)) ∧ wx.grownBy w' (some g)) :=
    mkHid (fun wx g hg => (markM_any R C (some ⟨g, 0, none⟩) zs.length zs 1 wx hl (by omega) (by omega) (.inr ⟨g, rfl, hg⟩)).mono (by rintro e w' ⟨rfl, _, hb⟩; exact ⟨rfl, hb⟩))
  have HM8 : Hid (∀ wx g, Own wx g rs → Calls Try.prog 16 #[.slice (some ⟨g, 0, none⟩) rs.length rs.length, .int .i64 (1 + zs.length)] wx fun e w' => e = .returned (.int .i64 (1 + zs.length + rs.length)) ∧ wx.grownBy w' (some g)) :=
    mkHid (fun wx g hg => (mark_any g rs.length rs (1 + zs.length) wx hlr (by omega) (by omega) hg).mono (by rintro e w' ⟨rfl, _, hb⟩; exact ⟨rfl, hb⟩))
  have HM9 : Hid (∀ wx a c, OwnV wx a ps → Calls Try.prog 17 #[.agg #[.int .i64 p1, .int .i64 p2, .slice a ps.length c, .int .i64 p4], .int .i64 1] wx fun e w' => e = .returned (.int .i64 (1 + ps.length)) ∧ OwnV w' a (from_ 1 ps.length) ∧ GrewV wx w' a) :=
    mkHid (fun wx a c h => markO_any p1 p2 p4 a c ps 1 wx (by omega) (by omega) (by omega) h)
  have HH : Hid (∀ wx a c, Rd wx a (from_ 1 ps.length) → Calls Try.prog 18 #[.agg #[.int .i64 p1, .int .i64 p2, .slice a ps.length c, .int .i64 p4], .int .i64 1] wx fun e w' => e = .returned (.int .i64 (1 + ps.length)) ∧ Below wx.heap.size wx w') :=
    mkHid (fun wx a c h => heldO_any p1 p2 p4 a c ps.length 1 wx (by omega) (by omega) (by omega) h)
  clear KS KI hr hrs
  have hli : (zs.length : Int) ≤ 1048576 := by omega
  have hlri : (rs.length : Int) ≤ 1048576 := by omega
  have hpi : (ps.length : Int) ≤ 256 := by omega
  unfold mat
  go_enter Try.func4, Try.ntmps4
  go_wp2_with fail
  refine (szM_any R C a zs.length cap _ _ (by omega) (by omega) (by omega)).mono ?_
  rintro e w1 ⟨rfl, hb1⟩
  rw [if_neg (by omega)]
  have k1 := blk_below (blk_new w _ w.heap.size rfl) hb1
  have B1 := mkHid (And.intro (below_allocs (os := [_]) hb1) k1)
  have c0 : w1.cell? ⟨w.heap.size, 0, none⟩ = some (.int .i64 R) := cell_of_block (k1) 0
  have c1 : w1.cell? ⟨w.heap.size, 1, none⟩ = some (.int .i64 C) := cell_of_block (k1) 1
  have c2 : w1.cell? ⟨w.heap.size, 2, none⟩ = some (.slice a zs.length cap) := cell_of_block (k1) 2
  have h0 : 0 ≤ 1048576 - (zs.length : Int) := by omega
  clear k1 hb1
  go_wp2_with fail
  refine (HT.out _ B1.out.1).mono ?_
  rintro e w2 ⟨g2, rfl, hg2, ho2, hb2⟩
  have B2 := mkHid (And.intro (B1.out.1.trans (hb2.mono B1.out.1.size)) (And.intro (blk_below B1.out.2 hb2) ho2))
  clear hb2 ho2 B1 c0 c1 c2 hg2
  go_wp2_with fail
  refine (HI.out _ B2.out.1).mono ?_
  rintro e w3 ⟨g3, rfl, hg3, ho3, hb3⟩
  have B3 := mkHid (And.intro (B2.out.1.trans (hb3.mono B2.out.1.size)) (And.intro (blk_below B2.out.2.1 hb3) (And.intro (Own.below B2.out.2.2 hb3) ho3)))
  clear hb3 ho3 B2 hg3
  go_wp2_with fail
  refine (HS.out _ _ _ B3.out.2.2.1 B3.out.2.2.2).mono ?_
  rintro e w4 ⟨a6, c6, rfl, hr6, hf6, hb4⟩
  have k4 := blk_below B3.out.2.1 hb4
  have B4 := mkHid (And.intro (B3.out.1.trans (hb4.mono B3.out.1.size)) (And.intro k4 hr6))
  have c0 : w4.cell? ⟨w.heap.size, 0, none⟩ = some (.int .i64 R) := cell_of_block (k4) 0
  have c1 : w4.cell? ⟨w.heap.size, 1, none⟩ = some (.int .i64 C) := cell_of_block (k4) 1
  have c2 : w4.cell? ⟨w.heap.size, 2, none⟩ = some (.slice a zs.length cap) := cell_of_block (k4) 2
  have hlt4 : w.heap.size < w4.heap.size := (Array.getElem?_eq_some_iff.1 k4).1
  have hnq4 : ¬ (w.heap.size = w4.heap.size) := by omega
  clear hb4 hr6 hf6 B3 k4
  go_wp2_with fail
  refine (HT.out _ (B4.out.1.alloc B4.out.1.size _)).mono ?_
  rintro e w5 ⟨gx, rfl, hgx, ho5, hb5⟩
  simp at hgx
  have k6 := blk_below (blk_new w4 (.cells #[.int .i64 p1, .int .i64 p2, .slice a6 ps.length c6, .int .i64 p4] 32) w4.heap.size rfl) hb5
  have hgx5 : gx < w5.heap.size := ho5.lt
  have hA6x : Away a6 gx ps := away_new B4.out.2.2 (by omega)
  have b5 := below_allocs (os := [_]) hb5
  have B5 := mkHid (And.intro (B4.out.1.trans (b5.mono B4.out.1.size)) (And.intro (blk_below B4.out.2.1 b5) (And.intro k6 (And.intro (Rd.below B4.out.2.2 b5) (And.intro ho5 hA6x)))))
  have HR4 := mkHid (And.intro B4.out.2.2 True.intro)
  have hlt5 : w.heap.size < w5.heap.size := by omega
  have hB65 : w4.heap.size < w5.heap.size := by omega
  clear hb5 ho5 b5 k6 B4 c0 c1 c2 hA6x
  go_wp2_with fail
  refine (HI.out _ (B5.out.1.alloc B5.out.1.size _)).mono ?_
  rintro e w6 ⟨gy, rfl, hgy, ho6, hb6⟩
  simp at hgy
  have k7 := blk_below (blk_new w5 (.cells #[.int .i64 R, .int .i64 C, .slice (some ⟨gx, 0, none⟩) zs.length zs.length] 27) w5.heap.size rfl) hb6
  have hgy6 : gy < w6.heap.size := ho6.lt
  have hA6y : Away a6 gy ps := away_new HR4.out.1 (by omega)
  have b6 := below_allocs (os := [_]) hb6
  have B6' := mkHid (And.intro (B5.out.1.trans (b6.mono B5.out.1.size)) (And.intro (blk_below B5.out.2.1 b6) (And.intro (blk_below B5.out.2.2.1 b6) (And.intro (Rd.below B5.out.2.2.2.1 b6) (And.intro (Own.below B5.out.2.2.2.2.1 b6) (And.intro k7 (And.intro ho6 (And.intro B5.out.2.2.2.2.2 hA6y))))))))
  have x0 : w6.cell? ⟨w5.heap.size, 0, none⟩ = some (.int .i64 R) := cell_of_block (k7) 0
  have x1 : w6.cell? ⟨w5.heap.size, 1, none⟩ = some (.int .i64 C) := cell_of_block (k7) 1
  have x2 : w6.cell? ⟨w5.heap.size, 2, none⟩ = some (.slice (some ⟨gx, 0, none⟩) zs.length zs.length) := cell_of_block (k7) 2
  have hlt6 : w.heap.size < w6.heap.size := by omega
  have hB76 : w5.heap.size < w6.heap.size := by omega
  clear hb6 ho6 b6 k7 B5 hA6y
  go_wp2_with fail
  refine (HP.out _ _ _ B6'.out.2.2.2.2.1 B6'.out.2.2.2.2.2.2.1).mono ?_
  rintro e w7 ⟨a9, c9, rfl, ho9, hf9, hb7⟩
  have hs7 := hb7.size
  have hF9 : ∀ b o s, a9 = some ⟨b, o, s⟩ → w.heap.size < b ∧ w4.heap.size ≠ b ∧ w5.heap.size ≠ b ∧ w7.heap.size ≠ b ∧ Away a6 b ps := fun b o s e => by
    have q1 := hf9 b o s e
    have q2 : b < w7.heap.size := by
      rcases ho9 with ⟨rfl, _⟩ | ⟨k, rfl, hk⟩
      · simp at e
      · simp at e; have := hk.lt; omega
    exact ⟨by omega, by omega, by omega, by omega, away_new HR4.out.1 (by omega)⟩
  have hN9 : (∀ b o s, a9 = some ⟨b, o, s⟩ → b ≠ gx) ∧ ∀ b o s, a9 = some ⟨b, o, s⟩ → b ≠ gy := ⟨fun b o s e => by have := hf9 b o s e; omega, fun b o s e => by have := hf9 b o s e; omega⟩
  have hb7' := hb7
  have S7 : Hid (St w (.cells #[.int .i64 R, .int .i64 C, .slice a zs.length cap] 24) (.cells #[.int .i64 p1, .int .i64 p2, .slice a6 ps.length c6, .int .i64 p4] 32) (.cells #[.int .i64 R, .int .i64 C, .slice (some ⟨gx, 0, none⟩) zs.length zs.length] 27) (.cells #[.int .i64 p1, .int .i64 p2, .slice a9 ps.length c9, .int .i64 p4] 32) w4.heap.size w5.heap.size w7.heap.size ps a6 a9 ps (w7.alloc (.cells #[.int .i64 p1, .int .i64 p2, .slice a9 ps.length c9, .int .i64 p4] 32))) := mkHid ⟨(B6'.out.1.trans (hb7.mono B6'.out.1.size)).alloc (by have := B6'.out.1.size; omega) _, blk_old (blk_below B6'.out.2.1 hb7) _, blk_old (blk_below B6'.out.2.2.1 hb7) _, blk_old (blk_below B6'.out.2.2.2.2.2.1 hb7) _, blk_new w7 _ w7.heap.size rfl, (Rd.below B6'.out.2.2.2.1 hb7).alloc _, ho9.alloc _⟩
  have X7 : Hid (Own (w7.alloc (.cells #[.int .i64 p1, .int .i64 p2, .slice a9 ps.length c9, .int .i64 p4] 32)) gx zs ∧ Own (w7.alloc (.cells #[.int .i64 p1, .int .i64 p2, .slice a9 ps.length c9, .int .i64 p4] 32)) gy rs) := mkHid ⟨blk_old (blk_below B6'.out.2.2.2.2.1 hb7) _, blk_old (blk_below B6'.out.2.2.2.2.2.2.1 hb7) _⟩
  have D7 := mkHid (And.intro hF9 (And.intro hN9 B6'.out.2.2.2.2.2.2.2))
  have k6 := blk_below B6'.out.2.2.1 hb7
  have s0 : w7.cell? ⟨w4.heap.size, 0, none⟩ = some (.int .i64 p1) := cell_of_block (k6) 0
  have s1 : w7.cell? ⟨w4.heap.size, 1, none⟩ = some (.int .i64 p2) := cell_of_block (k6) 1
  have s2 : w7.cell? ⟨w4.heap.size, 2, none⟩ = some (.slice a6 ps.length c6) := cell_of_block (k6) 2
  have s3 : w7.cell? ⟨w4.heap.size, 3, none⟩ = some (.int .i64 p4) := cell_of_block (k6) 3
  have hlt7 : w4.heap.size < w7.heap.size := by omega
  have hnq7 : ¬ (w4.heap.size = w7.heap.size) := by omega
  have g1 : w.heap.size < gx ∧ w4.heap.size ≠ gx ∧ w5.heap.size ≠ gx ∧ w7.heap.size ≠ gx ∧ gx ≠ gy := ⟨by omega, by omega, by omega, by omega, by omega⟩
  have g2' : w.heap.size < gy ∧ w4.heap.size ≠ gy ∧ w5.heap.size ≠ gy ∧ w7.heap.size ≠ gy := ⟨by omega, by omega, by omega, by omega⟩
  have G := mkHid (And.intro g1 g2')
  clear hb7 hb7' ho9 hf9 hF9 hN9 B6' k6 x0 x1 x2 hs7 g1 g2' HR4
  go_wp2_with fail
  refine (HE.out _ _ _ _ _ S7.out.o9.rd S7.out.r6).mono ?_
  rintro e w8 ⟨rfl, hb8⟩
  have S8 := mkHid (S7.out.next hb8)
  have X8 := mkHid (And.intro (Own.below X7.out.1 hb8) (Own.below X7.out.2 hb8))
  have c0 : w8.cell? ⟨w.heap.size, 0, none⟩ = some (.int .i64 R) := cell_of_block (S8.out.bx) 0
  have c1 : w8.cell? ⟨w.heap.size, 1, none⟩ = some (.int .i64 C) := cell_of_block (S8.out.bx) 1
  have c2 : w8.cell? ⟨w.heap.size, 2, none⟩ = some (.slice a zs.length cap) := cell_of_block (S8.out.bx) 2
  have x0 : w8.cell? ⟨w5.heap.size, 0, none⟩ = some (.int .i64 R) := cell_of_block (S8.out.x7) 0
  have x1 : w8.cell? ⟨w5.heap.size, 1, none⟩ = some (.int .i64 C) := cell_of_block (S8.out.x7) 1
  have x2 : w8.cell? ⟨w5.heap.size, 2, none⟩ = some (.slice (some ⟨gx, 0, none⟩) zs.length zs.length) := cell_of_block (S8.out.x7) 2
  clear hb8 S7 X7 s0 s1 s2 s3 hlt4 hnq4 hlt5 hB65 hlt6 hB76 hlt7 hnq7 hgx5 hgy6 hgx hgy
  go_wp2_with fail
  go_region_held3 (fun w' => w'.cell? ⟨w.heap.size, 0, none⟩ = some (.int .i64 R) ∧ w'.cell? ⟨w.heap.size, 1, none⟩ = some (.int .i64 C) ∧ w'.cell? ⟨w.heap.size, 2, none⟩ = some (.slice a zs.length cap) ∧ w'.cell? ⟨w5.heap.size, 0, none⟩ = some (.int .i64 R) ∧ w'.cell? ⟨w5.heap.size, 1, none⟩ = some (.int .i64 C) ∧ w'.cell? ⟨w5.heap.size, 2, none⟩ = some (.slice (some ⟨gx, 0, none⟩) zs.length zs.length)) (go_keep)
    ((first | (go_at_call 7; refine Calls.mono (HT.out _ (by repeat (first | exact S8.out.below | apply Below.drew))) ?_; rintro e w9 ⟨g9, rfl, hg9, ho9, hb9⟩; have b9 : Below w8.heap.size w8 w9 := ⟨hb9.os, hb9.tape, hb9.output, hb9.size, hb9.block⟩; have S9' := mkHid (S8.out.next b9); have X9 := mkHid (And.intro (Own.below X8.out.1 b9) (And.intro (Own.below X8.out.2 b9) ho9)); have dc0 : w9.cell? ⟨w.heap.size, 0, none⟩ = some (.int .i64 R) := cell_of_block (S9'.out.bx) 0; have dc1 : w9.cell? ⟨w.heap.size, 1, none⟩ = some (.int .i64 C) := cell_of_block (S9'.out.bx) 1; have dc2 : w9.cell? ⟨w.heap.size, 2, none⟩ = some (.slice a zs.length cap) := cell_of_block (S9'.out.bx) 2; have dx0 : w9.cell? ⟨w5.heap.size, 0, none⟩ = some (.int .i64 R) := cell_of_block (S9'.out.x7) 0; have dx1 : w9.cell? ⟨w5.heap.size, 1, none⟩ = some (.int .i64 C) := cell_of_block (S9'.out.x7) 1; have dx2 : w9.cell? ⟨w5.heap.size, 2, none⟩ = some (.slice (some ⟨gx, 0, none⟩) zs.length zs.length) := cell_of_block (S9'.out.x7) 2; clear b9 hb9 ho9 hg9) | (go_at_call 9; refine Calls.mono (HEM.out _ _ _ X9.out.1 X9.out.2.2) ?_; rintro e w10 ⟨rfl, hb10⟩; have S10 := mkHid (S9'.out.next hb10); have X10 := mkHid (And.intro (Own.below X9.out.1 hb10) (Own.below X9.out.2.1 hb10)); have ec0 : w10.cell? ⟨w.heap.size, 0, none⟩ = some (.int .i64 R) := cell_of_block (S10.out.bx) 0; have ec1 : w10.cell? ⟨w.heap.size, 1, none⟩ = some (.int .i64 C) := cell_of_block (S10.out.bx) 1; have ec2 : w10.cell? ⟨w.heap.size, 2, none⟩ = some (.slice a zs.length cap) := cell_of_block (S10.out.bx) 2; have ex0 : w10.cell? ⟨w5.heap.size, 0, none⟩ = some (.int .i64 R) := cell_of_block (S10.out.x7) 0; have ex1 : w10.cell? ⟨w5.heap.size, 1, none⟩ = some (.int .i64 C) := cell_of_block (S10.out.x7) 1; have ex2 : w10.cell? ⟨w5.heap.size, 2, none⟩ = some (.slice (some ⟨gx, 0, none⟩) zs.length zs.length) := cell_of_block (S10.out.x7) 2; clear hb10)))
  clear c0 c1 c2 x0 x1 x2 dc0 dc1 dc2 dx0 dx1 dx2 ec0 ec1 ec2 S8 X8 S9' X9
  go_wp2_with fail
  refine (HI.out _ S10.out.below).mono ?_
  rintro e w11 ⟨g11, rfl, hg11, ho11, hb11⟩
  have S11 := mkHid (S10.out.next hb11)
  have X11 := mkHid (And.intro (Own.below X10.out.1 hb11) (And.intro (Own.below X10.out.2 hb11) ho11))
  clear hb11 ho11 hg11 S10 X10 ex0 ex1 ex2
  go_wp2_with fail
  refine (HEI.out _ _ _ X11.out.2.1 X11.out.2.2).mono ?_
  rintro e w12 ⟨rfl, hb12⟩
  have S12 := mkHid (S11.out.next hb12)
  have X12 := mkHid (And.intro (Own.below X11.out.1 hb12) (Own.below X11.out.2.1 hb12))
  have x0 : w12.cell? ⟨w5.heap.size, 0, none⟩ = some (.int .i64 R) := cell_of_block (S12.out.x7) 0
  have x1 : w12.cell? ⟨w5.heap.size, 1, none⟩ = some (.int .i64 C) := cell_of_block (S12.out.x7) 1
  have x2 : w12.cell? ⟨w5.heap.size, 2, none⟩ = some (.slice (some ⟨gx, 0, none⟩) zs.length zs.length) := cell_of_block (S12.out.x7) 2
  clear hb12 S11 X11
  go_wp2_with fail
  refine (HM7.out _ _ X12.out.1).mono ?_
  rintro e w13 ⟨rfl, hg13⟩
  have S13 := mkHid (S12.out.wrote hg13 G.out.1.1 G.out.1.2.1 G.out.1.2.2.1 G.out.1.2.2.2.1 D7.out.2.2.1 D7.out.2.1.1)
  have X13 : Hid (Own w13 gy rs) := mkHid (blk_away X12.out.2 hg13 (Ne.symm G.out.1.2.2.2.2))
  clear hg13 S12 X12 x0 x1 x2
  go_wp2_with fail
  refine (HM8.out _ _ X13.out).mono ?_
  rintro e w14 ⟨rfl, hg14⟩
  have S14 := mkHid (S13.out.wrote hg14 G.out.2.1 G.out.2.2.1 G.out.2.2.2.1 G.out.2.2.2.2 D7.out.2.2.2 D7.out.2.1.2)
  have s0 : w14.cell? ⟨w4.heap.size, 0, none⟩ = some (.int .i64 p1) := cell_of_block (S14.out.x6) 0
  have s1 : w14.cell? ⟨w4.heap.size, 1, none⟩ = some (.int .i64 p2) := cell_of_block (S14.out.x6) 1
  have s2 : w14.cell? ⟨w4.heap.size, 2, none⟩ = some (.slice a6 ps.length c6) := cell_of_block (S14.out.x6) 2
  have s3 : w14.cell? ⟨w4.heap.size, 3, none⟩ = some (.int .i64 p4) := cell_of_block (S14.out.x6) 3
  have t0 : w14.cell? ⟨w7.heap.size, 0, none⟩ = some (.int .i64 p1) := cell_of_block (S14.out.x9) 0
  have t1 : w14.cell? ⟨w7.heap.size, 1, none⟩ = some (.int .i64 p2) := cell_of_block (S14.out.x9) 1
  have t2 : w14.cell? ⟨w7.heap.size, 2, none⟩ = some (.slice a9 ps.length c9) := cell_of_block (S14.out.x9) 2
  have t3 : w14.cell? ⟨w7.heap.size, 3, none⟩ = some (.int .i64 p4) := cell_of_block (S14.out.x9) 3
  have hk14 : 0 ≤ 1 + (zs.length : Int) + (rs.length : Int) := by omega
  have hk14d : decide (1 + (zs.length : Int) + (rs.length : Int) < 0) = false := decide_eq_false (by omega)
  clear hg14 S13 X13
  go_wp2_with fail
  refine (HE.out _ _ _ _ _ S14.out.o9.rd S14.out.r6).mono ?_
  rintro e w15 ⟨rfl, hb15⟩
  have S15 := mkHid (S14.out.next hb15)
  have u0 : w15.cell? ⟨w7.heap.size, 0, none⟩ = some (.int .i64 p1) := cell_of_block (S15.out.x9) 0
  have u1 : w15.cell? ⟨w7.heap.size, 1, none⟩ = some (.int .i64 p2) := cell_of_block (S15.out.x9) 1
  have u2 : w15.cell? ⟨w7.heap.size, 2, none⟩ = some (.slice a9 ps.length c9) := cell_of_block (S15.out.x9) 2
  have u3 : w15.cell? ⟨w7.heap.size, 3, none⟩ = some (.int .i64 p4) := cell_of_block (S15.out.x9) 3
  clear hb15 S14 s0 s1 s2 s3 t0 t1 t2 t3
  go_wp2_with fail
  refine (HM9.out _ _ _ S15.out.o9).mono ?_
  rintro e w16 ⟨rfl, ho16, hg16⟩
  have S16 := mkHid (S15.out.marked hg16 ho16 D7.out.1)
  have s0 : w16.cell? ⟨w7.heap.size, 0, none⟩ = some (.int .i64 p1) := cell_of_block (S16.out.x9) 0
  have s1 : w16.cell? ⟨w7.heap.size, 1, none⟩ = some (.int .i64 p2) := cell_of_block (S16.out.x9) 1
  have s2 : w16.cell? ⟨w7.heap.size, 2, none⟩ = some (.slice a9 ps.length c9) := cell_of_block (S16.out.x9) 2
  have s3 : w16.cell? ⟨w7.heap.size, 3, none⟩ = some (.int .i64 p4) := cell_of_block (S16.out.x9) 3
  clear ho16 hg16 S15 u0 u1 u2 u3
  go_wp2_with fail
  refine (HH.out _ _ _ S16.out.o9.rd).mono ?_
  rintro e w17 ⟨rfl, hb17⟩
  have S17 := mkHid (S16.out.next hb17)
  have c0 : w17.cell? ⟨w.heap.size, 0, none⟩ = some (.int .i64 R) := cell_of_block (S17.out.bx) 0
  have c1 : w17.cell? ⟨w.heap.size, 1, none⟩ = some (.int .i64 C) := cell_of_block (S17.out.bx) 1
  have c2 : w17.cell? ⟨w.heap.size, 2, none⟩ = some (.slice a zs.length cap) := cell_of_block (S17.out.bx) 2
  have hk17 : 0 ≤ 1 + (ps.length : Int) := by omega
  clear hb17 S16 s0 s1 s2 s3
  go_wp2_with fail
  refine (HT.out _ S17.out.below).mono ?_
  rintro e w18 ⟨g18, rfl, hg18, ho18, hb18⟩
  have S18 := mkHid (And.intro (S17.out.next hb18) ho18)
  clear hb18 ho18 hg18 S17 c0 c1 c2
  go_wp2_with fail
  refine (HI.out _ S18.out.1.below).mono ?_
  rintro e w19 ⟨g19, rfl, hg19, ho19, hb19⟩
  have S19 := mkHid (And.intro (S18.out.1.next hb19) (And.intro (Own.below S18.out.2 hb19) ho19))
  clear hb19 ho19 hg19 S18
  go_wp2_with fail
  refine (HP.out _ _ _ S19.out.2.1 S19.out.2.2).mono ?_
  rintro e w20 ⟨a20, c20, rfl, ho20, hf20, hb20⟩
  have S20 := mkHid (And.intro (S19.out.1.next hb20) ho20)
  have s0 : w20.cell? ⟨w4.heap.size, 0, none⟩ = some (.int .i64 p1) := cell_of_block (S20.out.1.x6) 0
  have s1 : w20.cell? ⟨w4.heap.size, 1, none⟩ = some (.int .i64 p2) := cell_of_block (S20.out.1.x6) 1
  have s2 : w20.cell? ⟨w4.heap.size, 2, none⟩ = some (.slice a6 ps.length c6) := cell_of_block (S20.out.1.x6) 2
  have s3 : w20.cell? ⟨w4.heap.size, 3, none⟩ = some (.int .i64 p4) := cell_of_block (S20.out.1.x6) 3
  have hlt20 : w4.heap.size < w20.heap.size := (Array.getElem?_eq_some_iff.1 S20.out.1.x6).1
  have hnq20 : ¬ (w4.heap.size = w20.heap.size) := by omega
  clear hb20 ho20 hf20 S19
  go_wp2_with fail
  refine (HE.out _ _ _ _ _ (S20.out.2.rd.alloc _) (S20.out.1.r6.alloc _)).mono ?_
  rintro e w21 ⟨rfl, hb21⟩
  have S21 := mkHid (S20.out.1.next (below_allocs (os := [_]) hb21))
  have t0 : w21.cell? ⟨w7.heap.size, 0, none⟩ = some (.int .i64 p1) := cell_of_block (S21.out.x9) 0
  have t1 : w21.cell? ⟨w7.heap.size, 1, none⟩ = some (.int .i64 p2) := cell_of_block (S21.out.x9) 1
  have t2 : w21.cell? ⟨w7.heap.size, 2, none⟩ = some (.slice a9 ps.length c9) := cell_of_block (S21.out.x9) 2
  have t3 : w21.cell? ⟨w7.heap.size, 3, none⟩ = some (.int .i64 p4) := cell_of_block (S21.out.x9) 3
  clear hb21 S20 s0 s1 s2 s3 hlt20 hnq20
  go_wp2_with fail
  refine (HH.out _ _ _ S21.out.o9.rd).mono ?_
  rintro e w22 ⟨rfl, hb22⟩
  have S22 := mkHid (S21.out.next hb22)
  clear hb22 S21 t0 t1 t2 t3
  go_wp2
  go_ret
  exact ⟨rfl, S22.out.below⟩

end Go.Proofs.Ytoklibbefjnlhab.fnExactMatrixPick
