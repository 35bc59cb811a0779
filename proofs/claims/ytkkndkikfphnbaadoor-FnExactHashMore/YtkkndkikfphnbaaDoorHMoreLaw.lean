/-
  laws.FnExactHashMore answers true at every Hash and text, where the program's HashMore answers as told; nothing that was there turns. Condition: what the program's call answers.
-/
import Derived.Test.YtkkndkikfphnbaaDoorHSt
import Derived.Deep.RegionHeld3
namespace Go.Proofs.YtkkndkikfphnbaaDoor.himpl
open Go.RowKit Go.Joins
open Go.Proofs.YtkkndkikfphnbaaDoor.base Go.Proofs.YtkkndkikfphnbaaDoor.ints Go.Proofs.YtkkndkikfphnbaaDoor.blk Go.Proofs.YtkkndkikfphnbaaDoor.hashes
open Go.Proofs.YtkkndkikfphnbaaDoor.sha (hRight endH digest short moreH startL GV)
set_option linter.unusedVariables false

set_option maxRecDepth 100000 in
set_option maxHeartbeats 4000000 in
theorem more_in (I : IMore) (a : Option Addr) (cap : Nat) (zs : List Int) (r t : ByteArray) (size : Int) (w : World) (hG : GV w) (hlr : zs.length + r.size ≤ 1048576) (hl : zs.length ≤ 1048576) (hrs : r.size ≤ 1048576) (hts : t.size ≤ 1048576) (hr : Rd w a zs) (hs0 : -9223372036854775808 ≤ size) (hs1 : size ≤ 9223372036854775807) :
    Calls Tryd.prog 5 #[sha.hash a zs.length cap r size, .string t] w fun e w' => e = .returned (.bool true) ∧ Below w.heap.size w w' := by
  have HT : Hid (∀ wx, Below w.heap.size w wx → Calls Tryd.prog 20 #[.agg #[.slice a zs.length cap, .string r, .int .i64 size]] wx fun e w' => ∃ g, e = .returned (.agg #[.slice (some ⟨g, 0, none⟩) zs.length zs.length, .string r, .int .i64 size]) ∧ wx.heap.size ≤ g ∧ Own w' g zs ∧ Below wx.heap.size wx w') :=
    mkHid (fun wx hb => (toH_any a cap zs r size wx hl (hr.below hb)).mono (by rintro e w' ⟨rfl, h1, h2⟩; exact ⟨_, rfl, by omega, h1, h2⟩))
  have hp := moreH_len zs r size t hl
  have KS := fun wx g (hg : Own wx g zs) => sha.hmore_any g 0 zs.length zs r t size wx hl hg.rd hg.lt hrs hts hs0 hs1
  have KI := fun wx g (hb : Below w.heap.size w wx) (hg : Own wx g zs) => I g 0 zs.length zs r t size wx hl hg.rd hg.lt hrs hts hs0 hs1 (hG.at hb)
  generalize moreH zs r size t = p at hp KS KI
  obtain ⟨ps, pr, pz⟩ := p
  have hps : ps.length ≤ 1048576 := hp
  clear hp
  have HS : Hid (∀ wx g, Own wx g zs → Calls Tryd.prog 19 #[.agg #[.slice (some ⟨g, 0, none⟩) zs.length zs.length, .string r, .int .i64 size], .string t] wx fun e w' => ∃ a6 c6, e = .returned (.agg #[.slice a6 ps.length c6, .string pr, .int .i64 pz]) ∧ Rd w' a6 ps ∧ Below wx.heap.size wx w') := mkHid KS
  have HP : Hid (∀ wx g, Below w.heap.size w wx → Own wx g zs → Calls Tryd.prog 13 #[.agg #[.slice (some ⟨g, 0, none⟩) zs.length zs.length, .string r, .int .i64 size], .string t] wx fun e w' => ∃ a8 c8, e = .returned (.agg #[.slice a8 ps.length c8, .string pr, .int .i64 pz]) ∧ OwnV w' a8 ps ∧ Fresh wx a8 ∧ Below wx.heap.size wx w') := mkHid KI
  have HE : Hid (∀ wx a c a' c', Rd wx a ps → Rd wx a' ps → Calls Tryd.prog 21 #[.agg #[.slice a ps.length c, .string pr, .int .i64 pz], .agg #[.slice a' ps.length c', .string pr, .int .i64 pz]] wx fun e w' => e = .returned (.bool true) ∧ Below wx.heap.size wx w') :=
    mkHid (fun wx a c a' c' h1 h2 => (eqH_any a a' c c' ps ps pr pr pz pz wx hps hps h1 h2).mono (by rintro e w' ⟨rfl, hb⟩; exact ⟨ints.ret_eq (by simp), hb⟩))
  have HEX : Hid (∀ wx g h, Own wx g zs → Own wx h zs → Calls Tryd.prog 21 #[.agg #[.slice (some ⟨g, 0, none⟩) zs.length zs.length, .string r, .int .i64 size], .agg #[.slice (some ⟨h, 0, none⟩) zs.length zs.length, .string r, .int .i64 size]] wx fun e w' => e = .returned (.bool true) ∧ Below wx.heap.size wx w') :=
    mkHid (fun wx g h hg hh => (eqH_any _ _ _ _ zs zs r r size size wx hl hl hg.rd hh.rd).mono (by rintro e w' ⟨rfl, hb⟩; exact ⟨ints.ret_eq (by simp), hb⟩))
  have HM7 : Hid (∀ wx g, Own wx g zs → Calls Tryd.prog 22 #[.agg #[.slice (some ⟨g, 0, none⟩) zs.length zs.length, .string r, .int .i64 size], .int .i64 1] wx fun e w' => e = .returned (.int .i64 (1 + zs.length)) ∧ wx.grownBy w' (some g)) :=
    mkHid (fun wx g hg => (markH_any (some ⟨g, 0, none⟩) zs.length zs r size 1 wx hl (by omega) (by omega) (.inr ⟨g, rfl, OwnS.of hg⟩)).mono (by rintro e w' ⟨rfl, _, hb⟩; exact ⟨rfl, hb⟩))
  have HM8 : Hid (∀ wx a c, OwnV wx a ps → Calls Tryd.prog 22 #[.agg #[.slice a ps.length c, .string pr, .int .i64 pz], .int .i64 1] wx fun e w' => e = .returned (.int .i64 (1 + ps.length)) ∧ OwnV w' a (from_ 1 ps.length) ∧ GrewV wx w' a) :=
    mkHid (fun wx a c h => markH_any a c ps pr pz 1 wx hps (by omega) (by omega) h)
  have HH : Hid (∀ wx a c, Rd wx a (from_ 1 ps.length) → Calls Tryd.prog 23 #[.agg #[.slice a ps.length c, .string pr, .int .i64 pz], .int .i64 1] wx fun e w' => e = .returned (.int .i64 (1 + ps.length)) ∧ Below wx.heap.size wx w') :=
    mkHid (fun wx a c h => heldH_any a c ps.length pr pz 1 wx hps (by omega) (by omega) h)
  clear KS KI hr I hG
  have hli : (zs.length : Int) ≤ 1048576 := by omega
  have hpi : (ps.length : Int) ≤ 1048576 := by omega
  have hti : (t.size : Int) ≤ 1048576 := by omega
  unfold sha.hash
  go_enter Tryd.func5, Tryd.ntmps5
  go_wp2_with fail
  refine (szH_any a zs.length cap r size _ _ (by omega) (by omega) (by omega) (by omega)).mono ?_
  rintro e w1 ⟨rfl, hb1⟩
  have hsz : szv 1048576 zs.length r.size = 1048576 - zs.length - r.size := by unfold szv; rw [if_neg (by omega), if_neg (by omega)]
  rw [hsz]
  have k1 := blk_below (blk_new w _ w.heap.size rfl) hb1
  have B1 := mkHid (And.intro (below_allocs (os := [_]) hb1) k1)
  have c0 : w1.cell? ⟨w.heap.size, 0, none⟩ = some (.slice a zs.length cap) := cell_of_block (k1) 0
  have c1 : w1.cell? ⟨w.heap.size, 1, none⟩ = some (.string r) := cell_of_block (k1) 1
  have c2 : w1.cell? ⟨w.heap.size, 2, none⟩ = some (.int .i64 size) := cell_of_block (k1) 2
  have h0 : 0 ≤ 1048576 - (zs.length : Int) - (r.size : Int) := by omega
  clear k1 hb1 hsz
  go_wp2_with fail
  refine (HT.out _ B1.out.1).mono ?_
  rintro e w2 ⟨g2, rfl, hg2, ho2, hb2⟩
  have B2 := mkHid (And.intro (B1.out.1.trans (hb2.mono B1.out.1.size)) (And.intro (blk_below B1.out.2 hb2) ho2))
  clear hb2 ho2 B1 c0 c1 c2 hg2
  go_wp2_with fail
  refine (HS.out _ _ B2.out.2.2).mono ?_
  rintro e w3 ⟨a6, c6, rfl, hr6, hb3⟩
  have k3 := blk_below B2.out.2.1 hb3
  have B3 := mkHid (And.intro (B2.out.1.trans (hb3.mono B2.out.1.size)) (And.intro k3 hr6))
  have c0 : w3.cell? ⟨w.heap.size, 0, none⟩ = some (.slice a zs.length cap) := cell_of_block (k3) 0
  have c1 : w3.cell? ⟨w.heap.size, 1, none⟩ = some (.string r) := cell_of_block (k3) 1
  have c2 : w3.cell? ⟨w.heap.size, 2, none⟩ = some (.int .i64 size) := cell_of_block (k3) 2
  have hlt3 : w.heap.size < w3.heap.size := (Array.getElem?_eq_some_iff.1 k3).1
  have hnq3 : ¬ (w.heap.size = w3.heap.size) := by omega
  clear hb3 hr6 B2 k3
  go_wp2_with fail
  refine (HT.out _ (B3.out.1.alloc B3.out.1.size _)).mono ?_
  rintro e w4 ⟨gx, rfl, hgx, ho4, hb4⟩
  simp at hgx
  have k6 := blk_below (blk_new w3 (.cells #[.slice a6 ps.length c6, .string pr, .int .i64 pz] 27) w3.heap.size rfl) hb4
  have hgx4 : gx < w4.heap.size := ho4.lt
  have hA6x : Away a6 gx ps := away_new B3.out.2.2 (by omega)
  have b4 := below_allocs (os := [_]) hb4
  have B4 := mkHid (And.intro (B3.out.1.trans (b4.mono B3.out.1.size)) (And.intro (blk_below B3.out.2.1 b4) (And.intro k6 (And.intro (Rd.below B3.out.2.2 b4) (And.intro ho4 hA6x)))))
  have HR3 := mkHid (And.intro B3.out.2.2 True.intro)
  have hlt4 : w.heap.size < w4.heap.size := by omega
  have hB64 : w3.heap.size < w4.heap.size := by omega
  clear hb4 ho4 b4 k6 B3 c0 c1 c2 hA6x
  go_wp2_with fail
  refine (HP.out _ _ (B4.out.1.alloc B4.out.1.size _) (blk_old B4.out.2.2.2.2.1 _)).mono ?_
  rintro e w5 ⟨a8, c8, rfl, ho8, hf8, hb5'⟩
  have k7 := blk_below (blk_new w4 (.cells #[.slice (some ⟨gx, 0, none⟩) zs.length zs.length, .string r, .int .i64 size] 27) w4.heap.size rfl) hb5'
  have hb5 := below_allocs (os := [_]) hb5'
  have hs5 := hb5'.size
  simp at hs5
  have hF8 : ∀ b o s, a8 = some ⟨b, o, s⟩ → w.heap.size < b ∧ w3.heap.size ≠ b ∧ w4.heap.size ≠ b ∧ w5.heap.size ≠ b ∧ Away a6 b ps := fun b o s e => by
    have q1 := hf8 b o s e
    simp at q1
    have q2 : b < w5.heap.size := by
      rcases ho8 with ⟨rfl, _⟩ | ⟨k, rfl, hk⟩
      · simp at e
      · simp at e; have := hk.lt; omega
    exact ⟨by omega, by omega, by omega, by omega, away_new HR3.out.1 (by omega)⟩
  have hN8 : ∀ b o s, a8 = some ⟨b, o, s⟩ → b ≠ gx := fun b o s e => by have q1 := hf8 b o s e; simp at q1; omega
  have S5 : Hid (St w (.cells #[.slice a zs.length cap, .string r, .int .i64 size] 35) (.cells #[.slice a6 ps.length c6, .string pr, .int .i64 pz] 27) (.cells #[.slice (some ⟨gx, 0, none⟩) zs.length zs.length, .string r, .int .i64 size] 27) (.cells #[.slice a8 ps.length c8, .string pr, .int .i64 pz] 27) w3.heap.size w4.heap.size w5.heap.size ps a6 a8 ps (w5.alloc (.cells #[.slice a8 ps.length c8, .string pr, .int .i64 pz] 27))) := mkHid ⟨(B4.out.1.trans (hb5.mono B4.out.1.size)).alloc (by have := B4.out.1.size; omega) _, blk_old (blk_below B4.out.2.1 hb5) _, blk_old (blk_below B4.out.2.2.1 hb5) _, blk_old k7 _, blk_new w5 _ w5.heap.size rfl, (Rd.below B4.out.2.2.2.1 hb5).alloc _, ho8.alloc _⟩
  have X5 : Hid (Own (w5.alloc (.cells #[.slice a8 ps.length c8, .string pr, .int .i64 pz] 27)) gx zs) := mkHid (blk_old (blk_below B4.out.2.2.2.2.1 hb5) _)
  have D5 := mkHid (And.intro hF8 (And.intro hN8 B4.out.2.2.2.2.2))
  have k6 := blk_below B4.out.2.2.1 hb5
  have s0 : w5.cell? ⟨w3.heap.size, 0, none⟩ = some (.slice a6 ps.length c6) := cell_of_block (k6) 0
  have s1 : w5.cell? ⟨w3.heap.size, 1, none⟩ = some (.string pr) := cell_of_block (k6) 1
  have s2 : w5.cell? ⟨w3.heap.size, 2, none⟩ = some (.int .i64 pz) := cell_of_block (k6) 2
  have hlt5 : w3.heap.size < w5.heap.size := by omega
  have hnq5 : ¬ (w3.heap.size = w5.heap.size) := by omega
  have G := mkHid (show w.heap.size < gx ∧ w3.heap.size ≠ gx ∧ w4.heap.size ≠ gx ∧ w5.heap.size ≠ gx from ⟨by omega, by omega, by omega, by omega⟩)
  clear hb5 hb5' ho8 hf8 hF8 hN8 B4 k6 k7 hs5 HR3
  go_wp2_with fail
  refine (HE.out _ _ _ _ _ S5.out.o9.rd S5.out.r6).mono ?_
  rintro e w6 ⟨rfl, hb6⟩
  have S6' := mkHid (S5.out.next hb6)
  have X6 := mkHid (Own.below X5.out hb6)
  have c0 : w6.cell? ⟨w.heap.size, 0, none⟩ = some (.slice a zs.length cap) := cell_of_block (S6'.out.bx) 0
  have c1 : w6.cell? ⟨w.heap.size, 1, none⟩ = some (.string r) := cell_of_block (S6'.out.bx) 1
  have c2 : w6.cell? ⟨w.heap.size, 2, none⟩ = some (.int .i64 size) := cell_of_block (S6'.out.bx) 2
  have x0 : w6.cell? ⟨w4.heap.size, 0, none⟩ = some (.slice (some ⟨gx, 0, none⟩) zs.length zs.length) := cell_of_block (S6'.out.x7) 0
  have x1 : w6.cell? ⟨w4.heap.size, 1, none⟩ = some (.string r) := cell_of_block (S6'.out.x7) 1
  have x2 : w6.cell? ⟨w4.heap.size, 2, none⟩ = some (.int .i64 size) := cell_of_block (S6'.out.x7) 2
  clear hb6 S5 X5 s0 s1 s2 hlt3 hnq3 hlt4 hB64 hlt5 hnq5 hgx4 hgx
  go_wp2_with fail
  go_region_held3 (fun w' => w'.cell? ⟨w.heap.size, 0, none⟩ = some (.slice a zs.length cap) ∧ w'.cell? ⟨w.heap.size, 1, none⟩ = some (.string r) ∧ w'.cell? ⟨w.heap.size, 2, none⟩ = some (.int .i64 size) ∧ w'.cell? ⟨w4.heap.size, 0, none⟩ = some (.slice (some ⟨gx, 0, none⟩) zs.length zs.length) ∧ w'.cell? ⟨w4.heap.size, 1, none⟩ = some (.string r) ∧ w'.cell? ⟨w4.heap.size, 2, none⟩ = some (.int .i64 size)) (go_keep)
    ((first | (go_at_call 20; refine Calls.mono (HT.out _ (by repeat (first | exact S6'.out.below | apply Below.drew))) ?_; rintro e w7 ⟨g7, rfl, hg7, ho7, hb7⟩; have b7 : Below w6.heap.size w6 w7 := ⟨hb7.os, hb7.tape, hb7.output, hb7.size, hb7.block⟩; have S7 := mkHid (S6'.out.next b7); have X7 := mkHid (And.intro (Own.below X6.out b7) ho7); have dc0 : w7.cell? ⟨w.heap.size, 0, none⟩ = some (.slice a zs.length cap) := cell_of_block (S7.out.bx) 0; have dc1 : w7.cell? ⟨w.heap.size, 1, none⟩ = some (.string r) := cell_of_block (S7.out.bx) 1; have dc2 : w7.cell? ⟨w.heap.size, 2, none⟩ = some (.int .i64 size) := cell_of_block (S7.out.bx) 2; have dx0 : w7.cell? ⟨w4.heap.size, 0, none⟩ = some (.slice (some ⟨gx, 0, none⟩) zs.length zs.length) := cell_of_block (S7.out.x7) 0; have dx1 : w7.cell? ⟨w4.heap.size, 1, none⟩ = some (.string r) := cell_of_block (S7.out.x7) 1; have dx2 : w7.cell? ⟨w4.heap.size, 2, none⟩ = some (.int .i64 size) := cell_of_block (S7.out.x7) 2; clear b7 hb7 ho7 hg7) | (go_at_call 21; refine Calls.mono (HEX.out _ _ _ X7.out.1 X7.out.2) ?_; rintro e w8 ⟨rfl, hb8⟩; have S8 := mkHid (S7.out.next hb8); have X8 := mkHid (Own.below X7.out.1 hb8); have ec0 : w8.cell? ⟨w.heap.size, 0, none⟩ = some (.slice a zs.length cap) := cell_of_block (S8.out.bx) 0; have ec1 : w8.cell? ⟨w.heap.size, 1, none⟩ = some (.string r) := cell_of_block (S8.out.bx) 1; have ec2 : w8.cell? ⟨w.heap.size, 2, none⟩ = some (.int .i64 size) := cell_of_block (S8.out.bx) 2; have ex0 : w8.cell? ⟨w4.heap.size, 0, none⟩ = some (.slice (some ⟨gx, 0, none⟩) zs.length zs.length) := cell_of_block (S8.out.x7) 0; have ex1 : w8.cell? ⟨w4.heap.size, 1, none⟩ = some (.string r) := cell_of_block (S8.out.x7) 1; have ex2 : w8.cell? ⟨w4.heap.size, 2, none⟩ = some (.int .i64 size) := cell_of_block (S8.out.x7) 2; clear hb8)))
  clear c0 c1 c2 x0 x1 x2 dc0 dc1 dc2 dx0 dx1 dx2 ec0 ec1 ec2 S6' X6 S7 X7
  go_wp2_with fail
  refine (HM7.out _ _ X8.out).mono ?_
  rintro e w9 ⟨rfl, hg9⟩
  have S9 := mkHid (S8.out.wrote hg9 G.out.1 G.out.2.1 G.out.2.2.1 G.out.2.2.2 D5.out.2.2 D5.out.2.1)
  have s0 : w9.cell? ⟨w3.heap.size, 0, none⟩ = some (.slice a6 ps.length c6) := cell_of_block (S9.out.x6) 0
  have s1 : w9.cell? ⟨w3.heap.size, 1, none⟩ = some (.string pr) := cell_of_block (S9.out.x6) 1
  have s2 : w9.cell? ⟨w3.heap.size, 2, none⟩ = some (.int .i64 pz) := cell_of_block (S9.out.x6) 2
  have t0 : w9.cell? ⟨w5.heap.size, 0, none⟩ = some (.slice a8 ps.length c8) := cell_of_block (S9.out.x9) 0
  have t1 : w9.cell? ⟨w5.heap.size, 1, none⟩ = some (.string pr) := cell_of_block (S9.out.x9) 1
  have t2 : w9.cell? ⟨w5.heap.size, 2, none⟩ = some (.int .i64 pz) := cell_of_block (S9.out.x9) 2
  have hk9 : 0 ≤ 1 + (zs.length : Int) := by omega
  have hk9d : decide (1 + (zs.length : Int) < 0) = false := decide_eq_false (by omega)
  clear hg9 S8 X8 ex0 ex1 ex2
  go_wp2_with fail
  refine (HE.out _ _ _ _ _ S9.out.o9.rd S9.out.r6).mono ?_
  rintro e w10 ⟨rfl, hb10⟩
  have S10 := mkHid (S9.out.next hb10)
  have u0 : w10.cell? ⟨w5.heap.size, 0, none⟩ = some (.slice a8 ps.length c8) := cell_of_block (S10.out.x9) 0
  have u1 : w10.cell? ⟨w5.heap.size, 1, none⟩ = some (.string pr) := cell_of_block (S10.out.x9) 1
  have u2 : w10.cell? ⟨w5.heap.size, 2, none⟩ = some (.int .i64 pz) := cell_of_block (S10.out.x9) 2
  clear hb10 S9 s0 s1 s2 t0 t1 t2
  go_wp2_with fail
  refine (HM8.out _ _ _ S10.out.o9).mono ?_
  rintro e w11 ⟨rfl, ho11, hg11⟩
  have S11 := mkHid (S10.out.marked hg11 ho11 D5.out.1)
  have s0 : w11.cell? ⟨w5.heap.size, 0, none⟩ = some (.slice a8 ps.length c8) := cell_of_block (S11.out.x9) 0
  have s1 : w11.cell? ⟨w5.heap.size, 1, none⟩ = some (.string pr) := cell_of_block (S11.out.x9) 1
  have s2 : w11.cell? ⟨w5.heap.size, 2, none⟩ = some (.int .i64 pz) := cell_of_block (S11.out.x9) 2
  clear ho11 hg11 S10 u0 u1 u2
  go_wp2_with fail
  refine (HH.out _ _ _ S11.out.o9.rd).mono ?_
  rintro e w12 ⟨rfl, hb12⟩
  have S12 := mkHid (S11.out.next hb12)
  have c0 : w12.cell? ⟨w.heap.size, 0, none⟩ = some (.slice a zs.length cap) := cell_of_block (S12.out.bx) 0
  have c1 : w12.cell? ⟨w.heap.size, 1, none⟩ = some (.string r) := cell_of_block (S12.out.bx) 1
  have c2 : w12.cell? ⟨w.heap.size, 2, none⟩ = some (.int .i64 size) := cell_of_block (S12.out.bx) 2
  have hk12 : 0 ≤ 1 + (ps.length : Int) := by omega
  clear hb12 S11 s0 s1 s2
  go_wp2_with fail
  refine (HT.out _ S12.out.below).mono ?_
  rintro e w13 ⟨g13, rfl, hg13, ho13, hb13⟩
  have S13 := mkHid (And.intro (S12.out.next hb13) ho13)
  clear hb13 ho13 hg13 S12 c0 c1 c2
  go_wp2_with fail
  refine (HP.out _ _ S13.out.1.below S13.out.2).mono ?_
  rintro e w14 ⟨a14, c14, rfl, ho14, hf14, hb14⟩
  have S14 := mkHid (And.intro (S13.out.1.next hb14) ho14)
  have s0 : w14.cell? ⟨w3.heap.size, 0, none⟩ = some (.slice a6 ps.length c6) := cell_of_block (S14.out.1.x6) 0
  have s1 : w14.cell? ⟨w3.heap.size, 1, none⟩ = some (.string pr) := cell_of_block (S14.out.1.x6) 1
  have s2 : w14.cell? ⟨w3.heap.size, 2, none⟩ = some (.int .i64 pz) := cell_of_block (S14.out.1.x6) 2
  have hlt14 : w3.heap.size < w14.heap.size := (Array.getElem?_eq_some_iff.1 S14.out.1.x6).1
  have hnq14 : ¬ (w3.heap.size = w14.heap.size) := by omega
  clear hb14 ho14 hf14 S13
  go_wp2_with fail
  refine (HE.out _ _ _ _ _ (S14.out.2.rd.alloc _) (S14.out.1.r6.alloc _)).mono ?_
  rintro e w15 ⟨rfl, hb15⟩
  have S15 := mkHid (S14.out.1.next (below_allocs (os := [_]) hb15))
  have t0 : w15.cell? ⟨w5.heap.size, 0, none⟩ = some (.slice a8 ps.length c8) := cell_of_block (S15.out.x9) 0
  have t1 : w15.cell? ⟨w5.heap.size, 1, none⟩ = some (.string pr) := cell_of_block (S15.out.x9) 1
  have t2 : w15.cell? ⟨w5.heap.size, 2, none⟩ = some (.int .i64 pz) := cell_of_block (S15.out.x9) 2
  clear hb15 S14 s0 s1 s2 hlt14 hnq14
  go_wp2_with fail
  refine (HH.out _ _ _ S15.out.o9.rd).mono ?_
  rintro e w16 ⟨rfl, hb16⟩
  have S16 := mkHid (S15.out.next hb16)
  clear hb16 S15 t0 t1 t2
  go_wp2
  go_ret
  exact ⟨rfl, S16.out.below⟩

set_option maxRecDepth 100000 in
theorem more_walk (I : IMore) (a : Option Addr) (cap : Nat) (zs : List Int) (r t : ByteArray) (size : Int) (w : World) (hG : GV w) (hl : (zs.length : Int) ≤ 9223372036854775807) (hrl : (r.size : Int) ≤ 9223372036854775807) (htl : (t.size : Int) ≤ 9223372036854775807) (hr : Rd w a zs) (hs0 : -9223372036854775808 ≤ size) (hs1 : size ≤ 9223372036854775807) :
    Calls Tryd.prog 5 #[sha.hash a zs.length cap r size, .string t] w fun e w' => e = .returned (.bool true) ∧ Below w.heap.size w w' := by
  by_cases ht : 1048576 < (t.size : Int)
  · unfold sha.hash
    go_enter Tryd.func5, Tryd.ntmps5
    go_wp2
    go_ret
    exact ⟨rfl, below_alloc1 w _⟩
  by_cases h0 : 1048576 < zs.length + r.size
  · have ht' : (t.size : Int) ≤ 1048576 := by omega
    unfold sha.hash
    go_enter Tryd.func5, Tryd.ntmps5
    go_wp2_with fail
    refine (szH_any a zs.length cap r size _ _ hl hrl (by omega) (by omega)).mono ?_
    rintro e w1 ⟨rfl, hb1⟩
    have hsz : szv 1048576 zs.length r.size = -1 := by unfold szv; split <;> (try split) <;> omega
    rw [hsz]
    have B := mkHid (below_allocs (os := [_]) hb1)
    clear hb1 hr hl hsz
    go_wp2
    go_ret
    exact ⟨rfl, B.out⟩
  · exact more_in I a cap zs r t size w hG (by omega) (by omega) (by omega) (by omega) hr hs0 hs1
end Go.Proofs.YtkkndkikfphnbaaDoor.himpl
