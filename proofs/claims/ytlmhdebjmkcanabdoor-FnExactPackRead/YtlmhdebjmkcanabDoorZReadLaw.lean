/-
  laws.FnExactPackRead answers true at every text, where spec.l07At answers as told; nothing that was there turns. Condition: the numbers of the rounds are there.
-/
import Derived.Test.YtlmhdebjmkcanabDoorZReadA
import Derived.Test.YtlmhdebjmkcanabDoorZScanLaw
import Derived.Test.YtlmhdebjmkcanabDoorZPackC
namespace Go.Proofs.YtlmhdebjmkcanabDoor.pack
open Go.RowKit Go.Joins
open Go.Proofs.YtlmhdebjmkcanabDoor.base Go.Proofs.YtlmhdebjmkcanabDoor.blk Go.Proofs.YtlmhdebjmkcanabDoor.aid
open Go.Proofs.YtlmhdebjmkcanabDoor.row (bl en Rd Own OwnV)
open Go.Proofs.YtlmhdebjmkcanabDoor.sha (GV)
set_option linter.unusedVariables false

theorem iPackRight : rdr.IPackRight := fun a c l w hl hs hr hG => right_pack a c l w hl hr digI.digest_any hG

set_option maxRecDepth 100000 in
theorem eqOut_any (a b : Option Addr) (ca cb : Nat) (l : List (Int × ByteArray)) (p q : Int) (w : World) (hl : l.length ≤ 1048576) (ha : Rd w a (bl l)) (hb : Rd w b (bl l)) :
    Calls Tryd.prog 8 #[.agg #[.slice a l.length ca, .int .i64 p, .int .i64 q], .agg #[.slice b l.length cb, .int .i64 p, .int .i64 q]] w fun e w' => e = .returned (.bool true) ∧ Below w.heap.size w w' := by
  have h1 : (p != p) = false := by simp
  have h2 : (q != q) = false := by simp
  have HE := mkHid (fun wx (hx : Rd wx a (bl l)) (hy : Rd wx b (bl l)) => lwb.eqS_same a b ca cb l wx hl hx hy)
  have HA := mkHid ((ha.alloc (.cells #[.slice a l.length ca, .int .i64 p, .int .i64 q] 24)).alloc (.cells #[.slice b l.length cb, .int .i64 p, .int .i64 q] 24))
  have HB := mkHid ((hb.alloc (.cells #[.slice a l.length ca, .int .i64 p, .int .i64 q] 24)).alloc (.cells #[.slice b l.length cb, .int .i64 p, .int .i64 q] 24))
  clear ha hb
  go_enter Tryd.func8, Tryd.ntmps8
  go_wp2_with fail
  refine (HE.out _ HA.out HB.out).mono ?_
  rintro e w1 ⟨rfl, hb1⟩
  have K0 := blk_below (blk_old (blk_new w (.cells #[.slice a l.length ca, .int .i64 p, .int .i64 q] 24) w.heap.size rfl) (.cells #[.slice b l.length cb, .int .i64 p, .int .i64 q] 24)) hb1
  have K1 := blk_below (blk_new (w.alloc (.cells #[.slice a l.length ca, .int .i64 p, .int .i64 q] 24)) (.cells #[.slice b l.length cb, .int .i64 p, .int .i64 q] 24) (w.heap.size + 1) (by simp)) hb1
  obtain ⟨c0, c1, c2⟩ := cel3 K0
  obtain ⟨d0, d1, d2⟩ := cel3 K1
  have B1 := mkHid (below_allocs (os := [_, _]) hb1)
  clear hb1 K0 K1 HE HA HB
  go_wp2
  go_ret
  exact ⟨rfl, B1.out⟩

theorem markVB_row (a : Option Addr) (cap : Nat) (l : List (Int × ByteArray)) (m : Nat) (w : World) (hl : l.length ≤ 1048576) (hm1 : m ≤ 3000000) (hr : OwnV 37 w a (bl l)) :
    Calls Tryd.prog 27 #[.slice a l.length cap, .int .i64 m] w fun e w' => e = .returned (.int .i64 ((m : Int) + 2 * l.length)) ∧ OwnV 37 w' a (bl (lwb.mb m l.length)) ∧ ∃ r, w.grownBy w' r ∧ ∀ b, r = some b → bl l ≠ [] ∧ ∃ o s, a = some ⟨b, o, s⟩ := by
  by_cases h0 : bl l = []
  · have hl0 : l = [] := by
      cases l with
      | nil => rfl
      | cons b r => rw [row.bl_cons] at h0; cases h0
    subst hl0
    refine (lwb.markB_nil cap a m w).mono ?_
    rintro e w1 ⟨rfl, rfl⟩
    exact ⟨by simp, .inl rfl, none, grew_refl _ _, fun b e => by cases e⟩
  · rcases hr with h | ⟨g, rfl, ho⟩
    · exact absurd h h0
    · refine (lwb.markB_any g cap l m w hl hm1 ho).mono ?_
      rintro e w1 ⟨rfl, h1, h2⟩
      exact ⟨rfl, .inr ⟨g, rfl, h1⟩, some g, h2, fun b e => by cases e; exact ⟨h0, 0, none, rfl⟩⟩

set_option maxRecDepth 100000 in
theorem markOut_any (a : Option Addr) (ca : Nat) (l : List (Int × ByteArray)) (p q : Int) (w : World) (hl : l.length ≤ 1048576) (ha : OwnV 37 w a (bl l)) :
    Calls Tryd.prog 9 #[.agg #[.slice a l.length ca, .int .i64 p, .int .i64 q], .int .i64 1] w fun e w' => e = .returned (.int .i64 (1 + 2 * l.length)) ∧ OwnV 37 w' a (bl (lwb.mb 1 l.length)) ∧ ∃ r, w.grownBy w' r ∧ ∀ b, r = some b → bl l ≠ [] ∧ ∃ o s, a = some ⟨b, o, s⟩ := by
  have HM := mkHid (markVB_row a ca l 1 _ hl (by omega) (ha.alloc (.cells #[.slice a l.length ca, .int .i64 p, .int .i64 q] 24)))
  clear ha
  go_enter Tryd.func9, Tryd.ntmps9
  go_wp2_with fail
  refine HM.out.mono ?_
  rintro e w1 ⟨rfl, ho1, r, hg1, hr1⟩
  have K1 := mkHid (And.intro ho1 (And.intro (grew_grew (below_grew (below_alloc1 w _) r) hg1) hr1))
  have hli : (l.length : Int) ≤ 1048576 := by omega
  clear ho1 hg1 hr1 HM
  go_wp2
  go_ret
  exact ⟨rfl, K1.out.1, r, K1.out.2.1, K1.out.2.2⟩

set_option maxRecDepth 100000 in
theorem heldOut_any (a : Option Addr) (ca n : Nat) (p q : Int) (w : World) (hl : n ≤ 1048576) (ha : Rd w a (bl (lwb.mb 1 n))) :
    Calls Tryd.prog 10 #[.agg #[.slice a n ca, .int .i64 p, .int .i64 q], .int .i64 1] w fun e w' => e = .returned (.int .i64 (1 + 2 * n)) ∧ Below w.heap.size w w' := by
  have HM := mkHid (lwb.heldB_any a ca n 1 _ hl (by omega) (ha.alloc (.cells #[.slice a n ca, .int .i64 p, .int .i64 q] 24)))
  clear ha
  have hli : (n : Int) ≤ 1048576 := by omega
  have hk7 : 0 ≤ 1 + 2 * (n : Int) := by omega
  go_enter Tryd.func10, Tryd.ntmps10
  go_wp2_with fail
  refine HM.out.mono ?_
  rintro e w1 ⟨rfl, hb1⟩
  have B1 := mkHid (below_allocs (os := [_]) hb1)
  clear hb1 HM
  go_wp2
  go_ret
  exact ⟨rfl, B1.out⟩

/-- what stays while the law goes on: also the two answers' variables -/
structure Sr (W : World) (xs : List Value) (a5 a6 : Option Addr) (zs : List Value) (z5 z6 : Nat) (o5 o6 : Obj) (wx : World) : Prop where
  below : Below W.heap.size W wx
  r5 : Rd wx a5 xs
  ow : OwnV 37 wx a6 zs
  b5 : wx.heap[z5]? = some o5
  b6 : wx.heap[z6]? = some o6
theorem Sr.next {W wx w' : World} {xs zs : List Value} {a5 a6 : Option Addr} {z5 z6 : Nat} {o5 o6 : Obj} (h : Sr W xs a5 a6 zs z5 z6 o5 o6 wx) (hb : Below wx.heap.size wx w') : Sr W xs a5 a6 zs z5 z6 o5 o6 w' :=
  ⟨h.below.trans (hb.mono h.below.size), h.r5.below hb, h.ow.below hb, blk_below h.b5 hb, blk_below h.b6 hb⟩
theorem Sr.marked {W wx w' : World} {xs zs zs' : List Value} {a5 a6 : Option Addr} {z5 z6 : Nat} {o5 o6 : Obj} {r : Option Nat} (h : Sr W xs a5 a6 zs z5 z6 o5 o6 wx) (hg : wx.grownBy w' r) (ho : OwnV 37 w' a6 zs') (hne : ∀ b, r = some b → W.heap.size ≤ b ∧ Away a5 b xs ∧ b ≠ z5 ∧ b ≠ z6) : Sr W xs a5 a6 zs' z5 z6 o5 o6 w' := by
  cases r with
  | none =>
    have hb : Below wx.heap.size wx w' := ⟨hg.os, hg.tape, hg.output, hg.size, fun k hk => hg.block k hk (by simp)⟩
    exact ⟨h.below.trans (hb.mono h.below.size), h.r5.below hb, ho, blk_below h.b5 hb, blk_below h.b6 hb⟩
  | some b =>
    obtain ⟨e0, e1, e2, e3⟩ := hne b rfl
    exact ⟨h.below.grown hg h.below.size (fun k hk => by simp at hk; omega), rd_away h.r5 hg e1, ho, (hg.block z5 (Array.getElem?_eq_some_iff.1 h.b5).1 (by simp; omega)).trans h.b5, (hg.block z6 (Array.getElem?_eq_some_iff.1 h.b6).1 (by simp; omega)).trans h.b6⟩

set_option maxRecDepth 100000 in
set_option maxHeartbeats 4000000 in
theorem read_law (A : IAt) (s : ByteArray) (w : World) (hs : s.size ≤ 1048576) (hG : GV w) :
    Calls Tryd.prog 3 #[.string s] w fun e w' => e = .returned (.bool true) ∧ Below w.heap.size w w' := by
  have hp := readT_len s
  have KS := fun wx => read_spec A s wx hs
  have KI := fun wx (hb : Below w.heap.size w wx) => rdr.read_impl iPackRight s wx hs digI.digest_any (hG.below hb hG.lt)
  generalize readT s = o at hp KS KI
  obtain ⟨l, p, q⟩ := o
  simp only at hp
  have HS : Hid (∀ wx, Calls Tryd.prog 6 #[.string s] wx fun e w' => ∃ a c, e = .returned (.agg #[.slice a l.length c, .int .i64 p, .int .i64 q]) ∧ OwnV 37 w' a (bl l) ∧ (∀ b o s, a = some ⟨b, o, s⟩ → wx.heap.size ≤ b) ∧ Below wx.heap.size wx w') := mkHid KS
  have HP : Hid (∀ wx, Below w.heap.size w wx → Calls Tryd.prog 7 #[.string s] wx fun e w' => ∃ a c, e = .returned (.agg #[.slice a l.length c, .int .i64 p, .int .i64 q]) ∧ OwnV 37 w' a (bl l) ∧ (∀ b o s, a = some ⟨b, o, s⟩ → wx.heap.size ≤ b) ∧ Below wx.heap.size wx w') := mkHid KI
  have HE := mkHid (fun wx a c a' c' (h1 : Rd wx a (bl l)) (h2 : Rd wx a' (bl l)) => eqOut_any a a' c c' l p q wx (by omega) h1 h2)
  have HM := mkHid (fun wx a c (h : OwnV 37 wx a (bl l)) => markOut_any a c l p q wx (by omega) h)
  have HH := mkHid (fun wx a c (h : Rd wx a (bl (lwb.mb 1 l.length))) => heldOut_any a c l.length p q wx (by omega) h)
  clear KS KI A hG
  have hti : (l.length : Int) ≤ 20000 := by omega
  have hsi : (s.size : Int) ≤ 1048576 := by omega
  have hk7 : 0 ≤ 1 + 2 * (l.length : Int) := by omega
  have hne : (1 + 2 * (l.length : Int) != 1 + 2 * (l.length : Int)) = false := by simp
  go_enter Tryd.func3, Tryd.ntmps3
  go_wp2_with fail
  refine (HS.out _).mono ?_
  rintro e w2 ⟨a5, c5, rfl, ho5, hf5, hb2⟩
  have K2 := mkHid (And.intro (hb2.trans ((below_alloc1 w2 (.cells #[.slice a5 l.length c5, .int .i64 p, .int .i64 q] 24)).mono hb2.size)) (And.intro (ho5.rd.alloc (.cells #[.slice a5 l.length c5, .int .i64 p, .int .i64 q] 24)) (blk_new w2 (.cells #[.slice a5 l.length c5, .int .i64 p, .int .i64 q] 24) w2.heap.size rfl)))
  clear hb2 ho5 hf5
  go_wp2_with fail
  refine (HP.out _ K2.out.1).mono ?_
  rintro e w4 ⟨a6, c6, rfl, ho6, hf6, hb4⟩
  have S4 : Hid (Sr w (bl l) a5 a6 (bl l) w2.heap.size w4.heap.size (.cells #[.slice a5 l.length c5, .int .i64 p, .int .i64 q] 24) (.cells #[.slice a6 l.length c6, .int .i64 p, .int .i64 q] 24) (w4.alloc (.cells #[.slice a6 l.length c6, .int .i64 p, .int .i64 q] 24))) :=
    mkHid ⟨(K2.out.1.trans (hb4.mono K2.out.1.size)).alloc (Nat.le_trans K2.out.1.size hb4.size) _, (K2.out.2.1.below hb4).alloc _, ho6.alloc _, blk_old (blk_below K2.out.2.2 hb4) _, blk_new w4 _ _ rfl⟩
  have D4 : Hid (∀ b o s, a6 = some ⟨b, o, s⟩ → bl l ≠ [] → w.heap.size ≤ b ∧ Away a5 b (bl l) ∧ b ≠ w2.heap.size ∧ b ≠ w4.heap.size) := mkHid (fun b o s e hnl => by
    have q1 := hf6 b o s e
    have q2 : b < w4.heap.size := by
      rcases ho6 with h | ⟨g, e2, hg⟩
      · exact absurd h hnl
      · rw [e] at e2
        simp at e2
        rw [e2.1]
        exact hg.lt
    have q3 := (Array.getElem?_eq_some_iff.1 K2.out.2.2).1
    exact ⟨Nat.le_trans K2.out.1.size q1, away_new K2.out.2.1 q1, by omega, by omega⟩)
  have d0 : ∀ o, (w4.alloc (.cells #[.slice a6 l.length c6, .int .i64 p, .int .i64 q] 24)).cell? ⟨w2.heap.size, o, none⟩ = (#[Value.slice a5 l.length c5, .int .i64 p, .int .i64 q] : Array Value)[o]? := fun o => cell_of_block S4.out.b5 o
  have d1 := d0 0
  have d2 := d0 1
  have d3 := d0 2
  clear hb4 K2 ho6 hf6 d0
  go_wp2_with fail
  refine (HE.out _ _ _ _ _ S4.out.ow.rd S4.out.r5).mono ?_
  rintro e w5 ⟨rfl, hb5⟩
  have S5 := mkHid (S4.out.next hb5)
  obtain ⟨f0, f1, f2⟩ := cel3 S5.out.b6
  clear hb5 S4 d1 d2 d3
  go_wp2_with fail
  refine (HM.out _ _ _ S5.out.ow).mono ?_
  rintro e w6 ⟨rfl, ho6, r, hg6, hr6⟩
  have S6 := mkHid (S5.out.marked hg6 ho6 (fun b e => by obtain ⟨h1, o, s, h2⟩ := hr6 b e; exact D4.out b o s h2 h1))
  obtain ⟨g0, g1, g2⟩ := cel3 S6.out.b6
  clear ho6 hg6 hr6 S5 f0 f1 f2
  go_wp2_with fail
  refine (HH.out _ _ _ S6.out.ow.rd).mono ?_
  rintro e w7 ⟨rfl, hb7⟩
  have S7 := mkHid (S6.out.next hb7)
  clear hb7 S6 g0 g1 g2
  go_wp2_with fail
  refine (HP.out _ S7.out.below).mono ?_
  rintro e w9 ⟨a9, c9, rfl, ho9, hf9, hb9⟩
  have S9 := mkHid (And.intro ((S7.out.next hb9).next (below_alloc1 w9 (.cells #[.slice a9 l.length c9, .int .i64 p, .int .i64 q] 24))) (ho9.alloc (.cells #[.slice a9 l.length c9, .int .i64 p, .int .i64 q] 24)))
  obtain ⟨d1, d2, d3⟩ := cel3 S9.out.1.b5
  clear hb9 S7 ho9 hf9
  go_wp2_with fail
  refine (HE.out _ _ _ _ _ S9.out.2.rd S9.out.1.r5).mono ?_
  rintro e w10 ⟨rfl, hb10⟩
  have S10 := mkHid (S9.out.1.next hb10)
  obtain ⟨f0, f1, f2⟩ := cel3 S10.out.b6
  clear hb10 S9 d1 d2 d3
  go_wp2_with fail
  refine (HH.out _ _ _ S10.out.ow.rd).mono ?_
  rintro e w11 ⟨rfl, hb11⟩
  have S11 := mkHid (S10.out.next hb11)
  clear hb11 S10
  go_wp2
  go_ret
  exact ⟨rfl, S11.out.below⟩

set_option maxRecDepth 100000 in
theorem read_walk (A : IAt) (s : ByteArray) (w : World) (hs : (s.size : Int) ≤ 9223372036854775807) (hG : GV w) :
    Calls Tryd.prog 3 #[.string s] w fun e w' => e = .returned (.bool true) ∧ Below w.heap.size w w' := by
  by_cases h : 1048576 < (s.size : Int)
  · go_enter Tryd.func3, Tryd.ntmps3
    go_wp2
    go_ret
    exact ⟨rfl, Below.refl _ _⟩
  · exact read_law A s w (by omega) hG
end Go.Proofs.YtlmhdebjmkcanabDoor.pack
