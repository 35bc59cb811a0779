/-
  laws.FnExactPackRight and laws.FnExactPackBytes answer true at every list of blobs, and leave what was there as it was. Condition: the numbers of the rounds are there.
-/
import Derived.Test.YtlmhdebjmkcanaaDoorZPackB
import Derived.Test.YtlmhdebjmkcanaaDoorZPackC
import Derived.Test.YtlmhdebjmkcanaaDoorZCellA
import Derived.Test.YtlmhdebjmkcanaaDoorZShaH
namespace Go.Proofs.YtlmhdebjmkcanaaDoor.pack
open Go.RowKit Go.Joins
open Go.Proofs.YtlmhdebjmkcanaaDoor.base Go.Proofs.YtlmhdebjmkcanaaDoor.blk Go.Proofs.YtlmhdebjmkcanaaDoor.aid
open Go.Proofs.YtlmhdebjmkcanaaDoor.row (bl en Rd Own OwnV)
open Go.Proofs.YtlmhdebjmkcanaaDoor.sha (GV)
set_option linter.unusedVariables false

set_option maxRecDepth 100000 in
set_option maxHeartbeats 2000000 in
theorem packRight_walk (a : Option Addr) (c : Nat) (l : List (Int × ByteArray)) (w : World) (hl : (l.length : Int) ≤ 9223372036854775807) (hs : ∀ b ∈ l, (b.2.size : Int) ≤ 9223372036854775807) (hr : Rd w a (bl l)) (hG : GV w) :
    Calls Tryd.prog 6 #[.slice a l.length c] w fun e w' => e = .returned (.bool true) ∧ Below w.heap.size w w' := by
  have HZ := mkHid (szS_any a c l w hl hs hr)
  by_cases hz : szF l 1048576 < 0
  · generalize szF l 1048576 = z at *
    clear hr hG hs
    go_enter Tryd.func6, Tryd.ntmps6
    go_wp2_with fail
    refine HZ.out.mono ?_
    rintro e w1 ⟨rfl, hb1⟩
    have B1 := mkHid hb1
    clear hb1
    go_wp2
    go_ret
    exact ⟨rfl, B1.out⟩
  · have hz0 : 0 ≤ szF l 1048576 := by omega
    have hl1 : (l.length : Int) ≤ 1048576 := by
      unfold szF at hz0
      split at hz0 <;> omega
    generalize szF l 1048576 = z at *
    have HT : Hid (∀ wx, Rd wx a (bl l) → Calls Tryd.prog 24 #[.slice a l.length c] wx fun e w' => ∃ a' c', e = .returned (.slice a' l.length c') ∧ OwnV 39 w' a' (bl l) ∧ (∀ b o s, a' = some ⟨b, o, s⟩ → wx.heap.size ≤ b) ∧ Below wx.heap.size wx w') := mkHid (fun wx hx => toS_any a c l wx (by omega) hx)
    have HS := mkHid (fun wx a' c' (hx : Rd wx a' (bl l)) => right_spec_pack a' c' l wx (by omega) hx)
    have HI := mkHid (fun wx a' c' (hx : Rd wx a' (bl l)) (hb : Below w.heap.size w wx) => right_pack a' c' l wx (by omega) hx digI.digest_any (hG.below hb hG.lt))
    have HE := mkHid (fun wx a1 c1 a2 c2 (h1 : Rd wx a1 (bl l)) (h2 : Rd wx a2 (bl l)) => lwb.eqS_same a1 a2 c1 c2 l wx (by omega) h1 h2)
    have HA := mkHid hr
    clear hr hG hs hl
    generalize packR l = x at *
    have hxx : (x != x) = false := by cases x <;> rfl
    go_enter Tryd.func6, Tryd.ntmps6
    go_wp2_with fail
    refine HZ.out.mono ?_
    rintro e w1 ⟨rfl, hb1⟩
    have K1 := mkHid (And.intro hb1 (HA.out.below hb1))
    clear hb1 HZ HA
    go_wp2_with fail
    refine (HT.out _ K1.out.2).mono ?_
    rintro e w2 ⟨a2, c2, rfl, ho2, _, hb2⟩
    have K2 := mkHid (And.intro (K1.out.1.trans (hb2.mono K1.out.1.size)) (And.intro (K1.out.2.below hb2) ho2.rd))
    clear hb2 K1 ho2
    go_wp2_with fail
    refine (HS.out _ _ _ K2.out.2.2).mono ?_
    rintro e w3 ⟨rfl, hb3⟩
    have K3 := mkHid (And.intro (K2.out.1.trans (hb3.mono K2.out.1.size)) (K2.out.2.1.below hb3))
    clear hb3 K2 HS
    go_wp2_with fail
    refine (HT.out _ K3.out.2).mono ?_
    rintro e w4 ⟨a4, c4, rfl, ho4, _, hb4⟩
    have K4 := mkHid (And.intro (K3.out.1.trans (hb4.mono K3.out.1.size)) (And.intro (K3.out.2.below hb4) ho4.rd))
    clear hb4 K3 ho4
    go_wp2_with fail
    refine (HI.out _ _ _ K4.out.2.2 K4.out.1).mono ?_
    rintro e w5 ⟨rfl, hb5⟩
    have K5 := mkHid (And.intro (K4.out.1.trans (hb5.mono K4.out.1.size)) (And.intro (K4.out.2.1.below hb5) (K4.out.2.2.below hb5)))
    clear hb5 K4 HI
    go_wp2_with fail
    refine (HT.out _ K5.out.2.1).mono ?_
    rintro e w6 ⟨a6, c6, rfl, ho6, _, hb6⟩
    have K6 := mkHid (And.intro (K5.out.1.trans (hb6.mono K5.out.1.size)) (And.intro (K5.out.2.2.below hb6) ho6.rd))
    clear hb6 K5 ho6
    go_wp2_with fail
    refine (HE.out _ _ _ _ _ K6.out.2.1 K6.out.2.2).mono ?_
    rintro e w7 ⟨rfl, hb7⟩
    have K7 := mkHid (K6.out.1.trans (hb7.mono K6.out.1.size))
    clear hb7 K6
    go_wp2
    go_ret
    exact ⟨rfl, K7.out⟩

set_option maxRecDepth 100000 in
set_option maxHeartbeats 2000000 in
theorem packBytes_walk (a : Option Addr) (c : Nat) (l : List (Int × ByteArray)) (w : World) (hl : (l.length : Int) ≤ 9223372036854775807) (hs : ∀ b ∈ l, (b.2.size : Int) ≤ 9223372036854775807) (hr : Rd w a (bl l)) (hG : GV w) :
    Calls Tryd.prog 7 #[.slice a l.length c] w fun e w' => e = .returned (.bool true) ∧ Below w.heap.size w w' := by
  have HZ := mkHid (szS_any a c l w hl hs hr)
  by_cases hz : szF l 1048576 < 0
  · generalize szF l 1048576 = z at *
    clear hr hG hs
    go_enter Tryd.func7, Tryd.ntmps7
    go_wp2_with fail
    refine HZ.out.mono ?_
    rintro e w1 ⟨rfl, hb1⟩
    have B1 := mkHid hb1
    clear hb1
    go_wp2
    go_ret
    exact ⟨rfl, B1.out⟩
  · have hz0 : 0 ≤ szF l 1048576 := by omega
    have hl1 : (l.length : Int) ≤ 1048576 := by
      unfold szF at hz0
      split at hz0 <;> omega
    generalize szF l 1048576 = z at *
    have HT : Hid (∀ wx, Rd wx a (bl l) → Calls Tryd.prog 24 #[.slice a l.length c] wx fun e w' => ∃ a' c', e = .returned (.slice a' l.length c') ∧ OwnV 39 w' a' (bl l) ∧ (∀ b o s, a' = some ⟨b, o, s⟩ → wx.heap.size ≤ b) ∧ Below wx.heap.size wx w') := mkHid (fun wx hx => toS_any a c l wx (by omega) hx)
    have HS := mkHid (fun wx a' c' (hx : Rd wx a' (bl l)) => bytes_spec a' c' l wx (by omega) hx)
    have HI := mkHid (fun wx a' c' (hx : Rd wx a' (bl l)) (hb : Below w.heap.size w wx) => bytes_impl a' c' l wx (by omega) hx digI.digest_any (hG.below hb hG.lt))
    have HE := mkHid (fun wx a1 c1 a2 c2 (h1 : Rd wx a1 (bl l)) (h2 : Rd wx a2 (bl l)) => lwb.eqS_same a1 a2 c1 c2 l wx (by omega) h1 h2)
    have HA := mkHid hr
    clear hr hG hs hl
    generalize packB l = x at *
    have hxx : (!x.toList == x.toList) = false := by simp
    go_enter Tryd.func7, Tryd.ntmps7
    go_wp2_with fail
    refine HZ.out.mono ?_
    rintro e w1 ⟨rfl, hb1⟩
    have K1 := mkHid (And.intro hb1 (HA.out.below hb1))
    clear hb1 HZ HA
    go_wp2_with fail
    refine (HT.out _ K1.out.2).mono ?_
    rintro e w2 ⟨a2, c2, rfl, ho2, _, hb2⟩
    have K2 := mkHid (And.intro (K1.out.1.trans (hb2.mono K1.out.1.size)) (And.intro (K1.out.2.below hb2) ho2.rd))
    clear hb2 K1 ho2
    go_wp2_with fail
    refine (HS.out _ _ _ K2.out.2.2).mono ?_
    rintro e w3 ⟨rfl, hb3⟩
    have K3 := mkHid (And.intro (K2.out.1.trans (hb3.mono K2.out.1.size)) (K2.out.2.1.below hb3))
    clear hb3 K2 HS
    go_wp2_with fail
    refine (HT.out _ K3.out.2).mono ?_
    rintro e w4 ⟨a4, c4, rfl, ho4, _, hb4⟩
    have K4 := mkHid (And.intro (K3.out.1.trans (hb4.mono K3.out.1.size)) (And.intro (K3.out.2.below hb4) ho4.rd))
    clear hb4 K3 ho4
    go_wp2_with fail
    refine (HI.out _ _ _ K4.out.2.2 K4.out.1).mono ?_
    rintro e w5 ⟨rfl, hb5⟩
    have K5 := mkHid (And.intro (K4.out.1.trans (hb5.mono K4.out.1.size)) (And.intro (K4.out.2.1.below hb5) (K4.out.2.2.below hb5)))
    clear hb5 K4 HI
    go_wp2_with fail
    refine (HT.out _ K5.out.2.1).mono ?_
    rintro e w6 ⟨a6, c6, rfl, ho6, _, hb6⟩
    have K6 := mkHid (And.intro (K5.out.1.trans (hb6.mono K5.out.1.size)) (And.intro (K5.out.2.2.below hb6) ho6.rd))
    clear hb6 K5 ho6
    go_wp2_with fail
    refine (HE.out _ _ _ _ _ K6.out.2.1 K6.out.2.2).mono ?_
    rintro e w7 ⟨rfl, hb7⟩
    have K7 := mkHid (K6.out.1.trans (hb7.mono K6.out.1.size))
    clear hb7 K6
    go_wp2
    go_ret
    exact ⟨rfl, K7.out⟩

end Go.Proofs.YtlmhdebjmkcanaaDoor.pack
