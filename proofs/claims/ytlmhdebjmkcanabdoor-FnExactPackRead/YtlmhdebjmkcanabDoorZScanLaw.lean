/-
  laws.FnExactPackScan answers true at every text, where spec.l07At answers as told; nothing that was there turns. Condition: the numbers of the rounds are there.
-/
import Derived.Test.YtlmhdebjmkcanabDoorZScanS
import Derived.Test.YtlmhdebjmkcanabDoorZCellA
import Derived.Test.YtlmhdebjmkcanabDoorZMarkA
import Derived.Test.YtlmhdebjmkcanabDoorZShaH
namespace Go.Proofs.YtlmhdebjmkcanabDoor.pack
open Go.RowKit Go.Joins
open Go.Proofs.YtlmhdebjmkcanabDoor.base Go.Proofs.YtlmhdebjmkcanabDoor.blk Go.Proofs.YtlmhdebjmkcanabDoor.aid
open Go.Proofs.YtlmhdebjmkcanabDoor.row (bl en Rd Own OwnV)
open Go.Proofs.YtlmhdebjmkcanabDoor.rdr (SPost)
open Go.Proofs.YtlmhdebjmkcanabDoor.sha (GV)
set_option linter.unusedVariables false

/-- these cells do not lie in that block, or there are none -/
def Away (a : Option Addr) (g : Nat) (xs : List Value) : Prop := xs = [] ∨ ∀ b o s, a = some ⟨b, o, s⟩ → b ≠ g
theorem rd_away {w w' : World} {a : Option Addr} {g : Nat} {xs : List Value} (h : Rd w a xs) (hg : w.grownBy w' (some g)) (ha : Away a g xs) : Rd w' a xs := by
  rcases ha with rfl | ha
  · exact Rd.nil _ _
  · exact h.block (fun b o e hb => hg.block b hb (fun e2 => ha b o none e (by simpa using e2)))
theorem away_new {w : World} {a : Option Addr} {g : Nat} {xs : List Value} (h : Rd w a xs) (hg : w.heap.size ≤ g) : Away a g xs := by
  cases xs with
  | nil => exact .inl rfl
  | cons z l =>
    refine .inr (fun b o s e => ?_)
    obtain ⟨b', o', e1, e2⟩ := h 0 z rfl
    rw [e] at e1
    simp at e1
    obtain ⟨rfl, rfl, _⟩ := e1
    have := World.block_lt_of_cell? w _ e2
    simp at this
    omega
/-- what stays while the law goes on -/
structure Sq (W : World) (T : TypeId) (xs : List Value) (a5 a6 : Option Addr) (zs : List Value) (wx : World) : Prop where
  below : Below W.heap.size W wx
  r5 : Rd wx a5 xs
  o6 : OwnV T wx a6 zs
theorem Sq.next {W wx w' : World} {T : TypeId} {xs zs : List Value} {a5 a6 : Option Addr} (h : Sq W T xs a5 a6 zs wx) (hb : Below wx.heap.size wx w') : Sq W T xs a5 a6 zs w' :=
  ⟨h.below.trans (hb.mono h.below.size), h.r5.below hb, h.o6.below hb⟩
theorem Sq.marked {W wx w' : World} {T : TypeId} {xs zs zs' : List Value} {a5 a6 : Option Addr} (h : Sq W T xs a5 a6 zs wx) (hg : wx.grownBy w' (a6.map (·.block))) (ho : OwnV T w' a6 zs') (hne : ∀ b o s, a6 = some ⟨b, o, s⟩ → W.heap.size ≤ b ∧ Away a5 b xs) : Sq W T xs a5 a6 zs' w' := by
  cases a6 with
  | none =>
    have hb : Below wx.heap.size wx w' := ⟨hg.os, hg.tape, hg.output, hg.size, fun k hk => hg.block k hk (by simp)⟩
    exact ⟨h.below.trans (hb.mono h.below.size), h.r5.below hb, ho⟩
  | some ad =>
    obtain ⟨b, o, s⟩ := ad
    obtain ⟨e0, e1⟩ := hne b o s rfl
    have hg' : wx.grownBy w' (some b) := hg
    exact ⟨h.below.grown hg' h.below.size (fun k hk => by simp at hk; omega), rd_away h.r5 hg' e1, ho⟩

set_option maxRecDepth 100000 in
set_option maxHeartbeats 4000000 in
theorem scan_law (A : IAt) (s : ByteArray) (w : World) (hs : s.size ≤ 1048576) (hG : GV w) :
    Calls Tryd.prog 4 #[.string s] w fun e w' => e = .returned (.bool true) ∧ Below w.heap.size w w' := by
  have hp := scanT_len s
  have KS := fun wx => scan_spec A s wx hs
  have KI := fun wx (hb : Below w.heap.size w wx) => rdr.scan_impl s wx hs digI.digest_any (hG.below hb hG.lt)
  generalize scanT s = l at hp KS KI
  have HS : Hid (∀ wx, Calls Tryd.prog 11 #[.string s] wx fun e w' => ∃ a c, e = .returned (.slice a l.length c) ∧ OwnV 41 w' a (en l) ∧ (∀ b o s, a = some ⟨b, o, s⟩ → wx.heap.size ≤ b) ∧ Below wx.heap.size wx w') := mkHid KS
  have HP : Hid (∀ wx, Below w.heap.size w wx → Calls Tryd.prog 12 #[.string s] wx fun e w' => ∃ a c, e = .returned (.slice a l.length c) ∧ OwnV 41 w' a (en l) ∧ (∀ b o s, a = some ⟨b, o, s⟩ → wx.heap.size ≤ b) ∧ Below wx.heap.size wx w') := mkHid KI
  have HE : Hid (∀ wx a c a' c', Rd wx a (en l) → Rd wx a' (en l) → Calls Tryd.prog 13 #[.slice a l.length c, .slice a' l.length c'] wx fun e w' => e = .returned (.bool true) ∧ Below wx.heap.size wx w') :=
    mkHid (fun wx a c a' c' h1 h2 => lwb.eqES_same a a' c c' l wx (by omega) h1 h2)
  have HM : Hid (∀ wx a c, OwnV 41 wx a (en l) → Calls Tryd.prog 14 #[.slice a l.length c, .int .i64 1] wx fun e w' => e = .returned (.int .i64 (1 + 4 * l.length)) ∧ OwnV 41 w' a (en (lwb.me 1 l.length)) ∧ wx.grownBy w' (a.map (·.block))) := mkHid (fun wx a c h => lwb.markVE_any a c l 1 wx (by omega) (by omega) h)
  have HH : Hid (∀ wx a c, Rd wx a (en (lwb.me 1 l.length)) → Calls Tryd.prog 15 #[.slice a l.length c, .int .i64 1] wx fun e w' => e = .returned (.int .i64 (1 + 4 * l.length)) ∧ Below wx.heap.size wx w') := mkHid (fun wx a c h => lwb.heldE_any a c l.length 1 wx (by omega) (by omega) h)
  clear KS KI A hG
  have hti : (l.length : Int) ≤ 20000 := by omega
  have hsi : (s.size : Int) ≤ 1048576 := by omega
  have hk7 : 0 ≤ 1 + 4 * (l.length : Int) := by omega
  have hne : (1 + 4 * (l.length : Int) != 1 + 4 * (l.length : Int)) = false := by simp
  go_enter Tryd.func4, Tryd.ntmps4
  go_wp2_with fail
  refine (HS.out _).mono ?_
  rintro e w2 ⟨a5, c5, rfl, ho5, hf5, hb2⟩
  have K2 := mkHid (And.intro hb2 ho5.rd)
  clear hb2 ho5 hf5
  go_wp2_with fail
  refine (HP.out _ K2.out.1).mono ?_
  rintro e w4 ⟨a6, c6, rfl, ho6, hf6, hb4⟩
  have S4 : Hid (Sq w 41 (en l) a5 a6 (en l) w4) := mkHid ⟨K2.out.1.trans (hb4.mono K2.out.1.size), K2.out.2.below hb4, ho6⟩
  have D4 : Hid (∀ b o s, a6 = some ⟨b, o, s⟩ → w.heap.size ≤ b ∧ Away a5 b (en l)) := mkHid (fun b o s e => by
    have q1 := hf6 b o s e
    exact ⟨Nat.le_trans K2.out.1.size q1, away_new K2.out.2 q1⟩)
  clear hb4 K2 ho6 hf6
  go_wp2_with fail
  refine (HE.out _ _ _ _ _ S4.out.o6.rd S4.out.r5).mono ?_
  rintro e w5 ⟨rfl, hb5⟩
  have S5 := mkHid (S4.out.next hb5)
  clear hb5 S4
  go_wp2_with fail
  refine (HM.out _ _ _ S5.out.o6).mono ?_
  rintro e w6 ⟨rfl, ho6, hg6⟩
  have S6 := mkHid (S5.out.marked hg6 ho6 D4.out)
  clear ho6 hg6 S5
  go_wp2_with fail
  refine (HH.out _ _ _ S6.out.o6.rd).mono ?_
  rintro e w7 ⟨rfl, hb7⟩
  have S7 := mkHid (S6.out.next hb7)
  clear hb7 S6
  go_wp2_with fail
  refine (HP.out _ S7.out.below).mono ?_
  rintro e w9 ⟨a9, c9, rfl, ho9, hf9, hb9⟩
  have S9 := mkHid (And.intro (S7.out.next hb9) ho9)
  clear hb9 S7 ho9 hf9
  go_wp2_with fail
  refine (HE.out _ _ _ _ _ S9.out.2.rd S9.out.1.r5).mono ?_
  rintro e w10 ⟨rfl, hb10⟩
  have S10 := mkHid (S9.out.1.next hb10)
  clear hb10 S9
  go_wp2_with fail
  refine (HH.out _ _ _ S10.out.o6.rd).mono ?_
  rintro e w11 ⟨rfl, hb11⟩
  have S11 := mkHid (S10.out.next hb11)
  clear hb11 S10
  go_wp2
  go_ret
  exact ⟨rfl, S11.out.below⟩

set_option maxRecDepth 100000 in
theorem scan_walk (A : IAt) (s : ByteArray) (w : World) (hs : (s.size : Int) ≤ 9223372036854775807) (hG : GV w) :
    Calls Tryd.prog 4 #[.string s] w fun e w' => e = .returned (.bool true) ∧ Below w.heap.size w w' := by
  by_cases h : 1048576 < (s.size : Int)
  · go_enter Tryd.func4, Tryd.ntmps4
    go_wp2
    go_ret
    exact ⟨rfl, Below.refl _ _⟩
  · exact scan_law A s w (by omega) hG
end Go.Proofs.YtlmhdebjmkcanabDoor.pack
