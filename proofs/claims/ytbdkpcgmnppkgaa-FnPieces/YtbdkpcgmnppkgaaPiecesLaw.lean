/-
  laws.FnExactPieces answers true at every cutting and text, where the program's Pieces answers as told; nothing that was there turns. Condition: what the program's call answers.
-/
import Derived.Test.YtbdkpcgmnppkgaaPiecesS
namespace Go.Proofs.Ytbdkpcgmnppkgaa.fing
open Go.RowKit Go.Joins
open Go.Proofs.Ytbdkpcgmnppkgaa.base Go.Proofs.Ytbdkpcgmnppkgaa.blk
open Go.Proofs.Ytbdkpcgmnppkgaa.strs (strV RdT OwnT OwnVT)
set_option linter.unusedVariables false

def IPieces : Prop := ∀ (mn bs mx : Int) (s : ByteArray) (w : World), s.size ≤ 1048576 → Calls Try.prog 17 #[cutV mn bs mx, .string s] w fun e w' => TPost w (piecesT mn bs mx s) e w'

/-- these texts do not lie in that block, or there are none -/
def AwayT (a : Option Addr) (g : Nat) (ts : List ByteArray) : Prop := ts = [] ∨ ∀ b o s, a = some ⟨b, o, s⟩ → b ≠ g
theorem rd_awayT {w w' : World} {a : Option Addr} {g : Nat} {ts : List ByteArray} (h : RdT w a ts) (hg : w.grownBy w' (some g)) (ha : AwayT a g ts) : RdT w' a ts := by
  rcases ha with rfl | ha
  · exact RdT.nil _ _
  · exact h.block (fun b o e hb => hg.block b hb (fun e2 => ha b o none e (by simpa using e2)))
theorem away_newT {w : World} {a : Option Addr} {g : Nat} {ts : List ByteArray} (h : RdT w a ts) (hg : w.heap.size ≤ g) : AwayT a g ts := by
  cases ts with
  | nil => exact .inl rfl
  | cons z l =>
    refine .inr (fun b o s e => ?_)
    obtain ⟨b', o', e1, e2⟩ := h 0 z rfl
    rw [e] at e1
    simp at e1
    obtain ⟨rfl, rfl, _⟩ := e1
    have := World.block_lt_of_cell? w _ e2
    simp at this
    omega
/-- what stays while the law goes on -/
structure Sp (W : World) (box : Obj) (ts : List ByteArray) (a5 a6 : Option Addr) (zs : List ByteArray) (wx : World) : Prop where
  below : Below W.heap.size W wx
  bx : wx.heap[W.heap.size]? = some box
  r5 : RdT wx a5 ts
  o6 : OwnVT wx a6 zs
theorem Sp.next {W wx w' : World} {box : Obj} {ts zs : List ByteArray} {a5 a6 : Option Addr} (h : Sp W box ts a5 a6 zs wx) (hb : Below wx.heap.size wx w') : Sp W box ts a5 a6 zs w' :=
  ⟨h.below.trans (hb.mono h.below.size), blk_below h.bx hb, h.r5.below hb, h.o6.below hb⟩
theorem Sp.marked {W wx w' : World} {box : Obj} {ts zs zs' : List ByteArray} {a5 a6 : Option Addr} (h : Sp W box ts a5 a6 zs wx) (hg : strs.GrewT wx w' a6) (ho : OwnVT w' a6 zs') (hne : ∀ b o s, a6 = some ⟨b, o, s⟩ → W.heap.size < b ∧ AwayT a5 b ts) : Sp W box ts a5 a6 zs' w' := by
  cases a6 with
  | none =>
    have hb : Below wx.heap.size wx w' := ⟨hg.os, hg.tape, hg.output, hg.size, fun k hk => hg.block k hk (by simp)⟩
    exact ⟨h.below.trans (hb.mono h.below.size), blk_below h.bx hb, h.r5.below hb, ho⟩
  | some ad =>
    obtain ⟨b, o, s⟩ := ad
    obtain ⟨e0, e1⟩ := hne b o s rfl
    have hg' : wx.grownBy w' (some b) := hg
    exact ⟨h.below.grown hg' h.below.size (fun k hk => by simp at hk; omega), (hg'.block _ (Array.getElem?_eq_some_iff.1 h.bx).1 (by simp; omega)).trans h.bx, rd_awayT h.r5 hg' e1, ho⟩

set_option maxRecDepth 100000 in
set_option maxHeartbeats 4000000 in
theorem pieces_in (I : IPieces) (mn bs mx : Int) (s : ByteArray) (w : World) (hs : s.size ≤ 1048576) :
    Calls Try.prog 10 #[cutV mn bs mx, .string s] w fun e w' => e = .returned (.bool true) ∧ Below w.heap.size w w' := by
  have HT : Hid (∀ wx, Calls Try.prog 22 #[.agg #[.int .i64 mn, .int .i64 bs, .int .i64 mx]] wx fun e w' => e = .returned (.agg #[.int .i64 mn, .int .i64 bs, .int .i64 mx]) ∧ Below wx.heap.size wx w') := mkHid (fun wx => toCut_any mn bs mx wx)
  have hp := piecesT_len mn bs mx s
  have KS := fun wx => piecesT_any mn bs mx s wx hs
  have KI := fun wx => I mn bs mx s wx hs
  generalize piecesT mn bs mx s = ts at hp KS KI
  have HS : Hid (∀ wx, Calls Try.prog 18 #[.agg #[.int .i64 mn, .int .i64 bs, .int .i64 mx], .string s] wx fun e w' => ∃ a c, e = .returned (.slice a ts.length c) ∧ OwnVT w' a ts ∧ (∀ b o s, a = some ⟨b, o, s⟩ → wx.heap.size ≤ b) ∧ Below wx.heap.size wx w') := mkHid KS
  have HP : Hid (∀ wx, Calls Try.prog 17 #[.agg #[.int .i64 mn, .int .i64 bs, .int .i64 mx], .string s] wx fun e w' => ∃ a c, e = .returned (.slice a ts.length c) ∧ OwnVT w' a ts ∧ (∀ b o s, a = some ⟨b, o, s⟩ → wx.heap.size ≤ b) ∧ Below wx.heap.size wx w') := mkHid KI
  have HE : Hid (∀ wx a c a' c', RdT wx a ts → RdT wx a' ts → Calls Try.prog 27 #[.slice a ts.length c, .slice a' ts.length c'] wx fun e w' => e = .returned (.bool true) ∧ Below wx.heap.size wx w') :=
    mkHid (fun wx a c a' c' h1 h2 => (strs.eqT_any a a' c c' ts ts wx (by omega) (by omega) h1 h2).mono (by rintro e w' ⟨rfl, hb⟩; exact ⟨ret_eq (by simp), hb⟩))
  have HM : Hid (∀ wx a c, OwnVT wx a ts → Calls Try.prog 28 #[.slice a ts.length c, .int .i64 1] wx fun e w' => e = .returned (.int .i64 (1 + ts.length)) ∧ OwnVT w' a (strs.from_ 1 ts.length) ∧ strs.GrewT wx w' a) := mkHid (fun wx a c h => strs.markVT_any a c ts 1 wx (by omega) (by omega) h)
  have HH : Hid (∀ wx a c, RdT wx a (strs.from_ 1 ts.length) → Calls Try.prog 29 #[.slice a ts.length c, .int .i64 1] wx fun e w' => e = .returned (.int .i64 (1 + ts.length)) ∧ Below wx.heap.size wx w') := mkHid (fun wx a c h => strs.heldT_any a c ts.length 1 wx (by omega) (by omega) h)
  clear KS KI I
  have hti : (ts.length : Int) ≤ 20000 := by omega
  have hsi : (s.size : Int) ≤ 1048576 := by omega
  unfold cutV
  go_enter Try.func10, Try.ntmps10
  go_wp2_with fail
  refine (HT.out _).mono ?_
  rintro e w1 ⟨rfl, hb1⟩
  have K1 := mkHid (And.intro (below_allocs (os := [_]) hb1) (blk_below (blk_new w (.cells #[.int .i64 mn, .int .i64 bs, .int .i64 mx] 37) w.heap.size rfl) hb1))
  clear hb1
  go_wp2_with fail
  refine (HS.out _).mono ?_
  rintro e w2 ⟨a5, c5, rfl, ho5, hf5, hb2⟩
  have K2 := mkHid (And.intro (K1.out.1.trans (hb2.mono K1.out.1.size)) (And.intro (blk_below K1.out.2 hb2) ho5.rd))
  obtain ⟨c0, c1, c2⟩ := cells3 K2.out.2.1
  clear hb2 K1 ho5 hf5
  go_wp2_with fail
  refine (HT.out _).mono ?_
  rintro e w3 ⟨rfl, hb3⟩
  have K3 := mkHid (And.intro (K2.out.1.trans (hb3.mono K2.out.1.size)) (And.intro (blk_below K2.out.2.1 hb3) (K2.out.2.2.below hb3)))
  clear hb3 K2 c0 c1 c2
  go_wp2_with fail
  refine (HP.out _).mono ?_
  rintro e w4 ⟨a6, c6, rfl, ho6, hf6, hb4⟩
  have S4 : Hid (Sp w (.cells #[.int .i64 mn, .int .i64 bs, .int .i64 mx] 37) ts a5 a6 ts w4) := mkHid ⟨K3.out.1.trans (hb4.mono K3.out.1.size), blk_below K3.out.2.1 hb4, K3.out.2.2.below hb4, ho6⟩
  have D4 : Hid (∀ b o s, a6 = some ⟨b, o, s⟩ → w.heap.size < b ∧ AwayT a5 b ts) := mkHid (fun b o s e => by
    have q1 := hf6 b o s e
    have q2 := (Array.getElem?_eq_some_iff.1 K3.out.2.1).1
    exact ⟨by omega, away_newT K3.out.2.2 q1⟩)
  clear hb4 K3 ho6 hf6
  go_wp2_with fail
  refine (HE.out _ _ _ _ _ S4.out.o6.rd S4.out.r5).mono ?_
  rintro e w5 ⟨rfl, hb5⟩
  have S5 := mkHid (S4.out.next hb5)
  clear hb5 S4
  go_wp2_with fail
  refine (HM.out _ _ _ S5.out.o6).mono ?_
  rintro e w6 ⟨rfl, ho6, hg6⟩
  have S6 := mkHid (S5.out.marked hg6 ho6 D4.out)
  clear ho6 hg6 S5
  go_wp2_with fail
  refine (HH.out _ _ _ S6.out.o6.rd).mono ?_
  rintro e w7 ⟨rfl, hb7⟩
  have S7 := mkHid (S6.out.next hb7)
  obtain ⟨c0, c1, c2⟩ := cells3 S7.out.bx
  have hk7 : 0 ≤ 1 + (ts.length : Int) := by omega
  clear hb7 S6
  go_wp2_with fail
  refine (HT.out _).mono ?_
  rintro e w8 ⟨rfl, hb8⟩
  have S8 := mkHid (S7.out.next hb8)
  clear hb8 S7 c0 c1 c2
  go_wp2_with fail
  refine (HP.out _).mono ?_
  rintro e w9 ⟨a9, c9, rfl, ho9, hf9, hb9⟩
  have S9 := mkHid (And.intro (S8.out.next hb9) ho9)
  clear hb9 S8 ho9 hf9
  go_wp2_with fail
  refine (HE.out _ _ _ _ _ S9.out.2.rd S9.out.1.r5).mono ?_
  rintro e w10 ⟨rfl, hb10⟩
  have S10 := mkHid (S9.out.1.next hb10)
  clear hb10 S9
  go_wp2_with fail
  refine (HH.out _ _ _ S10.out.o6.rd).mono ?_
  rintro e w11 ⟨rfl, hb11⟩
  have S11 := mkHid (S10.out.next hb11)
  clear hb11 S10
  go_wp2
  go_ret
  exact ⟨rfl, S11.out.below⟩

set_option maxRecDepth 100000 in
theorem pieces_walk (I : IPieces) (mn bs mx : Int) (s : ByteArray) (w : World) (hs : (s.size : Int) ≤ 9223372036854775807) :
    Calls Try.prog 10 #[cutV mn bs mx, .string s] w fun e w' => e = .returned (.bool true) ∧ Below w.heap.size w w' := by
  by_cases h : 1048576 < (s.size : Int)
  · unfold cutV
    go_enter Try.func10, Try.ntmps10
    go_wp2
    go_ret
    exact ⟨rfl, below_alloc1 w _⟩
  · exact pieces_in I mn bs mx s w (by omega)
end Go.Proofs.Ytbdkpcgmnppkgaa.fing
