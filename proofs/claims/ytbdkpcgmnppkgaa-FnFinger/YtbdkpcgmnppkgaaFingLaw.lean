/-
  laws.FnFinger answers true at all bytes, where the program's Finger, FingerMore and FingerRoll answer as told; nothing that was there turns. Conditions: what the program's three calls answer; the bytes lie in memory.
-/
import Derived.Test.YtbdkpcgmnppkgaaCutAtS
import Derived.Test.YtbdkpcgmnppkgaaTextsB
import Derived.Deep.RegionWith
namespace Go.Proofs.Ytbdkpcgmnppkgaa.fing
open Go.RowKit Go.Joins
open Go.Proofs.Ytbdkpcgmnppkgaa.base Go.Proofs.Ytbdkpcgmnppkgaa.blk
open Go.Proofs.Ytbdkpcgmnppkgaa.draw (Row source_any n_any bytes_any)
set_option linter.unusedVariables false

/-- a text is drawn out of bytes: at most so long; nothing that was there turned -/
def DText (w : World) (most : Nat) (e : Ending) (w' : World) : Prop := ∃ t : ByteArray, e = .returned (.string t) ∧ t.size ≤ most ∧ Below w.heap.size w w'

set_option maxRecDepth 100000 in
theorem drawFinger_any (a : Option Addr) (len cap : Nat) (w : World) (hl : len ≤ 1048576) (hr : Row w a len) :
    Calls Try.prog 11 #[.slice a len cap] w fun e w' => DText w 40 e w' := by
  go_enter Try.func11, Try.ntmps11
  go_wp2_with fail
  refine (source_any a len cap w hl hr).mono ?_
  rintro e w1 ⟨rfl, hs1, hb1⟩
  have H1 := mkHid (And.intro hs1 hb1)
  clear hs1 hb1 hr
  go_wp2_with fail
  refine (n_any w.heap.size 40 w1 (by omega) H1.out.1).mono ?_
  rintro e w2 ⟨r, rfl, hr0, hr1, _, hs2, hg2⟩
  obtain ⟨R, rfl⟩ := Int.eq_ofNat_of_zero_le hr0
  have hR : R < 40 := by have := hr1 (by omega); omega
  have H2 := mkHid (And.intro hs2 (H1.out.2.trans (draw.grown_below hg2 (Nat.le_refl _) H1.out.2.size)))
  clear hr0 hr1 hs2 hg2 H1
  go_wp2_with fail
  refine (bytes_any w.heap.size R w2 (by omega) H2.out.1).mono ?_
  rintro e w3 ⟨t, rfl, ht, hs3, hg3⟩
  have H3 := mkHid (H2.out.2.trans (draw.grown_below hg3 (Nat.le_refl _) H2.out.2.size))
  clear hs3 hg3 H2
  go_wp2
  go_ret
  exact ⟨t, rfl, by omega, H3.out⟩

/-- the finger of the last sixteen bytes ahead of a place, or of all -/
def last (s : ByteArray) (i : Nat) : Nat := finger (s.extract (i - 16) i).data.toList
theorem last_lt (s : ByteArray) (i : Nat) : last s i < 2147483648 := finger_lt _
theorem last_zero (s : ByteArray) : last s 0 = 0 := by
  unfold last
  have e : (s.extract (0 - 16) 0).data.toList = [] := by simp
  rw [e]
  rfl
theorem last_win (s : ByteArray) (i : Nat) (h : 16 ≤ i) : last s i = win s i := by
  unfold last win
  congr 1
  simp
  rw [show i - (i - 16) = 16 by omega]
theorem last_next (s : ByteArray) (i : Nat) (h : i < 16) (hi : i < s.size) : shift (last s i) (s[i]'hi).toNat = last s (i + 1) := by
  unfold last
  rw [show i - 16 = 0 by omega, show i + 1 - 16 = 0 by omega]
  have e : ∀ n, (s.extract 0 n).data.toList = s.data.toList.take n := fun n => by simp
  rw [e, e, take_snoc s i hi]
  exact (fold_snoc 0 _ _).symm
theorem more_is (f : Nat) (c : UInt8) (hf : f < 2147483648) : moreT (f : Int) (c.toNat : Int) = shift f c.toNat := by
  have := c.toNat_lt
  unfold moreT
  rw [if_pos ⟨by simp [fingB]; omega, by simp [byteB]; omega⟩]
  simp
theorem roll_is (f : Nat) (c d : UInt8) (hf : f < 2147483648) : rollT (f : Int) (c.toNat : Int) (d.toNat : Int) = shift (f ^^^ outv c.toNat) d.toNat := by
  have := c.toNat_lt
  have := d.toNat_lt
  unfold rollT
  rw [if_pos ⟨by simp [fingB]; omega, by simp [byteB]; omega, by simp [byteB]; omega⟩]
  simp

set_option maxRecDepth 100000 in
set_option maxHeartbeats 2000000 in
theorem finger_in (I1 : IFinger) (I2 : IMoreF) (I3 : IRoll) (a : Option Addr) (len cap : Nat) (w : World) (hl : len ≤ 1048576) (hr : Row w a len) :
    Calls Try.prog 3 #[.slice a len cap] w fun e w' => e = .returned (.bool true) ∧ Below w.heap.size w w' := by
  have hli : (len : Int) ≤ 1048576 := by omega
  go_enter Try.func3, Try.ntmps3
  go_wp2_with fail
  refine (drawFinger_any a len cap w hl hr).mono ?_
  rintro e w1 ⟨t, rfl, ht, hb1⟩
  have B1 := mkHid hb1
  clear hb1 hr
  have HF := mkHid I1
  have HMo := mkHid I2
  have HRo := mkHid I3
  clear I1 I2 I3
  go_wp2_with fail
  refine (HF.out t _ (by omega)).mono ?_
  rintro e w2 ⟨rfl, hb2⟩
  have B2 := mkHid (B1.out.trans (hb2.mono B1.out.size))
  clear hb2 B1
  go_wp2_with fail
  refine (finger_any t _ (by omega)).mono ?_
  rintro e w3 ⟨rfl, rfl⟩
  have hfl : (fingerT t : Int) < 2147483648 := by
    unfold fingerT
    rw [if_neg (by omega)]
    have := finger_lt t.data.toList
    omega
  have hf0 : 0 ≤ (fingerT t : Int) := by omega
  have hti : (t.size : Int) ≤ 40 := by omega
  generalize (fingerT t : Int) = f at *
  have hd1 : decide (f < 0) = false := decide_eq_false (by omega)
  have hd2 : decide ((2147483648 : Int) ≤ f) = false := decide_eq_false (by omega)
  go_wp2
  go_loopw [5, 6] (fun g i wr => ∃ k : Nat, k ≤ t.size ∧ i = .int .i64 k ∧ g = .int .i64 (last t k : Nat) ∧ Hid (Below w.heap.size w wr))
    (fun _ i _ => t.size - (intOf i).toNat)
  case atStart => exact ⟨0, by omega, rfl, by rw [last_zero]; rfl, B2⟩
  case round =>
    obtain ⟨k, hk, rfl, rfl, hb⟩ := hrel
    by_cases hlt : k < t.size
    · have hki : (k : Int) < (t.size : Int) := by omega
      have hk100 : (k : Int) < 100 := by omega
      have cb : ((t[k]'hlt).toNat : Int) ≤ 255 := by have := (t[k]'hlt).toNat_lt; omega
      have hgl := last_lt t k
      have HFin : Hid (∀ wx, Calls Try.prog 12 #[.string (t.extract (k + 1 - 16) (k + 1))] wx fun e w' => e = .returned (.int .i64 (last t (k + 1) : Nat)) ∧ Below wx.heap.size wx w') := mkHid (fun wx => by
        have h := HF.out (t.extract (k + 1 - 16) (k + 1)) wx (by simp; omega)
        unfold fingerT at h
        rw [if_neg (by simp; omega)] at h
        exact h)
      obtain ⟨N, hN⟩ : ∃ N, N = last t (k + 1) := ⟨_, rfl⟩
      rw [← hN] at HFin
      by_cases h16 : k < 16
      · have h16i : (k : Int) < 16 := by omega
        have HM2 : Hid (∀ wx, Calls Try.prog 14 #[.int .i64 (last t k : Nat), .int .i64 ((t[k]'hlt).toNat : Int)] wx fun e w' => e = .returned (.int .i64 (N : Int)) ∧ Below wx.heap.size wx w') := mkHid (fun wx => by
          have h := HMo.out (last t k : Nat) ((t[k]'hlt).toNat : Int) wx (by omega) (by omega) (by omega) (by omega)
          rw [more_is _ _ hgl, last_next t k h16 hlt, ← hN] at h
          exact h)
        have HN := mkHid hN
        clear hN hgl
        generalize last t k = g at *
        go_wp2_with fail
        refine (HM2.out _).mono ?_
        rintro e w4 ⟨rfl, hb4⟩
        have B4 := mkHid (hb.out.trans (hb4.mono hb.out.size))
        clear hb4 hb HM2
        by_cases h15 : k < 15
        · have e0 : k + 1 - 16 = 0 := by omega
          rw [e0] at HFin
          have hfr : (k : Int) + 1 - 16 < 0 := by omega
          clear e0
          go_wp2_with fail
          refine (HFin.out _).mono ?_
          rintro e w5 ⟨rfl, hb5⟩
          have B5 := mkHid (B4.out.trans (hb5.mono B4.out.size))
          clear hb5 B4 HFin
          go_wp2
          go_roundw
          case rel => exact ⟨k + 1, by omega, by go_num, by rw [HN.out], B5⟩
          case measure => simp [intOf]; omega
        · obtain ⟨q, hq⟩ : ∃ q, k + 1 = q + 16 := ⟨k + 1 - 16, by omega⟩
          have eq : k + 1 - 16 = q := by omega
          rw [eq] at HFin
          have wq : IntKind.i64.wrap ((k : Int) + 1 - 16) = (q : Int) := by
            rw [show (k : Int) + 1 - 16 = (q : Int) by omega]
            simp [IntKind.wrap, IntKind.bits, IntKind.signed]
            omega
          have hq1 : (q : Int) ≤ (k : Int) + 1 := by omega
          have hk1 : (k : Int) + 1 ≤ (t.size : Int) := by omega
          have HQ := mkHid hq
          clear eq hq
          go_wp2_with fail
          refine (HFin.out _).mono ?_
          rintro e w5 ⟨rfl, hb5⟩
          have B5 := mkHid (B4.out.trans (hb5.mono B4.out.size))
          clear hb5 B4 HFin
          go_wp2
          go_roundw
          case rel => exact ⟨k + 1, by omega, by go_num, by rw [HN.out], B5⟩
          case measure => simp [intOf]; omega
      · have h16i : (16 : Int) ≤ (k : Int) := by omega
        obtain ⟨p, hp⟩ : ∃ p, k = p + 16 := ⟨k - 16, by omega⟩
        have hps : p < t.size := by omega
        have hpi : (p : Int) < (t.size : Int) := by omega
        have wp : IntKind.i64.wrap ((k : Int) - 16) = (p : Int) := by
          rw [show (k : Int) - 16 = (p : Int) by omega]
          simp [IntKind.wrap, IntKind.bits, IntKind.signed]
          omega
        have cb2 : ((t[p]'hps).toNat : Int) ≤ 255 := by have := (t[p]'hps).toNat_lt; omega
        have wb1 : IntKind.i64.wrap ((t[p]'hps).toNat : Int) = ((t[p]'hps).toNat : Int) := by simp [IntKind.wrap, IntKind.bits, IntKind.signed]; omega
        have wb2 : IntKind.i64.wrap ((t[k]'hlt).toNat : Int) = ((t[k]'hlt).toNat : Int) := by simp [IntKind.wrap, IntKind.bits, IntKind.signed]; omega
        have HR2 : Hid (∀ wx, Calls Try.prog 15 #[.int .i64 (last t k : Nat), .int .i64 ((t[p]'hps).toNat : Int), .int .i64 ((t[k]'hlt).toNat : Int)] wx fun e w' => e = .returned (.int .i64 (N : Int)) ∧ Below wx.heap.size wx w') := mkHid (fun wx => by
          have h := HRo.out (last t k : Nat) ((t[p]'hps).toNat : Int) ((t[k]'hlt).toNat : Int) wx (by omega) (by omega) (by omega) (by omega) (by omega) (by omega)
          have e := win_next t k (by omega) hlt
          have e2 : (t[k - 16]'(by omega)) = t[p]'hps := by simp only [show k - 16 = p by omega]
          rw [e2, ← last_win t k (by omega), ← last_win t (k + 1) (by omega), ← hN] at e
          rw [roll_is _ _ _ hgl, e] at h
          exact h)
        have HN := mkHid hN
        have HP := mkHid hp
        clear hN hgl hp
        generalize last t k = g at *
        go_wp2_with fail
        go_region_with (go_at_call 15; refine (HR2.out _).mono ?_; rintro e w4 ⟨rfl, hb4⟩; have B4 := mkHid (hb.out.trans (Below.mono ⟨hb4.os, hb4.tape, hb4.output, hb4.size, hb4.block⟩ hb.out.size)); clear hb4)
        all_goals
          clear hb HR2 wp wb1 wb2
          obtain ⟨q, hq⟩ : ∃ q, k + 1 = q + 16 := ⟨k + 1 - 16, by omega⟩
          have eq : k + 1 - 16 = q := by omega
          rw [eq] at HFin
          have wq : IntKind.i64.wrap ((k : Int) + 1 - 16) = (q : Int) := by
            rw [show (k : Int) + 1 - 16 = (q : Int) by omega]
            simp [IntKind.wrap, IntKind.bits, IntKind.signed]
            omega
          have hq1 : (q : Int) ≤ (k : Int) + 1 := by omega
          have hk1 : (k : Int) + 1 ≤ (t.size : Int) := by omega
          have HQ := mkHid hq
          clear eq hq
          go_wp2_with fail
          refine (HFin.out _).mono ?_
          rintro e w5 ⟨rfl, hb5⟩
          have B5 := mkHid (B4.out.trans (hb5.mono B4.out.size))
          clear hb5 B4 HFin
          go_wp2
          go_roundw
          case rel => exact ⟨k + 1, by omega, by go_num, by rw [HN.out], B5⟩
          case measure => simp [intOf]; omega
    · have hki : (t.size : Int) ≤ (k : Int) := by omega
      have hd3 : decide ((k : Int) < (t.size : Int)) = false := decide_eq_false (by omega)
      go_wp2
      go_ret
      exact ⟨rfl, hb.out⟩

set_option maxRecDepth 100000 in
theorem fnFinger_walk (I1 : IFinger) (I2 : IMoreF) (I3 : IRoll) (a : Option Addr) (len cap : Nat) (w : World) (hl : (len : Int) ≤ 9223372036854775807) (hr : Row w a len) :
    Calls Try.prog 3 #[.slice a len cap] w fun e w' => e = .returned (.bool true) ∧ Below w.heap.size w w' := by
  by_cases h0 : 1048576 < (len : Int)
  · clear I1 I2 I3 hr
    go_enter Try.func3, Try.ntmps3
    go_wp2
    go_ret
    exact ⟨rfl, Below.refl _ _⟩
  exact finger_in I1 I2 I3 a len cap w (by omega) hr
end Go.Proofs.Ytbdkpcgmnppkgaa.fing
