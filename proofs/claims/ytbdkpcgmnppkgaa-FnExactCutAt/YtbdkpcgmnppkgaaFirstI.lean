/-
  What impl.firstCut answers and leaves. Conditions: a right cutting; at most 20,000 bytes.
-/
import Derived.Test.YtbdkpcgmnppkgaaRollI
import Derived.Laws.DeepStrings4
import Derived.Deep.QuietTactic
import Derived.BigQuiet
namespace Go.Proofs.Ytbdkpcgmnppkgaa.fingI
open Go.RowKit Go.Joins
open Go.Proofs.Ytbdkpcgmnppkgaa.base Go.Proofs.Ytbdkpcgmnppkgaa.fing Go.Proofs.Ytbdkpcgmnppkgaa.blk
set_option linter.unusedVariables false

theorem roll_nat (F B C : Nat) (w : World) (hF : F < 2147483648) (hB : B < 256) (hC : C < 256) : Calls Try.prog 15 #[.int .i64 F, .int .i64 B, .int .i64 C] w fun e w' => e = .returned (.int .i64 (shift (F ^^^ outv B) C : Nat)) ∧ w' = w := by
  have h := roll_same (F : Int) (B : Int) (C : Int) w
  have e : rollT F B C = shift (F ^^^ outv B) C := by
    unfold rollT
    rw [if_pos ⟨by simp [fingB]; omega, by simp [byteB]; omega, by simp [byteB]; omega⟩]
    simp
  rw [e] at h
  exact h

set_option maxRecDepth 100000 in
set_option maxHeartbeats 1000000 in
theorem first_any (mn B mx : Nat) (s : ByteArray) (w : World) (h1 : 16 ≤ mn) (h2 : mn ≤ 1000) (h3 : B ≤ 12) (h4 : mn ≤ mx) (h5 : mx ≤ 2000) (hs : s.size ≤ 20000) :
    Calls Try.prog 51 #[cutV mn B mx, .string s] w fun e w' => e = .returned (.int .i64 (cutN mn B mx s : Nat)) ∧ Below w.heap.size w w' := by
  have al : ∀ o, Below w.heap.size w (w.alloc o) := fun o => below_alloc1 w o
  obtain ⟨most, hmost⟩ : ∃ m, m = min mx s.size := ⟨_, rfl⟩
  have hm1 : most ≤ 2000 := by omega
  have hm2 : most ≤ s.size := by omega
  have HC : Hid (cutN mn B mx s = if most < mn then most else seek s (2 ^ B - 1) (most - mn) mn) := mkHid (by unfold cutN; rw [← hmost])
  have hsi : (s.size : Int) ≤ 20000 := by omega
  have hmi : (if s.size < mx then (s.size : Int) else (mx : Int)) = (most : Int) := by split <;> omega
  clear hmost
  unfold cutV
  go_enter Try.func51, Try.ntmps51
  by_cases hle : (most : Int) ≤ (mn : Int)
  · have E := mkHid (show cutN mn B mx s = most by
      rw [HC.out]
      split
      · rfl
      · rw [show most - mn = 0 by omega, seek]; omega)
    clear HC
    go_wp2
    go_ret
    exact ⟨ret_eq (by rw [E.out]; rfl), al _⟩
  · obtain ⟨M, hM, hp, hM2⟩ := pow_mask B h3
    have hlt : (mn : Int) < (most : Int) := by omega
    have hBi : (B : Int) ≤ 12 := by omega
    have HO : Hid (Calls Try.prog 12 #[.string (s.extract (mn - 16) mn)] (w.alloc (.cells #[.int .i64 mn, .int .i64 B, .int .i64 mx] 29)) fun e w' => e = .returned (.int .i64 (win s mn : Nat)) ∧ Below (w.alloc (.cells #[.int .i64 mn, .int .i64 B, .int .i64 mx] 29)).heap.size (w.alloc (.cells #[.int .i64 mn, .int .i64 B, .int .i64 mx] 29)) w') := mkHid (by
      have h := finger_any (s.extract (mn - 16) mn) (w.alloc (.cells #[.int .i64 mn, .int .i64 B, .int .i64 mx] 29)) (by simp; omega)
      have e : fingerT (s.extract (mn - 16) mn) = win s mn := by
        unfold fingerT
        rw [if_neg (by simp; omega)]
        unfold win
        congr 1
        simp
        rw [show mn - (mn - 16) = 16 by omega]
      rw [e] at h
      exact h)
    have HC2 : Hid (cutN mn B mx s = seek s M (most - mn) mn) := mkHid (by rw [HC.out, if_neg (by omega), hM])
    clear HC hM
    go_wp2_with fail
    refine HO.out.mono ?_
    rintro e w1 ⟨rfl, hb1⟩
    have k1 := blk_below (blk_new w (.cells #[.int .i64 mn, .int .i64 B, .int .i64 mx] 29) w.heap.size rfl) hb1
    have B1 := mkHid (below_allocs (os := [_]) hb1)
    have c0 : w1.cell? ⟨w.heap.size, 0, none⟩ = some (.int .i64 (mn : Int)) := cell_of_block k1 0
    clear hb1 k1 HO al hp
    obtain ⟨f0, hf0⟩ : ∃ f0, f0 = win s mn := ⟨_, rfl⟩
    rw [← hf0]
    have HF0 := mkHid hf0
    clear hf0
    go_wp2
    go_loopw [7, 8] (fun v i wr => ∃ (n f : Nat), mn ≤ n ∧ n ≤ most ∧ i = .int .i64 n ∧ v = .int .i64 f ∧ Hid (f = win s n) ∧ Hid (cutN mn B mx s = seek s M (most - n) n) ∧ Hid (Below w.heap.size w wr))
      (fun _ i _ => most - (intOf i).toNat)
    case atStart => exact ⟨mn, f0, by omega, by omega, rfl, rfl, HF0, HC2, B1⟩
    case round =>
      clear HF0 HC2 B1
      obtain ⟨n, f, hn1, hn2, rfl, rfl, hf, hc, hb⟩ := hrel
      by_cases hlt2 : n < most
      · have hnm : (n : Int) < (most : Int) := by omega
        have hfl : f < 2147483648 := by rw [hf.out]; exact finger_lt _
        have hA : bits .and .i64 (f : Int) (M : Int) = ((f &&& M : Nat) : Int) := and_nat f M (by omega) (by omega)
        have hseek : seek s M (most - n) n = if win s n &&& M = M then n else seek s M (most - (n + 1)) (n + 1) := by
          rw [show most - n = (most - (n + 1)) + 1 by omega, seek]
        by_cases hm : f &&& M = M
        · have E := mkHid (show cutN mn B mx s = n by rw [hc.out, hseek, if_pos (by rw [← hf.out]; exact hm)])
          rw [hm] at hA
          clear hseek hm hf hc
          go_wp2
          go_ret
          exact ⟨ret_eq (by rw [E.out]; rfl), hb.out⟩
        · have N1 : Hid (cutN mn B mx s = seek s M (most - (n + 1)) (n + 1)) := mkHid (by rw [hc.out, hseek, if_neg (by rw [← hf.out]; exact hm)])
          have hmi2 : ¬ ((f &&& M : Nat) : Int) = (M : Int) := by omega
          obtain ⟨q, hq⟩ : ∃ j, n = j + 16 := ⟨n - 16, by omega⟩
          have wq : IntKind.i64.wrap ((n : Int) - 16) = (q : Int) := by
            rw [show (n : Int) - 16 = (q : Int) by omega]
            simp [IntKind.wrap, IntKind.bits, IntKind.signed]
            omega
          have hqs : q < s.size := by omega
          have hns : n < s.size := by omega
          have hqi : (q : Int) < (s.size : Int) := by omega
          have hni : (n : Int) < (s.size : Int) := by omega
          have cb1 : ((s[q]'hqs).toNat : Int) ≤ 255 := by have := (s[q]'hqs).toNat_lt; omega
          have cb2 : ((s[n]'hns).toNat : Int) ≤ 255 := by have := (s[n]'hns).toNat_lt; omega
          obtain ⟨N, hN⟩ : ∃ N, N = win s (n + 1) := ⟨_, rfl⟩
          have HR : Hid (∀ wx, Calls Try.prog 15 #[.int .i64 (f : Int), .int .i64 ((s[q]'hqs).toNat : Int), .int .i64 ((s[n]'hns).toNat : Int)] wx fun e w' => e = .returned (.int .i64 (N : Int)) ∧ w' = wx) := mkHid (fun wx => by
            have h := roll_nat f (s[q]'hqs).toNat (s[n]'hns).toNat wx hfl (s[q]'hqs).toNat_lt (s[n]'hns).toNat_lt
            have e := win_next s n (by omega) hns
            rw [← hf.out, ← hN] at e
            have e2 : (s[n - 16]'(by omega)) = s[q]'hqs := by simp only [show n - 16 = q by omega]
            rw [e2] at e
            rw [e] at h
            exact h)
          have HN := mkHid hN
          clear hseek hm hf hc hN hq
          go_wp2_with fail
          go_quiet ((go_at_call 15; exact Calls.quiet_of_same (HR.out _)))
          clear HR
          go_wp2
          go_roundw
          case rel => exact ⟨n + 1, N, by omega, by omega, by go_num, rfl, HN, N1, mkHid ⟨hb.out.os, hb.out.tape, hb.out.output, hb.out.size, hb.out.block⟩⟩
          case measure => simp [intOf]; omega
      · have E := mkHid (show cutN mn B mx s = most by rw [hc.out, show most - n = 0 by omega, seek]; omega)
        have hnm : (most : Int) ≤ (n : Int) := by omega
        go_wp2
        go_ret
        exact ⟨ret_eq (by rw [E.out]; rfl), hb.out⟩
end Go.Proofs.Ytbdkpcgmnppkgaa.fingI
