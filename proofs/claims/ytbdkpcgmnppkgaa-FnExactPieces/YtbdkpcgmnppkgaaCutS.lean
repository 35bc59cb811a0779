/-
  What spec.CuttingRight, l06Cut and CutAt answer. Conditions: at most 1,048,576 bytes.
-/
import Derived.Test.YtbdkpcgmnppkgaaFingS
import Derived.Test.YtbdkpcgmnppkgaaBlk
import Derived.Laws.DeepStrings4
import Derived.Deep.QuietTactic
import Derived.BigQuiet
namespace Go.Proofs.Ytbdkpcgmnppkgaa.fing
open Go.RowKit Go.Joins
open Go.Proofs.Ytbdkpcgmnppkgaa.base Go.Proofs.Ytbdkpcgmnppkgaa.blk
set_option linter.unusedVariables false

/-- a cutting as a value -/
def cutV (mn bs mx : Int) : Value := .agg #[.int .i64 mn, .int .i64 bs, .int .i64 mx]
def cutB (mn bs mx : Int) : Bool := decide ((16 ≤ mn ∧ mn ≤ 1000) ∧ (0 ≤ bs ∧ bs ≤ 12) ∧ (mn ≤ mx ∧ mx ≤ 2000))

set_option maxRecDepth 100000 in
theorem cutRight_any (mn bs mx : Int) (w : World) : Calls Try.prog 21 #[cutV mn bs mx] w fun e w' => e = .returned (.bool (cutB mn bs mx)) ∧ Below w.heap.size w w' := by
  have al : ∀ o, Below w.heap.size w (w.alloc o) := fun o => below_alloc1 w o
  unfold cutV
  go_enter Try.func21, Try.ntmps21
  by_cases h0 : 16 ≤ mn
  · by_cases h1 : mn ≤ 1000
    · by_cases h2 : 0 ≤ bs
      · by_cases h3 : bs ≤ 12
        · by_cases h4 : mn ≤ mx
          · by_cases h5 : mx ≤ 2000
            all_goals
              go_wp2_with fail
              first | go_quiet (fail) | skip
              go_wp2
              go_ret
              exact ⟨ret_eq (by simp [cutB]; omega), by repeat (first | exact al _ | apply Below.drew)⟩
          · go_wp2
            go_ret
            exact ⟨ret_eq (by simp [cutB]; omega), al _⟩
        · go_wp2
          go_ret
          exact ⟨ret_eq (by simp [cutB]; omega), al _⟩
      · go_wp2
        go_ret
        exact ⟨ret_eq (by simp [cutB]; omega), al _⟩
    · go_wp2
      go_ret
      exact ⟨ret_eq (by simp [cutB]; omega), al _⟩
  · go_wp2
    go_ret
    exact ⟨ret_eq (by simp [cutB]; omega), al _⟩

/-- the finger of the sixteen bytes ahead of a place -/
def win (s : ByteArray) (n : Nat) : Nat := finger ((s.data.toList.drop (n - 16)).take 16)
/-- the first place from n on, of k places, at which the mask is met; else the place behind them -/
def seek (s : ByteArray) (M : Nat) : Nat → Nat → Nat
  | 0, n => n
  | k + 1, n => if win s n &&& M = M then n else seek s M k (n + 1)
def cutN (mn B mx : Nat) (s : ByteArray) : Nat := if min mx s.size < mn then min mx s.size else seek s (2 ^ B - 1) (min mx s.size - mn) mn

theorem win_next (s : ByteArray) (n : Nat) (h16 : 16 ≤ n) (hn : n < s.size) : shift (win s n ^^^ outv (s[n - 16]'(by omega)).toNat) (s[n]'hn).toNat = win s (n + 1) := by
  have e : (s.data.toList.drop (n - 16)).take 16 = (s[n - 16]'(by omega)) :: (s.data.toList.drop (n - 15)).take 15 := by
    rw [List.drop_eq_getElem_cons (by simp; omega), List.take_succ_cons, show n - 16 + 1 = n - 15 by omega]
    rfl
  have e2 : (s.data.toList.drop (n + 1 - 16)).take 16 = (s.data.toList.drop (n - 15)).take 15 ++ [s[n]'hn] := by
    rw [show n + 1 - 16 = n - 15 by omega, List.take_succ_eq_append_getElem (by simp; omega)]
    congr 1
    simp
    simp only [show n - 15 + 15 = n by omega]
    rfl
  unfold win
  rw [e, e2]
  refine roll _ _ _ ?_
  simp
  omega

theorem min_any (a b : Nat) (w : World) : Calls Try.prog 54 #[.int .i64 a, .int .i64 b] w fun e w' => e = .returned (.int .i64 (min a b : Nat)) ∧ w' = w := by
  go_enter Try.func54, Try.ntmps54
  by_cases h : (a : Int) < (b : Int)
  · have E := mkHid (show min a b = a by omega)
    go_wp2
    go_ret
    exact ⟨ret_eq (by rw [E.out]; rfl), rfl⟩
  · have E := mkHid (show min a b = b by omega)
    go_wp2
    go_ret
    exact ⟨ret_eq (by rw [E.out]; rfl), rfl⟩

theorem pow_mask (B : Nat) (hB : B ≤ 12) : ∃ M : Nat, 2 ^ B - 1 = M ∧ (2 : Int) ^ B = (M : Int) + 1 ∧ M ≤ 4095 := by
  have : B = 0 ∨ B = 1 ∨ B = 2 ∨ B = 3 ∨ B = 4 ∨ B = 5 ∨ B = 6 ∨ B = 7 ∨ B = 8 ∨ B = 9 ∨ B = 10 ∨ B = 11 ∨ B = 12 := by omega
  rcases this with rfl | rfl | rfl | rfl | rfl | rfl | rfl | rfl | rfl | rfl | rfl | rfl | rfl
  all_goals exact ⟨_, rfl, by decide, by decide⟩

theorem seek_bd (s : ByteArray) (M : Nat) : ∀ k n, n ≤ seek s M k n ∧ seek s M k n ≤ n + k := by
  intro k
  induction k with
  | zero => intro n; exact ⟨Nat.le_refl _, Nat.le_refl _⟩
  | succ k ih =>
    intro n
    rw [seek]
    split
    · omega
    · have := ih (n + 1)
      omega

set_option maxRecDepth 100000 in
set_option maxHeartbeats 1000000 in
theorem cut_any (mn B mx : Nat) (s : ByteArray) (w : World) (h1 : 16 ≤ mn) (h2 : mn ≤ 1000) (h3 : B ≤ 12) (h4 : mn ≤ mx) (h5 : mx ≤ 2000) (hs : s.size ≤ 1048576) :
    Calls Try.prog 46 #[cutV mn B mx, .string s] w fun e w' => e = .returned (.int .i64 (cutN mn B mx s : Nat)) ∧ Below w.heap.size w w' := by
  have al : ∀ o, Below w.heap.size w (w.alloc o) := fun o => below_alloc1 w o
  obtain ⟨most, hmost⟩ : ∃ m, m = min mx s.size := ⟨_, rfl⟩
  have HMi := mkHid (fun wx => min_any mx s.size wx)
  rw [← hmost] at HMi
  have hm1 : most ≤ 2000 := by omega
  have hm2 : most ≤ s.size := by omega
  have HC : Hid (cutN mn B mx s = if most < mn then most else seek s (2 ^ B - 1) (most - mn) mn) := mkHid (by unfold cutN; rw [← hmost])
  clear hmost
  have hsi : (s.size : Int) ≤ 1048576 := by omega
  unfold cutV
  go_enter Try.func46, Try.ntmps46
  go_wp2_with fail
  refine (HMi.out _).mono ?_
  rintro e w1 ⟨rfl, rfl⟩
  clear HMi
  by_cases hlt : (most : Int) < (mn : Int)
  · have E := mkHid (show cutN mn B mx s = most by rw [HC.out, if_pos (by omega)])
    go_wp2
    go_ret
    exact ⟨ret_eq (by rw [E.out]; rfl), al _⟩
  · obtain ⟨M, hM, hp, hM2⟩ := pow_mask B h3
    have hmi : (mn : Int) ≤ (most : Int) := by omega
    have hBi : (B : Int) ≤ 12 := by omega
    obtain ⟨m16, e16⟩ : ∃ j, mn = j + 16 := ⟨mn - 16, by omega⟩
    have w16 : IntKind.i64.wrap ((mn : Int) - 16) = (m16 : Int) := by
      rw [show (mn : Int) - 16 = (m16 : Int) by omega]
      simp [IntKind.wrap, IntKind.bits, IntKind.signed]
      omega
    have HO : Hid (Calls Try.prog 34 #[.string (s.extract m16 mn)] (w.alloc (.cells #[.int .i64 mn, .int .i64 B, .int .i64 mx] 29)) fun e w' => e = .returned (.int .i64 (win s mn : Nat)) ∧ w' = w.alloc (.cells #[.int .i64 mn, .int .i64 B, .int .i64 mx] 29)) := mkHid (by
      have h := of_any (s.extract m16 mn) (w.alloc (.cells #[.int .i64 mn, .int .i64 B, .int .i64 mx] 29)) (by simp; omega)
      have e : (s.extract m16 mn).data.toList = (s.data.toList.drop (mn - 16)).take 16 := by
        rw [show mn - 16 = m16 by omega]
        simp
        rw [show mn - m16 = 16 by omega]
      rw [e] at h
      exact h)
    have hmn1 : (m16 : Int) ≤ (mn : Int) := by omega
    have hmn2 : (mn : Int) ≤ (s.size : Int) := by omega
    have HE := mkHid (And.intro e16 hM)
    clear e16 hM
    go_wp2_with fail
    refine HO.out.mono ?_
    rintro e w1 ⟨rfl, rfl⟩
    clear HO hp w16
    have B1 := mkHid (al (.cells #[.int .i64 mn, .int .i64 B, .int .i64 mx] 29))
    clear al
    have HC2 : Hid (cutN mn B mx s = seek s M (most - mn) mn) := mkHid (by rw [HC.out, if_neg (by omega), HE.out.2])
    clear HC
    obtain ⟨f0, hf0⟩ : ∃ f0, f0 = win s mn := ⟨_, rfl⟩
    rw [← hf0]
    have HF0 := mkHid hf0
    clear hf0
    go_wp2
    go_loopw [7, 8] (fun v i wr => ∃ (n f : Nat), mn ≤ n ∧ n ≤ most ∧ i = .int .i64 n ∧ v = .int .i64 f ∧ Hid (f = win s n) ∧ Hid (cutN mn B mx s = seek s M (most - n) n) ∧ Hid (Below w.heap.size w wr))
      (fun _ i _ => most - (intOf i).toNat)
    case atStart => exact ⟨mn, f0, by omega, by omega, rfl, rfl, HF0, HC2, B1⟩
    case round =>
      clear HF0 HC2 B1
      obtain ⟨n, f, hn1, hn2, rfl, rfl, hf, hc, hb⟩ := hrel
      by_cases hlt2 : n < most
      · have hnm : (n : Int) < (most : Int) := by omega
        have hfl : f < 2147483648 := by rw [hf.out]; exact finger_lt _
        have hA : bits .and .i64 (f : Int) (M : Int) = ((f &&& M : Nat) : Int) := and_nat f M (by omega) (by omega)
        have hseek : seek s M (most - n) n = if win s n &&& M = M then n else seek s M (most - (n + 1)) (n + 1) := by
          rw [show most - n = (most - (n + 1)) + 1 by omega, seek]
        by_cases hm : f &&& M = M
        · have E := mkHid (show cutN mn B mx s = n by rw [hc.out, hseek, if_pos (by rw [← hf.out]; exact hm)])
          rw [hm] at hA
          clear hseek hm hf hc
          go_wp2
          go_ret
          exact ⟨ret_eq (by rw [E.out]; rfl), hb.out⟩
        · have N1 : Hid (cutN mn B mx s = seek s M (most - (n + 1)) (n + 1)) := mkHid (by rw [hc.out, hseek, if_neg (by rw [← hf.out]; exact hm)])
          have hmi2 : ¬ ((f &&& M : Nat) : Int) = (M : Int) := by omega
          obtain ⟨q, hq⟩ : ∃ j, n = j + 16 := ⟨n - 16, by omega⟩
          have wq : IntKind.i64.wrap ((n : Int) - 16) = (q : Int) := by
            rw [show (n : Int) - 16 = (q : Int) by omega]
            simp [IntKind.wrap, IntKind.bits, IntKind.signed]
            omega
          have hqs : q < s.size := by omega
          have hns : n < s.size := by omega
          have hqi : (q : Int) < (s.size : Int) := by omega
          have hni : (n : Int) < (s.size : Int) := by omega
          have cb1 : ((s[q]'hqs).toNat : Int) ≤ 255 := by have := (s[q]'hqs).toNat_lt; omega
          have cb2 : ((s[n]'hns).toNat : Int) ≤ 255 := by have := (s[n]'hns).toNat_lt; omega
          have hov : outv (s[q]'hqs).toNat < 2147483648 := zeros_lt _ 15 (by have := (s[q]'hqs).toNat_lt; omega)
          have HOut := mkHid (fun wx => out_any (s[q]'hqs).toNat wx (s[q]'hqs).toNat_lt)
          obtain ⟨ov, hov2⟩ : ∃ ov, ov = outv (s[q]'hqs).toNat := ⟨_, rfl⟩
          rw [← hov2] at HOut hov
          have hx : bits .xor .i64 (f : Int) (ov : Int) = ((f ^^^ ov : Nat) : Int) := xor_nat f ov (by omega) (by omega)
          obtain ⟨N, hN⟩ : ∃ N, N = win s (n + 1) := ⟨_, rfl⟩
          have HS : Hid (∀ wx, Calls Try.prog 44 #[.int .i64 ((f ^^^ ov : Nat) : Int), .int .i64 ((s[n]'hns).toNat : Int)] wx fun e w' => e = .returned (.int .i64 (N : Int)) ∧ w' = wx) := mkHid (fun wx => by
            have h := shift_any (f ^^^ ov) (s[n]'hns).toNat wx (xor_lt (n := 31) (by omega) (by omega)) (s[n]'hns).toNat_lt
            have e := win_next s n (by omega) hns
            rw [← hf.out, ← hN] at e
            have e2 : (s[n - 16]'(by omega)) = s[q]'hqs := by simp only [show n - 16 = q by omega]
            rw [e2, ← hov2] at e
            rw [e] at h
            exact h)
          have HN := mkHid hN
          clear hseek hm hf hc hN hov2 hq
          go_wp2_with fail
          go_quiet ((first | (go_at_call 45; exact Calls.quiet_of_same (HOut.out _)) | (go_at_call 44; exact Calls.quiet_of_same (HS.out _))))
          clear HOut HS hx
          go_wp2
          go_roundw
          case rel => exact ⟨n + 1, N, by omega, by omega, by go_num, rfl, HN, N1, mkHid ⟨hb.out.os, hb.out.tape, hb.out.output, hb.out.size, hb.out.block⟩⟩
          case measure => simp [intOf]; omega
      · have E := mkHid (show cutN mn B mx s = most by rw [hc.out, show most - n = 0 by omega, seek]; omega)
        have hnm : (most : Int) ≤ (n : Int) := by omega
        go_wp2
        go_ret
        exact ⟨ret_eq (by rw [E.out]; rfl), hb.out⟩
end Go.Proofs.Ytbdkpcgmnppkgaa.fing
