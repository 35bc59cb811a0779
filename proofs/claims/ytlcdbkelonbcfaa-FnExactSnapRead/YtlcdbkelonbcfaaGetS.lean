/-
  spec.GetNum answers what 'G' says. No condition.
-/
import Derived.Test.YtlcdbkelonbcfaaGetP
namespace Go.Proofs.Ytlcdbkelonbcfaa.num
open Go.RowKit
set_option linter.unusedVariables false

theorem spec_big (s : ByteArray) (a : Int) (w : World) (h : 20000 < s.size) (hs : s.size ≤ 1048576) :
    Calls Try.prog 104 #[.string s, .int .i64 a] w fun e w' => e = .returned (out (G s a)) ∧ Below w.heap.size w w' := by
  have e : G s a = .error 2 := if_pos h
  rw [e]
  clear e
  go_enter Try.func104, Try.ntmps104
  go_wp2
  exact bodyPost_ret (v := .agg #[.int .i64 0, .int .i64 0, .int .i64 2]) (by simp [results, Try.results104, go_sem]) rfl ⟨rfl, (Below.refl _ _).alloc (Nat.le_refl _) _⟩
theorem spec_neg (s : ByteArray) (a : Int) (w : World) (h : s.size ≤ 20000) (ha : a < 0) :
    Calls Try.prog 104 #[.string s, .int .i64 a] w fun e w' => e = .returned (out (G s a)) ∧ Below w.heap.size w w' := by
  have e : G s a = .error 1 := by unfold G; rw [if_neg (by omega), if_pos ha]
  rw [e]
  clear e
  go_enter Try.func104, Try.ntmps104
  go_wp2
  exact bodyPost_ret (v := .agg #[.int .i64 0, .int .i64 0, .int .i64 1]) (by simp [results, Try.results104, go_sem]) rfl ⟨rfl, (Below.refl _ _).alloc (Nat.le_refl _) _⟩

set_option maxHeartbeats 4000000 in
set_option maxRecDepth 100000 in
theorem spec_any (s : ByteArray) (a : Nat) (w : World) (h : s.size ≤ 20000) (hm : (a : Int) ≤ 9223372036854775807) :
    Calls Try.prog 104 #[.string s, .int .i64 a] w fun e w' => e = .returned (out (G s a)) ∧ Below w.heap.size w w' := by
  go_enter Try.func104, Try.ntmps104
  go_wp2
  go_loop [5, 6] (fun x i => ∃ (j u : Nat), j ≤ 9 ∧ i = .int .i64 (j : Int) ∧ x = .int .u64 (u : Int) ∧ Hid (At s a j u)) (fun _ i => 10 - (intOf i).toNat)
  case atStart => exact ⟨0, 0, by omega, rfl, rfl, mkHid (at_zero s a)⟩
  case round =>
    obtain ⟨j, u, hj, rfl, rfl, hat⟩ := hrel
    by_cases hsh : s.size ≤ a + j
    · have HG : Hid (G s a = .error 4) := mkHid (G_err h (by rw [← hat.out.2]; exact rd_short hsh))
      have h1 : (s.size : Int) - (j : Int) ≤ (a : Int) := by omega
      go_wp2
      exact bodyPost_ret (v := .agg #[.int .i64 0, .int .i64 0, .int .i64 4]) (by simp [results, Try.results104, go_sem]) rfl ⟨by rw [HG.out]; rfl, (Below.refl _ _).alloc (Nat.le_refl _) _⟩
    have hk : a + j < s.size := by omega
    have hk' : (a : Int) + (j : Int) < (s.size : Int) := by omega
    have hc := (s[a + j]).toNat_lt
    by_cases h9 : j = 9
    · subst h9
      have hb := hat.out.1
      have hb' : (u : Int) ≤ 9223372036854775807 := by omega
      clear hb
      by_cases hc1 : 1 < (s[a + 9]).toNat
      · have HG : Hid (G s a = .error 3) := mkHid (G_err h (by rw [← hat.out.2]; exact rd_nine hk hc1))
        go_wp2
        exact bodyPost_ret (v := .agg #[.int .i64 0, .int .i64 0, .int .i64 3]) (by simp [results, Try.results104, go_sem]) rfl ⟨by rw [HG.out]; rfl, (Below.refl _ _).alloc (Nat.le_refl _) _⟩
      · by_cases hc0 : (s[a + 9]).toNat = 0
        · have HG : Hid (G s a = .error 3) := mkHid (G_err h (by rw [← hat.out.2]; exact rd_zero hk hc0 (by omega)))
          go_wp2
          exact bodyPost_ret (v := .agg #[.int .i64 0, .int .i64 0, .int .i64 3]) (by simp [results, Try.results104, go_sem]) rfl ⟨by rw [HG.out]; rfl, (Below.refl _ _).alloc (Nat.le_refl _) _⟩
        · have HG := mkHid (G_ok h (by rw [← hat.out.2]; exact rd_last hk (by omega) (by omega) (by omega)))
          have hc2 : (s[a + 9]).toNat = 1 := by omega
          rw [hc2] at HG
          by_cases hp : ((u : Int) + 9223372036854775808) % 2 = 1
          · have hN : -(((u : Int) + 9223372036854775808) / 2) - 1 = num.unfold (u + 1 * 128 ^ 9) := by unfold num.unfold; rw [if_pos (by omega)]; omega
            have HN := mkHid hN
            have hpar : (((u : Int) + 9223372036854775808) % 2 == 1) = true := by simpa using hp
            clear hN hp
            go_wp2
            exact bodyPost_ret (v := .agg #[.int .i64 (-(((u : Int) + 9223372036854775808) / 2) - 1), .int .i64 ((a : Int) + 9 + 1), .int .i64 0]) (by simp [results, Try.results104, go_sem]) rfl ⟨fin_ok HG.out HN.out (by omega), (Below.refl _ _).alloc (Nat.le_refl _) _⟩
          · have hN : ((u : Int) + 9223372036854775808) / 2 = num.unfold (u + 1 * 128 ^ 9) := by unfold num.unfold; rw [if_neg (by omega)]; omega
            have HN := mkHid hN
            have hpar : (((u : Int) + 9223372036854775808) % 2 == 1) = false := by simpa using hp
            clear hN hp
            go_wp2
            exact bodyPost_ret (v := .agg #[.int .i64 (((u : Int) + 9223372036854775808) / 2), .int .i64 ((a : Int) + 9 + 1), .int .i64 0]) (by simp [results, Try.results104, go_sem]) rfl ⟨fin_ok HG.out HN.out (by omega), (Below.refl _ _).alloc (Nat.le_refl _) _⟩
    by_cases hz : (s[a + j]).toNat = 0 ∧ 0 < j
    · have HG : Hid (G s a = .error 3) := mkHid (G_err h (by rw [← hat.out.2]; exact rd_zero hk hz.1 hz.2))
      obtain ⟨hz1, hz2⟩ := hz
      have hj8 : j = 1 ∨ j = 2 ∨ j = 3 ∨ j = 4 ∨ j = 5 ∨ j = 6 ∨ j = 7 ∨ j = 8 := by omega
      have hb := hat.out.1
      rcases hj8 with rfl | rfl | rfl | rfl | rfl | rfl | rfl | rfl
      all_goals
        have hb' : (u : Int) ≤ 72057594037927935 := by omega
        clear hb
        go_wp2
        exact bodyPost_ret (v := .agg #[.int .i64 0, .int .i64 0, .int .i64 3]) (by simp [results, Try.results104, go_sem]) rfl ⟨by rw [HG.out]; rfl, (Below.refl _ _).alloc (Nat.le_refl _) _⟩
    have hj8 : j = 0 ∨ j = 1 ∨ j = 2 ∨ j = 3 ∨ j = 4 ∨ j = 5 ∨ j = 6 ∨ j = 7 ∨ j = 8 := by omega
    have hb := hat.out.1
    by_cases hl : (s[a + j]).toNat < 128
    · have HG := mkHid (G_ok h (by rw [← hat.out.2]; exact rd_last hk (by omega) hl hz))
      rcases hj8 with rfl | rfl | rfl | rfl | rfl | rfl | rfl | rfl | rfl
      · obtain rfl : u = 0 := by omega
        have hk0 : a < s.size := hk
        have hl0 : (s[a]).toNat < 128 := hl
        have hG0 : Hid (G s a = .ok (num.unfold (s[a]).toNat, (a : Int) + (1 : Nat))) := mkHid (by have e := HG.out; simpa using e)
        have hk1 : (a : Int) < (s.size : Int) := by omega
        clear HG hb hl hk hk' hc hz hsh h9 hat
        by_cases hz0 : (s[a]).toNat = 0
        · have hz1 : (((s[a]).toNat : Int) == 0) = true := by simp; omega
          have HN := mkHid (show (0 : Int) = num.unfold (s[a]).toNat by rw [hz0]; rfl)
          go_wp2
          exact bodyPost_ret (v := .agg #[.int .i64 0, .int .i64 ((a : Int) + 1), .int .i64 0]) (by simp [results, Try.results104, go_sem]) rfl ⟨fin_ok hG0.out HN.out (by omega), (Below.refl _ _).alloc (Nat.le_refl _) _⟩
        have hz1 : (((s[a]).toNat : Int) == 0) = false := by simp; omega
        by_cases hp : (((s[a]).toNat : Int) % 128) % 2 = 1
        · have hN : -((((s[a]).toNat : Int) % 128) / 2) - 1 = num.unfold ((s[a]).toNat) := by unfold num.unfold; rw [if_pos (by omega)]; omega
          have HN := mkHid hN
          have hpar : ((((s[a]).toNat : Int) % 128) % 2 == 1) = true := by simpa using hp
          clear hN hp
          go_wp2
          exact bodyPost_ret (v := .agg #[.int .i64 (-((((s[a]).toNat : Int) % 128) / 2) - 1), .int .i64 ((a : Int) + 1), .int .i64 0]) (by simp [results, Try.results104, go_sem]) rfl ⟨fin_ok hG0.out HN.out (by omega), (Below.refl _ _).alloc (Nat.le_refl _) _⟩
        · have hN : (((s[a]).toNat : Int) % 128) / 2 = num.unfold ((s[a]).toNat) := by unfold num.unfold; rw [if_neg (by omega)]; omega
          have HN := mkHid hN
          have hpar : ((((s[a]).toNat : Int) % 128) % 2 == 1) = false := by simpa using hp
          clear hN hp
          go_wp2
          exact bodyPost_ret (v := .agg #[.int .i64 ((((s[a]).toNat : Int) % 128) / 2), .int .i64 ((a : Int) + 1), .int .i64 0]) (by simp [results, Try.results104, go_sem]) rfl ⟨fin_ok hG0.out HN.out (by omega), (Below.refl _ _).alloc (Nat.le_refl _) _⟩
      · have hb' : (u : Int) ≤ 127 := by omega
        clear hb
        have hz' : (((s[a + 1]).toNat : Int) == 0) = false := by simp; omega
        by_cases hp : ((u : Int) + ((s[a + 1]).toNat : Int) % 128 * 128) % 2 = 1
        · have hN : -(((u : Int) + ((s[a + 1]).toNat : Int) % 128 * 128) / 2) - 1 = num.unfold (u + (s[a + 1]).toNat * 128 ^ 1) := by unfold num.unfold; rw [if_pos (by omega)]; omega
          have HN := mkHid hN
          have hpar : (((u : Int) + ((s[a + 1]).toNat : Int) % 128 * 128) % 2 == 1) = true := by simpa using hp
          clear hN hp
          go_wp2
          exact bodyPost_ret (v := .agg #[.int .i64 (-(((u : Int) + ((s[a + 1]).toNat : Int) % 128 * 128) / 2) - 1), .int .i64 ((a : Int) + 1 + 1), .int .i64 0]) (by simp [results, Try.results104, go_sem]) rfl ⟨fin_ok HG.out HN.out (by omega), (Below.refl _ _).alloc (Nat.le_refl _) _⟩
        · have hN : ((u : Int) + ((s[a + 1]).toNat : Int) % 128 * 128) / 2 = num.unfold (u + (s[a + 1]).toNat * 128 ^ 1) := by unfold num.unfold; rw [if_neg (by omega)]; omega
          have HN := mkHid hN
          have hpar : (((u : Int) + ((s[a + 1]).toNat : Int) % 128 * 128) % 2 == 1) = false := by simpa using hp
          clear hN hp
          go_wp2
          exact bodyPost_ret (v := .agg #[.int .i64 (((u : Int) + ((s[a + 1]).toNat : Int) % 128 * 128) / 2), .int .i64 ((a : Int) + 1 + 1), .int .i64 0]) (by simp [results, Try.results104, go_sem]) rfl ⟨fin_ok HG.out HN.out (by omega), (Below.refl _ _).alloc (Nat.le_refl _) _⟩
      · have hb' : (u : Int) ≤ 16383 := by omega
        clear hb
        have hz' : (((s[a + 2]).toNat : Int) == 0) = false := by simp; omega
        by_cases hp : ((u : Int) + ((s[a + 2]).toNat : Int) % 128 * 16384) % 2 = 1
        · have hN : -(((u : Int) + ((s[a + 2]).toNat : Int) % 128 * 16384) / 2) - 1 = num.unfold (u + (s[a + 2]).toNat * 128 ^ 2) := by unfold num.unfold; rw [if_pos (by omega)]; omega
          have HN := mkHid hN
          have hpar : (((u : Int) + ((s[a + 2]).toNat : Int) % 128 * 16384) % 2 == 1) = true := by simpa using hp
          clear hN hp
          go_wp2
          exact bodyPost_ret (v := .agg #[.int .i64 (-(((u : Int) + ((s[a + 2]).toNat : Int) % 128 * 16384) / 2) - 1), .int .i64 ((a : Int) + 2 + 1), .int .i64 0]) (by simp [results, Try.results104, go_sem]) rfl ⟨fin_ok HG.out HN.out (by omega), (Below.refl _ _).alloc (Nat.le_refl _) _⟩
        · have hN : ((u : Int) + ((s[a + 2]).toNat : Int) % 128 * 16384) / 2 = num.unfold (u + (s[a + 2]).toNat * 128 ^ 2) := by unfold num.unfold; rw [if_neg (by omega)]; omega
          have HN := mkHid hN
          have hpar : (((u : Int) + ((s[a + 2]).toNat : Int) % 128 * 16384) % 2 == 1) = false := by simpa using hp
          clear hN hp
          go_wp2
          exact bodyPost_ret (v := .agg #[.int .i64 (((u : Int) + ((s[a + 2]).toNat : Int) % 128 * 16384) / 2), .int .i64 ((a : Int) + 2 + 1), .int .i64 0]) (by simp [results, Try.results104, go_sem]) rfl ⟨fin_ok HG.out HN.out (by omega), (Below.refl _ _).alloc (Nat.le_refl _) _⟩
      · have hb' : (u : Int) ≤ 2097151 := by omega
        clear hb
        have hz' : (((s[a + 3]).toNat : Int) == 0) = false := by simp; omega
        by_cases hp : ((u : Int) + ((s[a + 3]).toNat : Int) % 128 * 2097152) % 2 = 1
        · have hN : -(((u : Int) + ((s[a + 3]).toNat : Int) % 128 * 2097152) / 2) - 1 = num.unfold (u + (s[a + 3]).toNat * 128 ^ 3) := by unfold num.unfold; rw [if_pos (by omega)]; omega
          have HN := mkHid hN
          have hpar : (((u : Int) + ((s[a + 3]).toNat : Int) % 128 * 2097152) % 2 == 1) = true := by simpa using hp
          clear hN hp
          go_wp2
          exact bodyPost_ret (v := .agg #[.int .i64 (-(((u : Int) + ((s[a + 3]).toNat : Int) % 128 * 2097152) / 2) - 1), .int .i64 ((a : Int) + 3 + 1), .int .i64 0]) (by simp [results, Try.results104, go_sem]) rfl ⟨fin_ok HG.out HN.out (by omega), (Below.refl _ _).alloc (Nat.le_refl _) _⟩
        · have hN : ((u : Int) + ((s[a + 3]).toNat : Int) % 128 * 2097152) / 2 = num.unfold (u + (s[a + 3]).toNat * 128 ^ 3) := by unfold num.unfold; rw [if_neg (by omega)]; omega
          have HN := mkHid hN
          have hpar : (((u : Int) + ((s[a + 3]).toNat : Int) % 128 * 2097152) % 2 == 1) = false := by simpa using hp
          clear hN hp
          go_wp2
          exact bodyPost_ret (v := .agg #[.int .i64 (((u : Int) + ((s[a + 3]).toNat : Int) % 128 * 2097152) / 2), .int .i64 ((a : Int) + 3 + 1), .int .i64 0]) (by simp [results, Try.results104, go_sem]) rfl ⟨fin_ok HG.out HN.out (by omega), (Below.refl _ _).alloc (Nat.le_refl _) _⟩
      · have hb' : (u : Int) ≤ 268435455 := by omega
        clear hb
        have hz' : (((s[a + 4]).toNat : Int) == 0) = false := by simp; omega
        by_cases hp : ((u : Int) + ((s[a + 4]).toNat : Int) % 128 * 268435456) % 2 = 1
        · have hN : -(((u : Int) + ((s[a + 4]).toNat : Int) % 128 * 268435456) / 2) - 1 = num.unfold (u + (s[a + 4]).toNat * 128 ^ 4) := by unfold num.unfold; rw [if_pos (by omega)]; omega
          have HN := mkHid hN
          have hpar : (((u : Int) + ((s[a + 4]).toNat : Int) % 128 * 268435456) % 2 == 1) = true := by simpa using hp
          clear hN hp
          go_wp2
          exact bodyPost_ret (v := .agg #[.int .i64 (-(((u : Int) + ((s[a + 4]).toNat : Int) % 128 * 268435456) / 2) - 1), .int .i64 ((a : Int) + 4 + 1), .int .i64 0]) (by simp [results, Try.results104, go_sem]) rfl ⟨fin_ok HG.out HN.out (by omega), (Below.refl _ _).alloc (Nat.le_refl _) _⟩
        · have hN : ((u : Int) + ((s[a + 4]).toNat : Int) % 128 * 268435456) / 2 = num.unfold (u + (s[a + 4]).toNat * 128 ^ 4) := by unfold num.unfold; rw [if_neg (by omega)]; omega
          have HN := mkHid hN
          have hpar : (((u : Int) + ((s[a + 4]).toNat : Int) % 128 * 268435456) % 2 == 1) = false := by simpa using hp
          clear hN hp
          go_wp2
          exact bodyPost_ret (v := .agg #[.int .i64 (((u : Int) + ((s[a + 4]).toNat : Int) % 128 * 268435456) / 2), .int .i64 ((a : Int) + 4 + 1), .int .i64 0]) (by simp [results, Try.results104, go_sem]) rfl ⟨fin_ok HG.out HN.out (by omega), (Below.refl _ _).alloc (Nat.le_refl _) _⟩
      · have hb' : (u : Int) ≤ 34359738367 := by omega
        clear hb
        have hz' : (((s[a + 5]).toNat : Int) == 0) = false := by simp; omega
        by_cases hp : ((u : Int) + ((s[a + 5]).toNat : Int) % 128 * 34359738368) % 2 = 1
        · have hN : -(((u : Int) + ((s[a + 5]).toNat : Int) % 128 * 34359738368) / 2) - 1 = num.unfold (u + (s[a + 5]).toNat * 128 ^ 5) := by unfold num.unfold; rw [if_pos (by omega)]; omega
          have HN := mkHid hN
          have hpar : (((u : Int) + ((s[a + 5]).toNat : Int) % 128 * 34359738368) % 2 == 1) = true := by simpa using hp
          clear hN hp
          go_wp2
          exact bodyPost_ret (v := .agg #[.int .i64 (-(((u : Int) + ((s[a + 5]).toNat : Int) % 128 * 34359738368) / 2) - 1), .int .i64 ((a : Int) + 5 + 1), .int .i64 0]) (by simp [results, Try.results104, go_sem]) rfl ⟨fin_ok HG.out HN.out (by omega), (Below.refl _ _).alloc (Nat.le_refl _) _⟩
        · have hN : ((u : Int) + ((s[a + 5]).toNat : Int) % 128 * 34359738368) / 2 = num.unfold (u + (s[a + 5]).toNat * 128 ^ 5) := by unfold num.unfold; rw [if_neg (by omega)]; omega
          have HN := mkHid hN
          have hpar : (((u : Int) + ((s[a + 5]).toNat : Int) % 128 * 34359738368) % 2 == 1) = false := by simpa using hp
          clear hN hp
          go_wp2
          exact bodyPost_ret (v := .agg #[.int .i64 (((u : Int) + ((s[a + 5]).toNat : Int) % 128 * 34359738368) / 2), .int .i64 ((a : Int) + 5 + 1), .int .i64 0]) (by simp [results, Try.results104, go_sem]) rfl ⟨fin_ok HG.out HN.out (by omega), (Below.refl _ _).alloc (Nat.le_refl _) _⟩
      · have hb' : (u : Int) ≤ 4398046511103 := by omega
        clear hb
        have hz' : (((s[a + 6]).toNat : Int) == 0) = false := by simp; omega
        by_cases hp : ((u : Int) + ((s[a + 6]).toNat : Int) % 128 * 4398046511104) % 2 = 1
        · have hN : -(((u : Int) + ((s[a + 6]).toNat : Int) % 128 * 4398046511104) / 2) - 1 = num.unfold (u + (s[a + 6]).toNat * 128 ^ 6) := by unfold num.unfold; rw [if_pos (by omega)]; omega
          have HN := mkHid hN
          have hpar : (((u : Int) + ((s[a + 6]).toNat : Int) % 128 * 4398046511104) % 2 == 1) = true := by simpa using hp
          clear hN hp
          go_wp2
          exact bodyPost_ret (v := .agg #[.int .i64 (-(((u : Int) + ((s[a + 6]).toNat : Int) % 128 * 4398046511104) / 2) - 1), .int .i64 ((a : Int) + 6 + 1), .int .i64 0]) (by simp [results, Try.results104, go_sem]) rfl ⟨fin_ok HG.out HN.out (by omega), (Below.refl _ _).alloc (Nat.le_refl _) _⟩
        · have hN : ((u : Int) + ((s[a + 6]).toNat : Int) % 128 * 4398046511104) / 2 = num.unfold (u + (s[a + 6]).toNat * 128 ^ 6) := by unfold num.unfold; rw [if_neg (by omega)]; omega
          have HN := mkHid hN
          have hpar : (((u : Int) + ((s[a + 6]).toNat : Int) % 128 * 4398046511104) % 2 == 1) = false := by simpa using hp
          clear hN hp
          go_wp2
          exact bodyPost_ret (v := .agg #[.int .i64 (((u : Int) + ((s[a + 6]).toNat : Int) % 128 * 4398046511104) / 2), .int .i64 ((a : Int) + 6 + 1), .int .i64 0]) (by simp [results, Try.results104, go_sem]) rfl ⟨fin_ok HG.out HN.out (by omega), (Below.refl _ _).alloc (Nat.le_refl _) _⟩
      · have hb' : (u : Int) ≤ 562949953421311 := by omega
        clear hb
        have hz' : (((s[a + 7]).toNat : Int) == 0) = false := by simp; omega
        by_cases hp : ((u : Int) + ((s[a + 7]).toNat : Int) % 128 * 562949953421312) % 2 = 1
        · have hN : -(((u : Int) + ((s[a + 7]).toNat : Int) % 128 * 562949953421312) / 2) - 1 = num.unfold (u + (s[a + 7]).toNat * 128 ^ 7) := by unfold num.unfold; rw [if_pos (by omega)]; omega
          have HN := mkHid hN
          have hpar : (((u : Int) + ((s[a + 7]).toNat : Int) % 128 * 562949953421312) % 2 == 1) = true := by simpa using hp
          clear hN hp
          go_wp2
          exact bodyPost_ret (v := .agg #[.int .i64 (-(((u : Int) + ((s[a + 7]).toNat : Int) % 128 * 562949953421312) / 2) - 1), .int .i64 ((a : Int) + 7 + 1), .int .i64 0]) (by simp [results, Try.results104, go_sem]) rfl ⟨fin_ok HG.out HN.out (by omega), (Below.refl _ _).alloc (Nat.le_refl _) _⟩
        · have hN : ((u : Int) + ((s[a + 7]).toNat : Int) % 128 * 562949953421312) / 2 = num.unfold (u + (s[a + 7]).toNat * 128 ^ 7) := by unfold num.unfold; rw [if_neg (by omega)]; omega
          have HN := mkHid hN
          have hpar : (((u : Int) + ((s[a + 7]).toNat : Int) % 128 * 562949953421312) % 2 == 1) = false := by simpa using hp
          clear hN hp
          go_wp2
          exact bodyPost_ret (v := .agg #[.int .i64 (((u : Int) + ((s[a + 7]).toNat : Int) % 128 * 562949953421312) / 2), .int .i64 ((a : Int) + 7 + 1), .int .i64 0]) (by simp [results, Try.results104, go_sem]) rfl ⟨fin_ok HG.out HN.out (by omega), (Below.refl _ _).alloc (Nat.le_refl _) _⟩
      · have hb' : (u : Int) ≤ 72057594037927935 := by omega
        clear hb
        have hz' : (((s[a + 8]).toNat : Int) == 0) = false := by simp; omega
        by_cases hp : ((u : Int) + ((s[a + 8]).toNat : Int) % 128 * 72057594037927936) % 2 = 1
        · have hN : -(((u : Int) + ((s[a + 8]).toNat : Int) % 128 * 72057594037927936) / 2) - 1 = num.unfold (u + (s[a + 8]).toNat * 128 ^ 8) := by unfold num.unfold; rw [if_pos (by omega)]; omega
          have HN := mkHid hN
          have hpar : (((u : Int) + ((s[a + 8]).toNat : Int) % 128 * 72057594037927936) % 2 == 1) = true := by simpa using hp
          clear hN hp
          go_wp2
          exact bodyPost_ret (v := .agg #[.int .i64 (-(((u : Int) + ((s[a + 8]).toNat : Int) % 128 * 72057594037927936) / 2) - 1), .int .i64 ((a : Int) + 8 + 1), .int .i64 0]) (by simp [results, Try.results104, go_sem]) rfl ⟨fin_ok HG.out HN.out (by omega), (Below.refl _ _).alloc (Nat.le_refl _) _⟩
        · have hN : ((u : Int) + ((s[a + 8]).toNat : Int) % 128 * 72057594037927936) / 2 = num.unfold (u + (s[a + 8]).toNat * 128 ^ 8) := by unfold num.unfold; rw [if_neg (by omega)]; omega
          have HN := mkHid hN
          have hpar : (((u : Int) + ((s[a + 8]).toNat : Int) % 128 * 72057594037927936) % 2 == 1) = false := by simpa using hp
          clear hN hp
          go_wp2
          exact bodyPost_ret (v := .agg #[.int .i64 (((u : Int) + ((s[a + 8]).toNat : Int) % 128 * 72057594037927936) / 2), .int .i64 ((a : Int) + 8 + 1), .int .i64 0]) (by simp [results, Try.results104, go_sem]) rfl ⟨fin_ok HG.out HN.out (by omega), (Below.refl _ _).alloc (Nat.le_refl _) _⟩
    · have R := mkHid (at_more hat.out hk h9 (by omega))
      rcases hj8 with rfl | rfl | rfl | rfl | rfl | rfl | rfl | rfl | rfl
      · obtain rfl : u = 0 := by omega
        have hk0 : a < s.size := hk
        have hl0 : 128 ≤ (s[a]).toNat := by have := hl; simp only [Nat.add_zero] at this; omega
        have hl1 : (s[a]).toNat < 256 := hc
        have R0 : Hid (At s a 1 ((s[a]).toNat % 128)) := mkHid (by have e := R.out; simpa using e)
        have hk1 : (a : Int) < (s.size : Int) := by omega
        clear R hb hl hk hk' hc hz hsh h9 hat
        go_wp2
        exact ⟨⟨1, _, by omega, rfl, by go_num, R0⟩, by simp [intOf]⟩
      · have hb' : (u : Int) ≤ 127 := by omega
        clear hb
        go_wp2
        exact ⟨⟨2, _, by omega, rfl, by go_num, R⟩, by simp [intOf]⟩
      · have hb' : (u : Int) ≤ 16383 := by omega
        clear hb
        go_wp2
        exact ⟨⟨3, _, by omega, rfl, by go_num, R⟩, by simp [intOf]⟩
      · have hb' : (u : Int) ≤ 2097151 := by omega
        clear hb
        go_wp2
        exact ⟨⟨4, _, by omega, rfl, by go_num, R⟩, by simp [intOf]⟩
      · have hb' : (u : Int) ≤ 268435455 := by omega
        clear hb
        go_wp2
        exact ⟨⟨5, _, by omega, rfl, by go_num, R⟩, by simp [intOf]⟩
      · have hb' : (u : Int) ≤ 34359738367 := by omega
        clear hb
        go_wp2
        exact ⟨⟨6, _, by omega, rfl, by go_num, R⟩, by simp [intOf]⟩
      · have hb' : (u : Int) ≤ 4398046511103 := by omega
        clear hb
        go_wp2
        exact ⟨⟨7, _, by omega, rfl, by go_num, R⟩, by simp [intOf]⟩
      · have hb' : (u : Int) ≤ 562949953421311 := by omega
        clear hb
        go_wp2
        exact ⟨⟨8, _, by omega, rfl, by go_num, R⟩, by simp [intOf]⟩
      · have hb' : (u : Int) ≤ 72057594037927935 := by omega
        clear hb
        go_wp2
        exact ⟨⟨9, _, by omega, rfl, by go_num, R⟩, by simp [intOf]⟩

end Go.Proofs.Ytlcdbkelonbcfaa.num
