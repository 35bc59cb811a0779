/-
  spec.GetNum answers what 'G' says. No condition.
  What spec.l07At answers and leaves: the record at a place, or none. Condition: a text of at most 20,000 bytes.
-/
import Derived.Test.YtppjbmmeacmoiaaDoorGetP
import Derived.Test.YtppjbmmeacmoiaaDoorAtP
namespace Go.Proofs.YtppjbmmeacmoiaaDoor.num
open Go.RowKit
set_option linter.unusedVariables false

theorem spec_big (s : ByteArray) (a : Int) (w : World) (h : 20000 < s.size) (hs : s.size ≤ 1048576) :
    Calls Tryd.prog 40 #[.string s, .int .i64 a] w fun e w' => e = .returned (out (G s a)) ∧ Below w.heap.size w w' := by
  have e : G s a = .error 2 := if_pos h
  rw [e]
  clear e
  go_enter Tryd.func40, Tryd.ntmps40
  go_wp2
  exact bodyPost_ret (v := .agg #[.int .i64 0, .int .i64 0, .int .i64 2]) (by simp [results, Tryd.results40, go_sem]) rfl ⟨rfl, (Below.refl _ _).alloc (Nat.le_refl _) _⟩
theorem spec_neg (s : ByteArray) (a : Int) (w : World) (h : s.size ≤ 20000) (ha : a < 0) :
    Calls Tryd.prog 40 #[.string s, .int .i64 a] w fun e w' => e = .returned (out (G s a)) ∧ Below w.heap.size w w' := by
  have e : G s a = .error 1 := by unfold G; rw [if_neg (by omega), if_pos ha]
  rw [e]
  clear e
  go_enter Tryd.func40, Tryd.ntmps40
  go_wp2
  exact bodyPost_ret (v := .agg #[.int .i64 0, .int .i64 0, .int .i64 1]) (by simp [results, Tryd.results40, go_sem]) rfl ⟨rfl, (Below.refl _ _).alloc (Nat.le_refl _) _⟩

set_option maxHeartbeats 4000000 in
set_option maxRecDepth 100000 in
theorem spec_any (s : ByteArray) (a : Nat) (w : World) (h : s.size ≤ 20000) (hm : (a : Int) ≤ 9223372036854775807) :
    Calls Tryd.prog 40 #[.string s, .int .i64 a] w fun e w' => e = .returned (out (G s a)) ∧ Below w.heap.size w w' := by
  go_enter Tryd.func40, Tryd.ntmps40
  go_wp2
  go_loop [5, 6] (fun x i => ∃ (j u : Nat), j ≤ 9 ∧ i = .int .i64 (j : Int) ∧ x = .int .u64 (u : Int) ∧ Hid (At s a j u)) (fun _ i => 10 - (intOf i).toNat)
  case atStart => exact ⟨0, 0, by omega, rfl, rfl, mkHid (at_zero s a)⟩
  case round =>
    obtain ⟨j, u, hj, rfl, rfl, hat⟩ := hrel
    by_cases hsh : s.size ≤ a + j
    · have HG : Hid (G s a = .error 4) := mkHid (G_err h (by rw [← hat.out.2]; exact rd_short hsh))
      have h1 : (s.size : Int) - (j : Int) ≤ (a : Int) := by omega
      go_wp2
      exact bodyPost_ret (v := .agg #[.int .i64 0, .int .i64 0, .int .i64 4]) (by simp [results, Tryd.results40, go_sem]) rfl ⟨by rw [HG.out]; rfl, (Below.refl _ _).alloc (Nat.le_refl _) _⟩
    have hk : a + j < s.size := by omega
    have hk' : (a : Int) + (j : Int) < (s.size : Int) := by omega
    have hc := (s[a + j]).toNat_lt
    by_cases h9 : j = 9
    · subst h9
      have hb := hat.out.1
      have hb' : (u : Int) ≤ 9223372036854775807 := by omega
      clear hb
      by_cases hc1 : 1 < (s[a + 9]).toNat
      · have HG : Hid (G s a = .error 3) := mkHid (G_err h (by rw [← hat.out.2]; exact rd_nine hk hc1))
        go_wp2
        exact bodyPost_ret (v := .agg #[.int .i64 0, .int .i64 0, .int .i64 3]) (by simp [results, Tryd.results40, go_sem]) rfl ⟨by rw [HG.out]; rfl, (Below.refl _ _).alloc (Nat.le_refl _) _⟩
      · by_cases hc0 : (s[a + 9]).toNat = 0
        · have HG : Hid (G s a = .error 3) := mkHid (G_err h (by rw [← hat.out.2]; exact rd_zero hk hc0 (by omega)))
          go_wp2
          exact bodyPost_ret (v := .agg #[.int .i64 0, .int .i64 0, .int .i64 3]) (by simp [results, Tryd.results40, go_sem]) rfl ⟨by rw [HG.out]; rfl, (Below.refl _ _).alloc (Nat.le_refl _) _⟩
        · have HG := mkHid (G_ok h (by rw [← hat.out.2]; exact rd_last hk (by omega) (by omega) (by omega)))
          have hc2 : (s[a + 9]).toNat = 1 := by omega
          rw [hc2] at HG
          by_cases hp : ((u : Int) + 9223372036854775808) % 2 = 1
          · have hN : -(((u : Int) + 9223372036854775808) / 2) - 1 = num.unfold (u + 1 * 128 ^ 9) := by unfold num.unfold; rw [if_pos (by omega)]; omega
            have HN := mkHid hN
            have hpar : (((u : Int) + 9223372036854775808) % 2 == 1) = true := by simpa using hp
            clear hN hp
            go_wp2
            exact bodyPost_ret (v := .agg #[.int .i64 (-(((u : Int) + 9223372036854775808) / 2) - 1), .int .i64 ((a : Int) + 9 + 1), .int .i64 0]) (by simp [results, Tryd.results40, go_sem]) rfl ⟨fin_ok HG.out HN.out (by omega), (Below.refl _ _).alloc (Nat.le_refl _) _⟩
          · have hN : ((u : Int) + 9223372036854775808) / 2 = num.unfold (u + 1 * 128 ^ 9) := by unfold num.unfold; rw [if_neg (by omega)]; omega
            have HN := mkHid hN
            have hpar : (((u : Int) + 9223372036854775808) % 2 == 1) = false := by simpa using hp
            clear hN hp
            go_wp2
            exact bodyPost_ret (v := .agg #[.int .i64 (((u : Int) + 9223372036854775808) / 2), .int .i64 ((a : Int) + 9 + 1), .int .i64 0]) (by simp [results, Tryd.results40, go_sem]) rfl ⟨fin_ok HG.out HN.out (by omega), (Below.refl _ _).alloc (Nat.le_refl _) _⟩
    by_cases hz : (s[a + j]).toNat = 0 ∧ 0 < j
    · have HG : Hid (G s a = .error 3) := mkHid (G_err h (by rw [← hat.out.2]; exact rd_zero hk hz.1 hz.2))
      obtain ⟨hz1, hz2⟩ := hz
      have hj8 : j = 1 ∨ j = 2 ∨ j = 3 ∨ j = 4 ∨ j = 5 ∨ j = 6 ∨ j = 7 ∨ j = 8 := by omega
      have hb := hat.out.1
      rcases hj8 with rfl | rfl | rfl | rfl | rfl | rfl | rfl | rfl
      all_goals
        have hb' : (u : Int) ≤ 72057594037927935 := by omega
        clear hb
        go_wp2
        exact bodyPost_ret (v := .agg #[.int .i64 0, .int .i64 0, .int .i64 3]) (by simp [results, Tryd.results40, go_sem]) rfl ⟨by rw [HG.out]; rfl, (Below.refl _ _).alloc (Nat.le_refl _) _⟩
    have hj8 : j = 0 ∨ j = 1 ∨ j = 2 ∨ j = 3 ∨ j = 4 ∨ j = 5 ∨ j = 6 ∨ j = 7 ∨ j = 8 := by omega
    have hb := hat.out.1
    by_cases hl : (s[a + j]).toNat < 128
    · have HG := mkHid (G_ok h (by rw [← hat.out.2]; exact rd_last hk (by omega) hl hz))
      rcases hj8 with rfl | rfl | rfl | rfl | rfl | rfl | rfl | rfl | rfl
      · obtain rfl : u = 0 := by omega
        have hk0 : a < s.size := hk
        have hl0 : (s[a]).toNat < 128 := hl
        have hG0 : Hid (G s a = .ok (num.unfold (s[a]).toNat, (a : Int) + (1 : Nat))) := mkHid (by have e := HG.out; simpa using e)
        have hk1 : (a : Int) < (s.size : Int) := by omega
        clear HG hb hl hk hk' hc hz hsh h9 hat
        by_cases hz0 : (s[a]).toNat = 0
        · have hz1 : (((s[a]).toNat : Int) == 0) = true := by simp; omega
          have HN := mkHid (show (0 : Int) = num.unfold (s[a]).toNat by rw [hz0]; rfl)
          go_wp2
          exact bodyPost_ret (v := .agg #[.int .i64 0, .int .i64 ((a : Int) + 1), .int .i64 0]) (by simp [results, Tryd.results40, go_sem]) rfl ⟨fin_ok hG0.out HN.out (by omega), (Below.refl _ _).alloc (Nat.le_refl _) _⟩
        have hz1 : (((s[a]).toNat : Int) == 0) = false := by simp; omega
        by_cases hp : (((s[a]).toNat : Int) % 128) % 2 = 1
        · have hN : -((((s[a]).toNat : Int) % 128) / 2) - 1 = num.unfold ((s[a]).toNat) := by unfold num.unfold; rw [if_pos (by omega)]; omega
          have HN := mkHid hN
          have hpar : ((((s[a]).toNat : Int) % 128) % 2 == 1) = true := by simpa using hp
          clear hN hp
          go_wp2
          exact bodyPost_ret (v := .agg #[.int .i64 (-((((s[a]).toNat : Int) % 128) / 2) - 1), .int .i64 ((a : Int) + 1), .int .i64 0]) (by simp [results, Tryd.results40, go_sem]) rfl ⟨fin_ok hG0.out HN.out (by omega), (Below.refl _ _).alloc (Nat.le_refl _) _⟩
        · have hN : (((s[a]).toNat : Int) % 128) / 2 = num.unfold ((s[a]).toNat) := by unfold num.unfold; rw [if_neg (by omega)]; omega
          have HN := mkHid hN
          have hpar : ((((s[a]).toNat : Int) % 128) % 2 == 1) = false := by simpa using hp
          clear hN hp
          go_wp2
          exact bodyPost_ret (v := .agg #[.int .i64 ((((s[a]).toNat : Int) % 128) / 2), .int .i64 ((a : Int) + 1), .int .i64 0]) (by simp [results, Tryd.results40, go_sem]) rfl ⟨fin_ok hG0.out HN.out (by omega), (Below.refl _ _).alloc (Nat.le_refl _) _⟩
      · have hb' : (u : Int) ≤ 127 := by omega
        clear hb
        have hz' : (((s[a + 1]).toNat : Int) == 0) = false := by simp; omega
        by_cases hp : ((u : Int) + ((s[a + 1]).toNat : Int) % 128 * 128) % 2 = 1
        · have hN : -(((u : Int) + ((s[a + 1]).toNat : Int) % 128 * 128) / 2) - 1 = num.unfold (u + (s[a + 1]).toNat * 128 ^ 1) := by unfold num.unfold; rw [if_pos (by omega)]; omega
          have HN := mkHid hN
          have hpar : (((u : Int) + ((s[a + 1]).toNat : Int) % 128 * 128) % 2 == 1) = true := by simpa using hp
          clear hN hp
          go_wp2
          exact bodyPost_ret (v := .agg #[.int .i64 (-(((u : Int) + ((s[a + 1]).toNat : Int) % 128 * 128) / 2) - 1), .int .i64 ((a : Int) + 1 + 1), .int .i64 0]) (by simp [results, Tryd.results40, go_sem]) rfl ⟨fin_ok HG.out HN.out (by omega), (Below.refl _ _).alloc (Nat.le_refl _) _⟩
        · have hN : ((u : Int) + ((s[a + 1]).toNat : Int) % 128 * 128) / 2 = num.unfold (u + (s[a + 1]).toNat * 128 ^ 1) := by unfold num.unfold; rw [if_neg (by omega)]; omega
          have HN := mkHid hN
          have hpar : (((u : Int) + ((s[a + 1]).toNat : Int) % 128 * 128) % 2 == 1) = false := by simpa using hp
          clear hN hp
          go_wp2
          exact bodyPost_ret (v := .agg #[.int .i64 (((u : Int) + ((s[a + 1]).toNat : Int) % 128 * 128) / 2), .int .i64 ((a : Int) + 1 + 1), .int .i64 0]) (by simp [results, Tryd.results40, go_sem]) rfl ⟨fin_ok HG.out HN.out (by omega), (Below.refl _ _).alloc (Nat.le_refl _) _⟩
      · have hb' : (u : Int) ≤ 16383 := by omega
        clear hb
        have hz' : (((s[a + 2]).toNat : Int) == 0) = false := by simp; omega
        by_cases hp : ((u : Int) + ((s[a + 2]).toNat : Int) % 128 * 16384) % 2 = 1
        · have hN : -(((u : Int) + ((s[a + 2]).toNat : Int) % 128 * 16384) / 2) - 1 = num.unfold (u + (s[a + 2]).toNat * 128 ^ 2) := by unfold num.unfold; rw [if_pos (by omega)]; omega
          have HN := mkHid hN
          have hpar : (((u : Int) + ((s[a + 2]).toNat : Int) % 128 * 16384) % 2 == 1) = true := by simpa using hp
          clear hN hp
          go_wp2
          exact bodyPost_ret (v := .agg #[.int .i64 (-(((u : Int) + ((s[a + 2]).toNat : Int) % 128 * 16384) / 2) - 1), .int .i64 ((a : Int) + 2 + 1), .int .i64 0]) (by simp [results, Tryd.results40, go_sem]) rfl ⟨fin_ok HG.out HN.out (by omega), (Below.refl _ _).alloc (Nat.le_refl _) _⟩
        · have hN : ((u : Int) + ((s[a + 2]).toNat : Int) % 128 * 16384) / 2 = num.unfold (u + (s[a + 2]).toNat * 128 ^ 2) := by unfold num.unfold; rw [if_neg (by omega)]; omega
          have HN := mkHid hN
          have hpar : (((u : Int) + ((s[a + 2]).toNat : Int) % 128 * 16384) % 2 == 1) = false := by simpa using hp
          clear hN hp
          go_wp2
          exact bodyPost_ret (v := .agg #[.int .i64 (((u : Int) + ((s[a + 2]).toNat : Int) % 128 * 16384) / 2), .int .i64 ((a : Int) + 2 + 1), .int .i64 0]) (by simp [results, Tryd.results40, go_sem]) rfl ⟨fin_ok HG.out HN.out (by omega), (Below.refl _ _).alloc (Nat.le_refl _) _⟩
      · have hb' : (u : Int) ≤ 2097151 := by omega
        clear hb
        have hz' : (((s[a + 3]).toNat : Int) == 0) = false := by simp; omega
        by_cases hp : ((u : Int) + ((s[a + 3]).toNat : Int) % 128 * 2097152) % 2 = 1
        · have hN : -(((u : Int) + ((s[a + 3]).toNat : Int) % 128 * 2097152) / 2) - 1 = num.unfold (u + (s[a + 3]).toNat * 128 ^ 3) := by unfold num.unfold; rw [if_pos (by omega)]; omega
          have HN := mkHid hN
          have hpar : (((u : Int) + ((s[a + 3]).toNat : Int) % 128 * 2097152) % 2 == 1) = true := by simpa using hp
          clear hN hp
          go_wp2
          exact bodyPost_ret (v := .agg #[.int .i64 (-(((u : Int) + ((s[a + 3]).toNat : Int) % 128 * 2097152) / 2) - 1), .int .i64 ((a : Int) + 3 + 1), .int .i64 0]) (by simp [results, Tryd.results40, go_sem]) rfl ⟨fin_ok HG.out HN.out (by omega), (Below.refl _ _).alloc (Nat.le_refl _) _⟩
        · have hN : ((u : Int) + ((s[a + 3]).toNat : Int) % 128 * 2097152) / 2 = num.unfold (u + (s[a + 3]).toNat * 128 ^ 3) := by unfold num.unfold; rw [if_neg (by omega)]; omega
          have HN := mkHid hN
          have hpar : (((u : Int) + ((s[a + 3]).toNat : Int) % 128 * 2097152) % 2 == 1) = false := by simpa using hp
          clear hN hp
          go_wp2
          exact bodyPost_ret (v := .agg #[.int .i64 (((u : Int) + ((s[a + 3]).toNat : Int) % 128 * 2097152) / 2), .int .i64 ((a : Int) + 3 + 1), .int .i64 0]) (by simp [results, Tryd.results40, go_sem]) rfl ⟨fin_ok HG.out HN.out (by omega), (Below.refl _ _).alloc (Nat.le_refl _) _⟩
      · have hb' : (u : Int) ≤ 268435455 := by omega
        clear hb
        have hz' : (((s[a + 4]).toNat : Int) == 0) = false := by simp; omega
        by_cases hp : ((u : Int) + ((s[a + 4]).toNat : Int) % 128 * 268435456) % 2 = 1
        · have hN : -(((u : Int) + ((s[a + 4]).toNat : Int) % 128 * 268435456) / 2) - 1 = num.unfold (u + (s[a + 4]).toNat * 128 ^ 4) := by unfold num.unfold; rw [if_pos (by omega)]; omega
          have HN := mkHid hN
          have hpar : (((u : Int) + ((s[a + 4]).toNat : Int) % 128 * 268435456) % 2 == 1) = true := by simpa using hp
          clear hN hp
          go_wp2
          exact bodyPost_ret (v := .agg #[.int .i64 (-(((u : Int) + ((s[a + 4]).toNat : Int) % 128 * 268435456) / 2) - 1), .int .i64 ((a : Int) + 4 + 1), .int .i64 0]) (by simp [results, Tryd.results40, go_sem]) rfl ⟨fin_ok HG.out HN.out (by omega), (Below.refl _ _).alloc (Nat.le_refl _) _⟩
        · have hN : ((u : Int) + ((s[a + 4]).toNat : Int) % 128 * 268435456) / 2 = num.unfold (u + (s[a + 4]).toNat * 128 ^ 4) := by unfold num.unfold; rw [if_neg (by omega)]; omega
          have HN := mkHid hN
          have hpar : (((u : Int) + ((s[a + 4]).toNat : Int) % 128 * 268435456) % 2 == 1) = false := by simpa using hp
          clear hN hp
          go_wp2
          exact bodyPost_ret (v := .agg #[.int .i64 (((u : Int) + ((s[a + 4]).toNat : Int) % 128 * 268435456) / 2), .int .i64 ((a : Int) + 4 + 1), .int .i64 0]) (by simp [results, Tryd.results40, go_sem]) rfl ⟨fin_ok HG.out HN.out (by omega), (Below.refl _ _).alloc (Nat.le_refl _) _⟩
      · have hb' : (u : Int) ≤ 34359738367 := by omega
        clear hb
        have hz' : (((s[a + 5]).toNat : Int) == 0) = false := by simp; omega
        by_cases hp : ((u : Int) + ((s[a + 5]).toNat : Int) % 128 * 34359738368) % 2 = 1
        · have hN : -(((u : Int) + ((s[a + 5]).toNat : Int) % 128 * 34359738368) / 2) - 1 = num.unfold (u + (s[a + 5]).toNat * 128 ^ 5) := by unfold num.unfold; rw [if_pos (by omega)]; omega
          have HN := mkHid hN
          have hpar : (((u : Int) + ((s[a + 5]).toNat : Int) % 128 * 34359738368) % 2 == 1) = true := by simpa using hp
          clear hN hp
          go_wp2
          exact bodyPost_ret (v := .agg #[.int .i64 (-(((u : Int) + ((s[a + 5]).toNat : Int) % 128 * 34359738368) / 2) - 1), .int .i64 ((a : Int) + 5 + 1), .int .i64 0]) (by simp [results, Tryd.results40, go_sem]) rfl ⟨fin_ok HG.out HN.out (by omega), (Below.refl _ _).alloc (Nat.le_refl _) _⟩
        · have hN : ((u : Int) + ((s[a + 5]).toNat : Int) % 128 * 34359738368) / 2 = num.unfold (u + (s[a + 5]).toNat * 128 ^ 5) := by unfold num.unfold; rw [if_neg (by omega)]; omega
          have HN := mkHid hN
          have hpar : (((u : Int) + ((s[a + 5]).toNat : Int) % 128 * 34359738368) % 2 == 1) = false := by simpa using hp
          clear hN hp
          go_wp2
          exact bodyPost_ret (v := .agg #[.int .i64 (((u : Int) + ((s[a + 5]).toNat : Int) % 128 * 34359738368) / 2), .int .i64 ((a : Int) + 5 + 1), .int .i64 0]) (by simp [results, Tryd.results40, go_sem]) rfl ⟨fin_ok HG.out HN.out (by omega), (Below.refl _ _).alloc (Nat.le_refl _) _⟩
      · have hb' : (u : Int) ≤ 4398046511103 := by omega
        clear hb
        have hz' : (((s[a + 6]).toNat : Int) == 0) = false := by simp; omega
        by_cases hp : ((u : Int) + ((s[a + 6]).toNat : Int) % 128 * 4398046511104) % 2 = 1
        · have hN : -(((u : Int) + ((s[a + 6]).toNat : Int) % 128 * 4398046511104) / 2) - 1 = num.unfold (u + (s[a + 6]).toNat * 128 ^ 6) := by unfold num.unfold; rw [if_pos (by omega)]; omega
          have HN := mkHid hN
          have hpar : (((u : Int) + ((s[a + 6]).toNat : Int) % 128 * 4398046511104) % 2 == 1) = true := by simpa using hp
          clear hN hp
          go_wp2
          exact bodyPost_ret (v := .agg #[.int .i64 (-(((u : Int) + ((s[a + 6]).toNat : Int) % 128 * 4398046511104) / 2) - 1), .int .i64 ((a : Int) + 6 + 1), .int .i64 0]) (by simp [results, Tryd.results40, go_sem]) rfl ⟨fin_ok HG.out HN.out (by omega), (Below.refl _ _).alloc (Nat.le_refl _) _⟩
        · have hN : ((u : Int) + ((s[a + 6]).toNat : Int) % 128 * 4398046511104) / 2 = num.unfold (u + (s[a + 6]).toNat * 128 ^ 6) := by unfold num.unfold; rw [if_neg (by omega)]; omega
          have HN := mkHid hN
          have hpar : (((u : Int) + ((s[a + 6]).toNat : Int) % 128 * 4398046511104) % 2 == 1) = false := by simpa using hp
          clear hN hp
          go_wp2
          exact bodyPost_ret (v := .agg #[.int .i64 (((u : Int) + ((s[a + 6]).toNat : Int) % 128 * 4398046511104) / 2), .int .i64 ((a : Int) + 6 + 1), .int .i64 0]) (by simp [results, Tryd.results40, go_sem]) rfl ⟨fin_ok HG.out HN.out (by omega), (Below.refl _ _).alloc (Nat.le_refl _) _⟩
      · have hb' : (u : Int) ≤ 562949953421311 := by omega
        clear hb
        have hz' : (((s[a + 7]).toNat : Int) == 0) = false := by simp; omega
        by_cases hp : ((u : Int) + ((s[a + 7]).toNat : Int) % 128 * 562949953421312) % 2 = 1
        · have hN : -(((u : Int) + ((s[a + 7]).toNat : Int) % 128 * 562949953421312) / 2) - 1 = num.unfold (u + (s[a + 7]).toNat * 128 ^ 7) := by unfold num.unfold; rw [if_pos (by omega)]; omega
          have HN := mkHid hN
          have hpar : (((u : Int) + ((s[a + 7]).toNat : Int) % 128 * 562949953421312) % 2 == 1) = true := by simpa using hp
          clear hN hp
          go_wp2
          exact bodyPost_ret (v := .agg #[.int .i64 (-(((u : Int) + ((s[a + 7]).toNat : Int) % 128 * 562949953421312) / 2) - 1), .int .i64 ((a : Int) + 7 + 1), .int .i64 0]) (by simp [results, Tryd.results40, go_sem]) rfl ⟨fin_ok HG.out HN.out (by omega), (Below.refl _ _).alloc (Nat.le_refl _) _⟩
        · have hN : ((u : Int) + ((s[a + 7]).toNat : Int) % 128 * 562949953421312) / 2 = num.unfold (u + (s[a + 7]).toNat * 128 ^ 7) := by unfold num.unfold; rw [if_neg (by omega)]; omega
          have HN := mkHid hN
          have hpar : (((u : Int) + ((s[a + 7]).toNat : Int) % 128 * 562949953421312) % 2 == 1) = false := by simpa using hp
          clear hN hp
          go_wp2
          exact bodyPost_ret (v := .agg #[.int .i64 (((u : Int) + ((s[a + 7]).toNat : Int) % 128 * 562949953421312) / 2), .int .i64 ((a : Int) + 7 + 1), .int .i64 0]) (by simp [results, Tryd.results40, go_sem]) rfl ⟨fin_ok HG.out HN.out (by omega), (Below.refl _ _).alloc (Nat.le_refl _) _⟩
      · have hb' : (u : Int) ≤ 72057594037927935 := by omega
        clear hb
        have hz' : (((s[a + 8]).toNat : Int) == 0) = false := by simp; omega
        by_cases hp : ((u : Int) + ((s[a + 8]).toNat : Int) % 128 * 72057594037927936) % 2 = 1
        · have hN : -(((u : Int) + ((s[a + 8]).toNat : Int) % 128 * 72057594037927936) / 2) - 1 = num.unfold (u + (s[a + 8]).toNat * 128 ^ 8) := by unfold num.unfold; rw [if_pos (by omega)]; omega
          have HN := mkHid hN
          have hpar : (((u : Int) + ((s[a + 8]).toNat : Int) % 128 * 72057594037927936) % 2 == 1) = true := by simpa using hp
          clear hN hp
          go_wp2
          exact bodyPost_ret (v := .agg #[.int .i64 (-(((u : Int) + ((s[a + 8]).toNat : Int) % 128 * 72057594037927936) / 2) - 1), .int .i64 ((a : Int) + 8 + 1), .int .i64 0]) (by simp [results, Tryd.results40, go_sem]) rfl ⟨fin_ok HG.out HN.out (by omega), (Below.refl _ _).alloc (Nat.le_refl _) _⟩
        · have hN : ((u : Int) + ((s[a + 8]).toNat : Int) % 128 * 72057594037927936) / 2 = num.unfold (u + (s[a + 8]).toNat * 128 ^ 8) := by unfold num.unfold; rw [if_neg (by omega)]; omega
          have HN := mkHid hN
          have hpar : (((u : Int) + ((s[a + 8]).toNat : Int) % 128 * 72057594037927936) % 2 == 1) = false := by simpa using hp
          clear hN hp
          go_wp2
          exact bodyPost_ret (v := .agg #[.int .i64 (((u : Int) + ((s[a + 8]).toNat : Int) % 128 * 72057594037927936) / 2), .int .i64 ((a : Int) + 8 + 1), .int .i64 0]) (by simp [results, Tryd.results40, go_sem]) rfl ⟨fin_ok HG.out HN.out (by omega), (Below.refl _ _).alloc (Nat.le_refl _) _⟩
    · have R := mkHid (at_more hat.out hk h9 (by omega))
      rcases hj8 with rfl | rfl | rfl | rfl | rfl | rfl | rfl | rfl | rfl
      · obtain rfl : u = 0 := by omega
        have hk0 : a < s.size := hk
        have hl0 : 128 ≤ (s[a]).toNat := by have := hl; simp only [Nat.add_zero] at this; omega
        have hl1 : (s[a]).toNat < 256 := hc
        have R0 : Hid (At s a 1 ((s[a]).toNat % 128)) := mkHid (by have e := R.out; simpa using e)
        have hk1 : (a : Int) < (s.size : Int) := by omega
        clear R hb hl hk hk' hc hz hsh h9 hat
        go_wp2
        exact ⟨⟨1, _, by omega, rfl, by go_num, R0⟩, by simp [intOf]⟩
      · have hb' : (u : Int) ≤ 127 := by omega
        clear hb
        go_wp2
        exact ⟨⟨2, _, by omega, rfl, by go_num, R⟩, by simp [intOf]⟩
      · have hb' : (u : Int) ≤ 16383 := by omega
        clear hb
        go_wp2
        exact ⟨⟨3, _, by omega, rfl, by go_num, R⟩, by simp [intOf]⟩
      · have hb' : (u : Int) ≤ 2097151 := by omega
        clear hb
        go_wp2
        exact ⟨⟨4, _, by omega, rfl, by go_num, R⟩, by simp [intOf]⟩
      · have hb' : (u : Int) ≤ 268435455 := by omega
        clear hb
        go_wp2
        exact ⟨⟨5, _, by omega, rfl, by go_num, R⟩, by simp [intOf]⟩
      · have hb' : (u : Int) ≤ 34359738367 := by omega
        clear hb
        go_wp2
        exact ⟨⟨6, _, by omega, rfl, by go_num, R⟩, by simp [intOf]⟩
      · have hb' : (u : Int) ≤ 4398046511103 := by omega
        clear hb
        go_wp2
        exact ⟨⟨7, _, by omega, rfl, by go_num, R⟩, by simp [intOf]⟩
      · have hb' : (u : Int) ≤ 562949953421311 := by omega
        clear hb
        go_wp2
        exact ⟨⟨8, _, by omega, rfl, by go_num, R⟩, by simp [intOf]⟩
      · have hb' : (u : Int) ≤ 72057594037927935 := by omega
        clear hb
        go_wp2
        exact ⟨⟨9, _, by omega, rfl, by go_num, R⟩, by simp [intOf]⟩

end Go.Proofs.YtppjbmmeacmoiaaDoor.num
namespace Go.Proofs.YtppjbmmeacmoiaaDoor.pack
open Go.RowKit Go.Joins
open Go.Proofs.YtppjbmmeacmoiaaDoor.base Go.Proofs.YtppjbmmeacmoiaaDoor.blk Go.Proofs.YtppjbmmeacmoiaaDoor.aid
open Go.Proofs.YtppjbmmeacmoiaaDoor.sha (digest GV)
set_option linter.unusedVariables false

theorem rd_code : ∀ (l : List UInt8) (j u : Nat) (c : Int), num.rd l j u = .error c → c ≠ 0
  | [], j, u, c, h => by simp [num.rd] at h; omega
  | b :: r, j, u, c, h => by
    unfold num.rd at h
    split at h
    · simp at h; omega
    · split at h
      · split at h
        · simp at h; omega
        · simp at h
      · exact rd_code r _ _ c h
theorem G_code {s : ByteArray} {a : Int} {c : Int} (h : num.G s a = .error c) : c ≠ 0 := by
  unfold num.G at h
  split at h
  · simp at h; omega
  · split at h
    · simp at h; omega
    · cases hr : num.rd (s.data.toList.drop a.toNat) 0 0 with
      | error d => rw [hr] at h; simp at h; subst h; exact rd_code _ _ _ _ hr
      | ok x => rw [hr] at h; simp at h
theorem three {n q m : Int} (h : n < 0 ∨ 2000 < n ∨ m - n < q) : n < 0 ∨ (0 ≤ n ∧ 2000 < n) ∨ (0 ≤ n ∧ n ≤ 2000 ∧ m - n < q) := by omega
theorem slice_key (s : ByteArray) (a : Nat) (h : a + 33 ≤ s.size) (wx : World) : (Instr.slice 9 (.string s) (some (.int .i64 ((a : Int) + 1))) (some (.int .i64 ((a : Int) + 33))) none).run Tryd.prog wx = .ok (.string (keyAt s a)) wx := by
  have h1 := run_slice_string (P := Tryd.prog) wx 9 s .i64 .i64 ((a : Int) + 1) ((a : Int) + 33) Tryd.underlying9 (by omega) (by omega) (by omega)
  rw [h1]
  unfold keyAt
  congr 3
def noV : Value := .tuple #[.agg #[.string ⟨#[]⟩, .int .i64 0, .int .i64 0, .int .i64 0], .agg #[.int .i64 0, .string ⟨#[]⟩], .int .i64 0, .bool false]
/-- the three variables of l07At -/
structure A3 (w W : World) : Prop where
  below : Below w.heap.size w W
  e0 : W.heap[w.heap.size]? = some (.cells #[.string ⟨#[]⟩, .int .i64 0, .int .i64 0, .int .i64 0] 31)
  e1 : W.heap[w.heap.size + 1]? = some (.cells #[.int .i64 0, .string ⟨#[]⟩] 53)
  e2 : W.heap[w.heap.size + 1 + 1]? = some (.cells #[.int .i64 0, .string ⟨#[]⟩] 53)
theorem A3.next {w W W' : World} (h : A3 w W) (hb : Below W.heap.size W W') : A3 w W' := ⟨h.below.trans (hb.mono h.below.size), blk_below h.e0 hb, blk_below h.e1 hb, blk_below h.e2 hb⟩
theorem A3.fin {w W : World} (h : A3 w W) (a b c d e f : Value) : Below w.heap.size w (((((((W.setCell ⟨w.heap.size, 0, none⟩ a).setCell ⟨w.heap.size, 1, none⟩ b).setCell ⟨w.heap.size, 2, none⟩ c).setCell ⟨w.heap.size, 3, none⟩ d).setCell ⟨w.heap.size + 1, 0, none⟩ e).setCell ⟨w.heap.size + 1, 1, none⟩ f).drew) :=
  ((((((h.below.setCell (by simp) _).setCell (by simp) _).setCell (by simp) _).setCell (by simp) _).setCell (by simp) _).setCell (by simp) _).drew
structure A5 (w : World) (z1 z2 : Nat) (ok on : Obj) (W : World) : Prop where
  a3 : A3 w W
  zk : W.heap[z1]? = some ok
  zn : W.heap[z2]? = some on
theorem A3.drew {w W : World} (h : A3 w W) : A3 w W.drew := ⟨h.below.drew, h.e0, h.e1, h.e2⟩
theorem A5.next {w W W' : World} {z1 z2 : Nat} {ok on : Obj} (h : A5 w z1 z2 ok on W) (hb : Below W.heap.size W W') : A5 w z1 z2 ok on W' := ⟨h.a3.next hb, blk_below h.zk hb, blk_below h.zn hb⟩
theorem A5.drew {w W : World} {z1 z2 : Nat} {ok on : Obj} (h : A5 w z1 z2 ok on W) : A5 w z1 z2 ok on W.drew := ⟨h.a3.drew, h.zk, h.zn⟩
theorem APost.either {w w' : World} {s : ByteArray} {a : Nat} {k : Int} {q n : Nat} {tx : ByteArray} {m : Int} {bb : Bool} (h : (bb = true → recAt s a = some (k, q, n)) ∧ (bb = false → recAt s a = Option.none)) (ht : tx = s.extract q (q + n)) (hm : m = ((q + n : Nat) : Int)) (hb : Below w.heap.size w w') :
    APost w s a (.returned (.tuple #[.agg #[.string (keyAt s a), .int .i64 k, .int .i64 (q : Int), .int .i64 (n : Int)], .agg #[.int .i64 k, .string tx], .int .i64 m, .bool bb])) w' := by
  subst ht hm
  cases bb
  · exact APost.no (h.2 rfl) ⟨_, _, _, _, _, _, _, rfl, hb⟩
  · exact APost.yes (h.1 rfl) ⟨rfl, hb⟩
theorem txt_both {r s : ByteArray} {bb : Bool} {A B : Prop} (h : (r.toList == s.toList) = bb) (hp : (r = s → A) ∧ (¬ r = s → B)) : (bb = true → A) ∧ (bb = false → B) := by
  rw [ByteArray.toList_eq, ByteArray.toList_eq] at h
  subst h
  constructor
  · intro e
    exact hp.1 (ByteArray.ext (Array.toList_inj.1 (by simpa using e)))
  · intro e
    exact hp.2 (fun e2 => by subst e2; simp at e)
theorem A3.fin6 {w W : World} (h : A3 w W) (a b c d e f : Value) : Below w.heap.size w ((((((W.setCell ⟨w.heap.size, 0, none⟩ a).setCell ⟨w.heap.size, 1, none⟩ b).setCell ⟨w.heap.size, 2, none⟩ c).setCell ⟨w.heap.size, 3, none⟩ d).setCell ⟨w.heap.size + 1, 0, none⟩ e).setCell ⟨w.heap.size + 1, 1, none⟩ f) :=
  (((((h.below.setCell (by simp) _).setCell (by simp) _).setCell (by simp) _).setCell (by simp) _).setCell (by simp) _).setCell (by simp) _
theorem APost.none {w w' : World} {s : ByteArray} {a : Nat} (h : recAt s a = Option.none) (hb : Below w.heap.size w w') : APost w s a (.returned noV) w' :=
  APost.no h ⟨_, _, _, _, _, _, _, rfl, hb⟩
theorem A3.start (w : World) : A3 w (((w.alloc (.cells #[.string ⟨#[]⟩, .int .i64 0, .int .i64 0, .int .i64 0] 31)).alloc (.cells #[.int .i64 0, .string ⟨#[]⟩] 53)).alloc (.cells #[.int .i64 0, .string ⟨#[]⟩] 53)) :=
  ⟨((below_alloc1 w _).alloc (by simp) _).alloc (by simp; omega) _, blk_old (blk_old (blk_new w _ _ rfl) _) _, blk_old (blk_new _ _ _ (by simp)) _, blk_new _ _ _ (by simp)⟩

set_option maxRecDepth 100000 in
set_option maxHeartbeats 2000000 in
theorem at_any : IAt := by
  intro s a w hs ha
  have h1 : (s.size : Int) ≤ 20000 := by omega
  have S0 := mkHid (A3.start w)
  by_cases hA : s.size < a + 33
  · have R := mkHid (rec_short hA)
    have hAi : (s.size : Int) < (a : Int) + 33 := by omega
    have hai : (a : Int) ≤ (s.size : Int) := by omega
    go_enter Tryd.func28, Tryd.ntmps28
    go_wp2_with fail
    generalize ((w.alloc (.cells #[.string ⟨#[]⟩, .int .i64 0, .int .i64 0, .int .i64 0] 31)).alloc (.cells #[.int .i64 0, .string ⟨#[]⟩] 53)).alloc (.cells #[.int .i64 0, .string ⟨#[]⟩] 53) = W at *
    obtain ⟨r0, r1, r2, r3⟩ := cel4 S0.out.e0
    obtain ⟨s0, s1⟩ := cel2 S0.out.e1
    obtain ⟨n0, n1⟩ := cel2 S0.out.e2
    have f0 := unfrozen S0.out.e0
    have f1 := unfrozen S0.out.e1
    go_region
    go_wp2
    exact bodyPost_ret (v := noV) (by simp [results, Tryd.results28, go_sem, r0, r1, r2, r3, s0, s1, noV]) rfl (APost.none R.out (S0.out.fin _ _ _ _ _ _))
  · have hal : a < s.size := by omega
    have hAi : (a : Int) + 33 ≤ (s.size : Int) := by omega
    have hai : (a : Int) < (s.size : Int) := by omega
    by_cases hm : s.data.toList[a]? = some 66
    · have hmv : ((s[a].toNat : Int) != 66) = false := by
        have : s[a] = 66 := by
          rw [List.getElem?_eq_some_iff] at hm
          exact hm.2
        rw [this]
        rfl
      have HG1 := mkHid (fun wx => num.spec_any s (a + 33) wx hs (by omega))
      go_enter Tryd.func28, Tryd.ntmps28
      go_wp2_with fail
      generalize ((w.alloc (.cells #[.string ⟨#[]⟩, .int .i64 0, .int .i64 0, .int .i64 0] 31)).alloc (.cells #[.int .i64 0, .string ⟨#[]⟩] 53)).alloc (.cells #[.int .i64 0, .string ⟨#[]⟩] 53) = W at *
      cases hn1 : num.G s (a + 33 : Nat) with
      | error c =>
        have R := mkHid (rec_err1 hn1)
        rw [hn1] at HG1
        simp only [num.out] at HG1
        have hc : (c != 0) = true := by have := G_code hn1; simpa using this
        refine (HG1.out _).mono ?_
        rintro e w1 ⟨rfl, hb1⟩
        have S1 := mkHid ((S0.out.next hb1).next (below_alloc1 w1 (.cells #[.int .i64 0, .int .i64 0, .int .i64 c] 67)))
        clear hb1 S0 HG1 hm hn1
        go_wp2_with fail
        generalize w1.alloc (.cells #[.int .i64 0, .int .i64 0, .int .i64 c] 67) = W1 at *
        obtain ⟨r0, r1, r2, r3⟩ := cel4 S1.out.e0
        obtain ⟨s0, s1⟩ := cel2 S1.out.e1
        obtain ⟨n0, n1⟩ := cel2 S1.out.e2
        have f0 := unfrozen S1.out.e0
        have f1 := unfrozen S1.out.e1
        go_region
        go_wp2
        exact bodyPost_ret (v := noV) (by simp [results, Tryd.results28, go_sem, r0, r1, r2, r3, s0, s1, noV]) rfl (APost.none R.out (S1.out.fin _ _ _ _ _ _))
      | ok x =>
        obtain ⟨k, p⟩ := x
        obtain ⟨P, rfl, hp1, hp2⟩ := G_nat hn1
        rw [hn1] at HG1
        simp only [num.out] at HG1
        refine (HG1.out _).mono ?_
        rintro e w1 ⟨rfl, hb1⟩
        have S1 := mkHid ((S0.out.next hb1).next (below_alloc1 w1 (.cells #[.int .i64 k, .int .i64 P, .int .i64 0] 67)))
        have Z1 := mkHid (blk_new w1 (.cells #[.int .i64 k, .int .i64 P, .int .i64 0] 67) w1.heap.size rfl)
        clear hb1 S0 HG1
        by_cases hk : k = 1 ∨ k = 2
        · rcases hk with rfl | rfl
          · have HG2 := mkHid (fun wx => num.spec_any s P wx hs (by omega))
            go_wp2_with fail
            generalize w1.alloc (.cells #[.int .i64 1, .int .i64 P, .int .i64 0] 67) = W1 at *
            cases hn2 : num.G s (P : Nat) with
            | error c =>
              have R := mkHid (rec_err2 hn1 hn2)
              rw [hn2] at HG2
              simp only [num.out] at HG2
              have hc : (c != 0) = true := by have := G_code hn2; simpa using this
              refine (HG2.out _).mono ?_
              rintro e w2 ⟨rfl, hb2⟩
              have S2 := mkHid ((S1.out.next hb2).next (below_alloc1 w2 (.cells #[.int .i64 0, .int .i64 0, .int .i64 c] 67)))
              clear hb2 S1 HG2 hm hn1 hn2
              go_wp2_with fail
              generalize w2.alloc (.cells #[.int .i64 0, .int .i64 0, .int .i64 c] 67) = W2 at *
              obtain ⟨r0, r1, r2, r3⟩ := cel4 S2.out.e0
              obtain ⟨s0, s1⟩ := cel2 S2.out.e1
              obtain ⟨n0, n1⟩ := cel2 S2.out.e2
              have f0 := unfrozen S2.out.e0
              have f1 := unfrozen S2.out.e1
              go_region
              go_wp2
              exact bodyPost_ret (v := noV) (by simp [results, Tryd.results28, go_sem, r0, r1, r2, r3, s0, s1, noV]) rfl (APost.none R.out (S2.out.fin _ _ _ _ _ _))
            | ok y =>
              obtain ⟨n, q⟩ := y
              obtain ⟨Q, rfl, hq1, hq2⟩ := G_nat hn2
              rw [hn2] at HG2
              simp only [num.out] at HG2
              refine (HG2.out _).mono ?_
              rintro e w2 ⟨rfl, hb2⟩
              have S2 := mkHid ((S1.out.next hb2).next (below_alloc1 w2 (.cells #[.int .i64 n, .int .i64 Q, .int .i64 0] 67)))
              have Z2 := mkHid (And.intro (blk_old (blk_below Z1.out hb2) (.cells #[.int .i64 n, .int .i64 Q, .int .i64 0] 67)) (blk_new w2 (.cells #[.int .i64 n, .int .i64 Q, .int .i64 0] 67) w2.heap.size rfl))
              have Z4 : Hid (w.heap.size + 1 + 1 < w2.heap.size) := mkHid ((Array.getElem?_eq_some_iff.1 (S1.out.next hb2).e2).1)
              clear hb2 S1 HG2 Z1
              have hqi : (Q : Int) ≤ (s.size : Int) := by omega
              by_cases hN : n < 0 ∨ 2000 < n ∨ (s.size : Int) - n < Q
              · have R := mkHid (rec_size hn1 hn2 hN)
                clear hm hn1 hn2
                rcases three hN with g1 | ⟨g1, g2⟩ | ⟨g1, g2, g3⟩
                all_goals clear hN
                all_goals go_wp2_with fail
                all_goals generalize w2.alloc (.cells #[.int .i64 n, .int .i64 Q, .int .i64 0] 67) = W2 at *
                · obtain ⟨r0, r1, r2, r3⟩ := cel4 S2.out.e0
                  obtain ⟨s0, s1⟩ := cel2 S2.out.e1
                  obtain ⟨n0, n1⟩ := cel2 S2.out.e2
                  have f0 := unfrozen S2.out.e0
                  have f1 := unfrozen S2.out.e1
                  go_region
                  go_wp2
                  exact bodyPost_ret (v := noV) (by simp [results, Tryd.results28, go_sem, r0, r1, r2, r3, s0, s1, noV]) rfl (APost.none R.out (S2.out.fin _ _ _ _ _ _))
                · obtain ⟨r0, r1, r2, r3⟩ := cel4 S2.out.e0
                  obtain ⟨s0, s1⟩ := cel2 S2.out.e1
                  obtain ⟨n0, n1⟩ := cel2 S2.out.e2
                  have f0 := unfrozen S2.out.e0
                  have f1 := unfrozen S2.out.e1
                  go_region
                  go_wp2
                  exact bodyPost_ret (v := noV) (by simp [results, Tryd.results28, go_sem, r0, r1, r2, r3, s0, s1, noV]) rfl (APost.none R.out (S2.out.fin _ _ _ _ _ _))
                · obtain ⟨r0, r1, r2, r3⟩ := cel4 S2.out.e0
                  obtain ⟨s0, s1⟩ := cel2 S2.out.e1
                  obtain ⟨n0, n1⟩ := cel2 S2.out.e2
                  have f0 := unfrozen S2.out.e0
                  have f1 := unfrozen S2.out.e1
                  go_region
                  go_wp2
                  exact bodyPost_ret (v := noV) (by simp [results, Tryd.results28, go_sem, r0, r1, r2, r3, s0, s1, noV]) rfl (APost.none R.out (S2.out.fin _ _ _ _ _ _))
              · obtain ⟨N, rfl⟩ : ∃ N : Nat, n = N := ⟨n.toNat, by omega⟩
                have hN1 : (N : Int) ≤ 2000 := by omega
                have hN2 : (Q : Int) ≤ (s.size : Int) - (N : Int) := by omega
                have hN3 : Q + N ≤ s.size := by omega
                clear hN
                have hsl1 := slice_key s a (by omega)
                have hsl2 := slice_is s Q N hN3
                have HX : Hid (∃ tx, tx = s.extract Q (Q + N)) := mkHid ⟨_, rfl⟩
                have hw1 : IntKind.i64.wrap ((Q : Int) + (N : Int)) = (Q : Int) + (N : Int) := by rw [IntKind.wrap_i64]; omega
                have hw2 : IntKind.i64.wrap ((a : Int) + 1) = (a : Int) + 1 := by rw [IntKind.wrap_i64]; omega
                have hw3 : IntKind.i64.wrap ((a : Int) + 33) = (a : Int) + 33 := by rw [IntKind.wrap_i64]; omega
                go_wp2_with fail
                obtain ⟨tx, htx⟩ := HX.out
                rw [← htx] at hsl2
                have HTX := mkHid htx
                clear htx
                have HK := mkHid (fun wx => key_spec 1 tx wx)
                have T0 : Hid (A5 w w1.heap.size w2.heap.size (.cells #[.int .i64 1, .int .i64 P, .int .i64 0] 67) (.cells #[.int .i64 N, .int .i64 Q, .int .i64 0] 67) (w2.alloc (.cells #[.int .i64 N, .int .i64 Q, .int .i64 0] 67))) := mkHid ⟨S2.out, Z2.out.1, Z2.out.2⟩
                generalize w2.alloc (.cells #[.int .i64 N, .int .i64 Q, .int .i64 0] 67) = W2 at *
                have hz2 := Z4.out
                have hz3 : w.heap.size + 1 + 1 < W2.heap.size := (Array.getElem?_eq_some_iff.1 T0.out.a3.e2).1
                generalize w2.heap.size = z2 at *
                generalize w1.heap.size = z1 at *
                clear S2 Z2 Z4
                have c0 := (cel3 T0.out.zk).1
                have c1 := (cel3 T0.out.zn).1
                have c2 := (cel3 T0.out.zn).2.1
                have d0 : ∀ o, (W2.alloc o).cell? ⟨z1, 0, none⟩ = some (.int .i64 1) := fun o => (cel3 (blk_old T0.out.zk o)).1
                have d1 : ∀ o, (W2.alloc o).cell? ⟨z2, 0, none⟩ = some (.int .i64 N) := fun o => (cel3 (blk_old T0.out.zn o)).1
                have d2 : ∀ o, (W2.alloc o).cell? ⟨z2, 1, none⟩ = some (.int .i64 Q) := fun o => (cel3 (blk_old T0.out.zn o)).2.1
                go_region_held3 (fun w' => w'.cell? ⟨z1, 0, none⟩ = some (.int .i64 1) ∧ w'.cell? ⟨z2, 0, none⟩ = some (.int .i64 N) ∧ w'.cell? ⟨z2, 1, none⟩ = some (.int .i64 Q)) (go_keep) ((fail))
                have T1 := mkHid (T0.out.next (below_alloc1 W2 (.cells #[.string (keyAt s a), .int .i64 1, .int .i64 Q, .int .i64 N] 31))).drew
                have X1 : Hid ((W2.alloc (.cells #[.string (keyAt s a), .int .i64 1, .int .i64 Q, .int .i64 N] 31)).drew.heap[W2.heap.size]? = some (.cells #[.string (keyAt s a), .int .i64 1, .int .i64 Q, .int .i64 N] 31)) := mkHid (blk_new W2 (.cells #[.string (keyAt s a), .int .i64 1, .int .i64 Q, .int .i64 N] 31) W2.heap.size rfl)
                generalize (W2.alloc (.cells #[.string (keyAt s a), .int .i64 1, .int .i64 Q, .int .i64 N] 31)).drew = V1 at *
                have hz4 : w.heap.size + 1 + 1 < V1.heap.size := (Array.getElem?_eq_some_iff.1 T1.out.a3.e2).1
                generalize W2.heap.size = z3 at *
                clear c0 c1 c2 d0 d1 d2 T0 hsl1
                have c0 := (cel3 T1.out.zk).1
                have c1 := (cel3 T1.out.zn).1
                have c2 := (cel3 T1.out.zn).2.1
                have d0 : ∀ o, (V1.alloc o).cell? ⟨z1, 0, none⟩ = some (.int .i64 1) := fun o => (cel3 (blk_old T1.out.zk o)).1
                have d1 : ∀ o, (V1.alloc o).cell? ⟨z2, 0, none⟩ = some (.int .i64 N) := fun o => (cel3 (blk_old T1.out.zn o)).1
                have d2 : ∀ o, (V1.alloc o).cell? ⟨z2, 1, none⟩ = some (.int .i64 Q) := fun o => (cel3 (blk_old T1.out.zn o)).2.1
                go_wp2_with fail
                go_region_held3 (fun w' => w'.cell? ⟨z1, 0, none⟩ = some (.int .i64 1) ∧ w'.cell? ⟨z2, 0, none⟩ = some (.int .i64 N) ∧ w'.cell? ⟨z2, 1, none⟩ = some (.int .i64 Q)) (go_keep) ((fail))
                have T2 := mkHid (T1.out.next (below_alloc1 V1 (.cells #[.int .i64 1, .string tx] 53))).drew
                have X2 : Hid ((V1.alloc (.cells #[.int .i64 1, .string tx] 53)).drew.heap[z3]? = some (.cells #[.string (keyAt s a), .int .i64 1, .int .i64 Q, .int .i64 N] 31) ∧ (V1.alloc (.cells #[.int .i64 1, .string tx] 53)).drew.heap[V1.heap.size]? = some (.cells #[.int .i64 1, .string tx] 53)) := mkHid ⟨blk_old X1.out (.cells #[.int .i64 1, .string tx] 53), blk_new V1 (.cells #[.int .i64 1, .string tx] 53) V1.heap.size rfl⟩
                generalize (V1.alloc (.cells #[.int .i64 1, .string tx] 53)).drew = V2 at *
                generalize V1.heap.size = z4 at *
                clear c0 c1 c2 d0 d1 d2 T1 X1 hsl2
                have c0 := (cel3 T2.out.zk).1
                have c1 := (cel3 T2.out.zn).1
                have c2 := (cel3 T2.out.zn).2.1
                obtain ⟨i0, i1, i2, i3⟩ := cel4 X2.out.1
                obtain ⟨j0, j1⟩ := cel2 X2.out.2
                have HR : Hid ((bKey (1, tx) = keyAt s a → recAt s a = some (1, Q, N)) ∧ (¬ bKey (1, tx) = keyAt s a → recAt s a = Option.none)) := mkHid ⟨fun e => rec_ok (by omega) hm hn1 hn2 hN3 (by rw [← HTX.out]; exact e), fun e => rec_key hn1 hn2 (by rw [← HTX.out]; exact e)⟩
                obtain ⟨bb, hbb⟩ : ∃ bb, ((bKey (1, tx)).toList == (keyAt s a).toList) = bb := ⟨_, rfl⟩
                have HRR : Hid ((bb = true → recAt s a = some (1, Q, N)) ∧ (bb = false → recAt s a = Option.none)) := mkHid (txt_both hbb HR.out)
                clear HR hm hn1 hn2
                generalize bKey (1, tx) = bk at *
                have u1 : ¬ (w.heap.size = z2) := by omega
                have u2 : ¬ (w.heap.size = z3) := by omega
                have u3 : ¬ (w.heap.size = z4) := by omega
                have u4 : ¬ (w.heap.size + 1 = z2) := by omega
                have u5 : ¬ (w.heap.size + 1 = z3) := by omega
                have u6 : ¬ (w.heap.size + 1 = z4) := by omega
                clear hz2 hz3 hz4
                go_wp2_with fail
                go_region_held3 (fun w' => w'.cell? ⟨z2, 0, none⟩ = some (.int .i64 N) ∧ w'.cell? ⟨z2, 1, none⟩ = some (.int .i64 Q) ∧ w'.cell? ⟨z3, 0, none⟩ = some (.string (keyAt s a)) ∧ w'.cell? ⟨z3, 1, none⟩ = some (.int .i64 1) ∧ w'.cell? ⟨z3, 2, none⟩ = some (.int .i64 Q) ∧ w'.cell? ⟨z3, 3, none⟩ = some (.int .i64 N) ∧ w'.cell? ⟨z4, 0, none⟩ = some (.int .i64 1) ∧ w'.cell? ⟨z4, 1, none⟩ = some (.string tx)) (go_keep)
                  ((go_at_call 41; refine Calls.mono (HK.out _) ?_; rintro e w5 ⟨rfl, hb5⟩; have hr5 := re (w := V2) hb5 rfl rfl rfl rfl; have T3 := mkHid (T2.out.next hr5); have X3 := mkHid (And.intro (blk_below X2.out.1 hr5) (blk_below X2.out.2 hr5)); have k1 := (cel3 T3.out.zn).1; have k2 := (cel3 T3.out.zn).2.1; obtain ⟨l0, l1, l2, l3⟩ := cel4 X3.out.1; obtain ⟨m0, m1⟩ := cel2 X3.out.2; obtain ⟨r0, r1, r2, r3⟩ := cel4 T3.out.a3.e0; obtain ⟨s0, s1⟩ := cel2 T3.out.a3.e1; have f0 := unfrozen T3.out.a3.e0; have f1 := unfrozen T3.out.a3.e1; clear hb5 hr5))
                have hBel := mkHid (T3.out.a3.fin6 (.string (keyAt s a)) (.int .i64 1) (.int .i64 (Q : Int)) (.int .i64 (N : Int)) (.int .i64 1) (.string tx))
                clear c0 c1 c2 i0 i1 i2 i3 j0 j1 k1 k2 l0 l1 l2 l3 m0 m1
                go_wp2
                exact bodyPost_ret (v := .tuple #[.agg #[.string (keyAt s a), .int .i64 1, .int .i64 (Q : Int), .int .i64 (N : Int)], .agg #[.int .i64 1, .string tx], .int .i64 ((Q : Int) + (N : Int)), .bool bb]) (by simp [results, Tryd.results28, go_sem, r0, r1, r2, r3, s0, s1]) rfl (APost.either HRR.out HTX.out (by omega) hBel.out)
          · have HG2 := mkHid (fun wx => num.spec_any s P wx hs (by omega))
            go_wp2_with fail
            generalize w1.alloc (.cells #[.int .i64 2, .int .i64 P, .int .i64 0] 67) = W1 at *
            cases hn2 : num.G s (P : Nat) with
            | error c =>
              have R := mkHid (rec_err2 hn1 hn2)
              rw [hn2] at HG2
              simp only [num.out] at HG2
              have hc : (c != 0) = true := by have := G_code hn2; simpa using this
              refine (HG2.out _).mono ?_
              rintro e w2 ⟨rfl, hb2⟩
              have S2 := mkHid ((S1.out.next hb2).next (below_alloc1 w2 (.cells #[.int .i64 0, .int .i64 0, .int .i64 c] 67)))
              clear hb2 S1 HG2 hm hn1 hn2
              go_wp2_with fail
              generalize w2.alloc (.cells #[.int .i64 0, .int .i64 0, .int .i64 c] 67) = W2 at *
              obtain ⟨r0, r1, r2, r3⟩ := cel4 S2.out.e0
              obtain ⟨s0, s1⟩ := cel2 S2.out.e1
              obtain ⟨n0, n1⟩ := cel2 S2.out.e2
              have f0 := unfrozen S2.out.e0
              have f1 := unfrozen S2.out.e1
              go_region
              go_wp2
              exact bodyPost_ret (v := noV) (by simp [results, Tryd.results28, go_sem, r0, r1, r2, r3, s0, s1, noV]) rfl (APost.none R.out (S2.out.fin _ _ _ _ _ _))
            | ok y =>
              obtain ⟨n, q⟩ := y
              obtain ⟨Q, rfl, hq1, hq2⟩ := G_nat hn2
              rw [hn2] at HG2
              simp only [num.out] at HG2
              refine (HG2.out _).mono ?_
              rintro e w2 ⟨rfl, hb2⟩
              have S2 := mkHid ((S1.out.next hb2).next (below_alloc1 w2 (.cells #[.int .i64 n, .int .i64 Q, .int .i64 0] 67)))
              have Z2 := mkHid (And.intro (blk_old (blk_below Z1.out hb2) (.cells #[.int .i64 n, .int .i64 Q, .int .i64 0] 67)) (blk_new w2 (.cells #[.int .i64 n, .int .i64 Q, .int .i64 0] 67) w2.heap.size rfl))
              have Z4 : Hid (w.heap.size + 1 + 1 < w2.heap.size) := mkHid ((Array.getElem?_eq_some_iff.1 (S1.out.next hb2).e2).1)
              clear hb2 S1 HG2 Z1
              have hqi : (Q : Int) ≤ (s.size : Int) := by omega
              by_cases hN : n < 0 ∨ 2000 < n ∨ (s.size : Int) - n < Q
              · have R := mkHid (rec_size hn1 hn2 hN)
                clear hm hn1 hn2
                rcases three hN with g1 | ⟨g1, g2⟩ | ⟨g1, g2, g3⟩
                all_goals clear hN
                all_goals go_wp2_with fail
                all_goals generalize w2.alloc (.cells #[.int .i64 n, .int .i64 Q, .int .i64 0] 67) = W2 at *
                · obtain ⟨r0, r1, r2, r3⟩ := cel4 S2.out.e0
                  obtain ⟨s0, s1⟩ := cel2 S2.out.e1
                  obtain ⟨n0, n1⟩ := cel2 S2.out.e2
                  have f0 := unfrozen S2.out.e0
                  have f1 := unfrozen S2.out.e1
                  go_region
                  go_wp2
                  exact bodyPost_ret (v := noV) (by simp [results, Tryd.results28, go_sem, r0, r1, r2, r3, s0, s1, noV]) rfl (APost.none R.out (S2.out.fin _ _ _ _ _ _))
                · obtain ⟨r0, r1, r2, r3⟩ := cel4 S2.out.e0
                  obtain ⟨s0, s1⟩ := cel2 S2.out.e1
                  obtain ⟨n0, n1⟩ := cel2 S2.out.e2
                  have f0 := unfrozen S2.out.e0
                  have f1 := unfrozen S2.out.e1
                  go_region
                  go_wp2
                  exact bodyPost_ret (v := noV) (by simp [results, Tryd.results28, go_sem, r0, r1, r2, r3, s0, s1, noV]) rfl (APost.none R.out (S2.out.fin _ _ _ _ _ _))
                · obtain ⟨r0, r1, r2, r3⟩ := cel4 S2.out.e0
                  obtain ⟨s0, s1⟩ := cel2 S2.out.e1
                  obtain ⟨n0, n1⟩ := cel2 S2.out.e2
                  have f0 := unfrozen S2.out.e0
                  have f1 := unfrozen S2.out.e1
                  go_region
                  go_wp2
                  exact bodyPost_ret (v := noV) (by simp [results, Tryd.results28, go_sem, r0, r1, r2, r3, s0, s1, noV]) rfl (APost.none R.out (S2.out.fin _ _ _ _ _ _))
              · obtain ⟨N, rfl⟩ : ∃ N : Nat, n = N := ⟨n.toNat, by omega⟩
                have hN1 : (N : Int) ≤ 2000 := by omega
                have hN2 : (Q : Int) ≤ (s.size : Int) - (N : Int) := by omega
                have hN3 : Q + N ≤ s.size := by omega
                clear hN
                have hsl1 := slice_key s a (by omega)
                have hsl2 := slice_is s Q N hN3
                have HX : Hid (∃ tx, tx = s.extract Q (Q + N)) := mkHid ⟨_, rfl⟩
                have hw1 : IntKind.i64.wrap ((Q : Int) + (N : Int)) = (Q : Int) + (N : Int) := by rw [IntKind.wrap_i64]; omega
                have hw2 : IntKind.i64.wrap ((a : Int) + 1) = (a : Int) + 1 := by rw [IntKind.wrap_i64]; omega
                have hw3 : IntKind.i64.wrap ((a : Int) + 33) = (a : Int) + 33 := by rw [IntKind.wrap_i64]; omega
                go_wp2_with fail
                obtain ⟨tx, htx⟩ := HX.out
                rw [← htx] at hsl2
                have HTX := mkHid htx
                clear htx
                have HK := mkHid (fun wx => key_spec 2 tx wx)
                have T0 : Hid (A5 w w1.heap.size w2.heap.size (.cells #[.int .i64 2, .int .i64 P, .int .i64 0] 67) (.cells #[.int .i64 N, .int .i64 Q, .int .i64 0] 67) (w2.alloc (.cells #[.int .i64 N, .int .i64 Q, .int .i64 0] 67))) := mkHid ⟨S2.out, Z2.out.1, Z2.out.2⟩
                generalize w2.alloc (.cells #[.int .i64 N, .int .i64 Q, .int .i64 0] 67) = W2 at *
                have hz2 := Z4.out
                have hz3 : w.heap.size + 1 + 1 < W2.heap.size := (Array.getElem?_eq_some_iff.1 T0.out.a3.e2).1
                generalize w2.heap.size = z2 at *
                generalize w1.heap.size = z1 at *
                clear S2 Z2 Z4
                have c0 := (cel3 T0.out.zk).1
                have c1 := (cel3 T0.out.zn).1
                have c2 := (cel3 T0.out.zn).2.1
                have d0 : ∀ o, (W2.alloc o).cell? ⟨z1, 0, none⟩ = some (.int .i64 2) := fun o => (cel3 (blk_old T0.out.zk o)).1
                have d1 : ∀ o, (W2.alloc o).cell? ⟨z2, 0, none⟩ = some (.int .i64 N) := fun o => (cel3 (blk_old T0.out.zn o)).1
                have d2 : ∀ o, (W2.alloc o).cell? ⟨z2, 1, none⟩ = some (.int .i64 Q) := fun o => (cel3 (blk_old T0.out.zn o)).2.1
                go_region_held3 (fun w' => w'.cell? ⟨z1, 0, none⟩ = some (.int .i64 2) ∧ w'.cell? ⟨z2, 0, none⟩ = some (.int .i64 N) ∧ w'.cell? ⟨z2, 1, none⟩ = some (.int .i64 Q)) (go_keep) ((fail))
                have T1 := mkHid (T0.out.next (below_alloc1 W2 (.cells #[.string (keyAt s a), .int .i64 2, .int .i64 Q, .int .i64 N] 31))).drew
                have X1 : Hid ((W2.alloc (.cells #[.string (keyAt s a), .int .i64 2, .int .i64 Q, .int .i64 N] 31)).drew.heap[W2.heap.size]? = some (.cells #[.string (keyAt s a), .int .i64 2, .int .i64 Q, .int .i64 N] 31)) := mkHid (blk_new W2 (.cells #[.string (keyAt s a), .int .i64 2, .int .i64 Q, .int .i64 N] 31) W2.heap.size rfl)
                generalize (W2.alloc (.cells #[.string (keyAt s a), .int .i64 2, .int .i64 Q, .int .i64 N] 31)).drew = V1 at *
                have hz4 : w.heap.size + 1 + 1 < V1.heap.size := (Array.getElem?_eq_some_iff.1 T1.out.a3.e2).1
                generalize W2.heap.size = z3 at *
                clear c0 c1 c2 d0 d1 d2 T0 hsl1
                have c0 := (cel3 T1.out.zk).1
                have c1 := (cel3 T1.out.zn).1
                have c2 := (cel3 T1.out.zn).2.1
                have d0 : ∀ o, (V1.alloc o).cell? ⟨z1, 0, none⟩ = some (.int .i64 2) := fun o => (cel3 (blk_old T1.out.zk o)).1
                have d1 : ∀ o, (V1.alloc o).cell? ⟨z2, 0, none⟩ = some (.int .i64 N) := fun o => (cel3 (blk_old T1.out.zn o)).1
                have d2 : ∀ o, (V1.alloc o).cell? ⟨z2, 1, none⟩ = some (.int .i64 Q) := fun o => (cel3 (blk_old T1.out.zn o)).2.1
                go_wp2_with fail
                go_region_held3 (fun w' => w'.cell? ⟨z1, 0, none⟩ = some (.int .i64 2) ∧ w'.cell? ⟨z2, 0, none⟩ = some (.int .i64 N) ∧ w'.cell? ⟨z2, 1, none⟩ = some (.int .i64 Q)) (go_keep) ((fail))
                have T2 := mkHid (T1.out.next (below_alloc1 V1 (.cells #[.int .i64 2, .string tx] 53))).drew
                have X2 : Hid ((V1.alloc (.cells #[.int .i64 2, .string tx] 53)).drew.heap[z3]? = some (.cells #[.string (keyAt s a), .int .i64 2, .int .i64 Q, .int .i64 N] 31) ∧ (V1.alloc (.cells #[.int .i64 2, .string tx] 53)).drew.heap[V1.heap.size]? = some (.cells #[.int .i64 2, .string tx] 53)) := mkHid ⟨blk_old X1.out (.cells #[.int .i64 2, .string tx] 53), blk_new V1 (.cells #[.int .i64 2, .string tx] 53) V1.heap.size rfl⟩
                generalize (V1.alloc (.cells #[.int .i64 2, .string tx] 53)).drew = V2 at *
                generalize V1.heap.size = z4 at *
                clear c0 c1 c2 d0 d1 d2 T1 X1 hsl2
                have c0 := (cel3 T2.out.zk).1
                have c1 := (cel3 T2.out.zn).1
                have c2 := (cel3 T2.out.zn).2.1
                obtain ⟨i0, i1, i2, i3⟩ := cel4 X2.out.1
                obtain ⟨j0, j1⟩ := cel2 X2.out.2
                have HR : Hid ((bKey (2, tx) = keyAt s a → recAt s a = some (2, Q, N)) ∧ (¬ bKey (2, tx) = keyAt s a → recAt s a = Option.none)) := mkHid ⟨fun e => rec_ok (by omega) hm hn1 hn2 hN3 (by rw [← HTX.out]; exact e), fun e => rec_key hn1 hn2 (by rw [← HTX.out]; exact e)⟩
                obtain ⟨bb, hbb⟩ : ∃ bb, ((bKey (2, tx)).toList == (keyAt s a).toList) = bb := ⟨_, rfl⟩
                have HRR : Hid ((bb = true → recAt s a = some (2, Q, N)) ∧ (bb = false → recAt s a = Option.none)) := mkHid (txt_both hbb HR.out)
                clear HR hm hn1 hn2
                generalize bKey (2, tx) = bk at *
                have u1 : ¬ (w.heap.size = z2) := by omega
                have u2 : ¬ (w.heap.size = z3) := by omega
                have u3 : ¬ (w.heap.size = z4) := by omega
                have u4 : ¬ (w.heap.size + 1 = z2) := by omega
                have u5 : ¬ (w.heap.size + 1 = z3) := by omega
                have u6 : ¬ (w.heap.size + 1 = z4) := by omega
                clear hz2 hz3 hz4
                go_wp2_with fail
                go_region_held3 (fun w' => w'.cell? ⟨z2, 0, none⟩ = some (.int .i64 N) ∧ w'.cell? ⟨z2, 1, none⟩ = some (.int .i64 Q) ∧ w'.cell? ⟨z3, 0, none⟩ = some (.string (keyAt s a)) ∧ w'.cell? ⟨z3, 1, none⟩ = some (.int .i64 2) ∧ w'.cell? ⟨z3, 2, none⟩ = some (.int .i64 Q) ∧ w'.cell? ⟨z3, 3, none⟩ = some (.int .i64 N) ∧ w'.cell? ⟨z4, 0, none⟩ = some (.int .i64 2) ∧ w'.cell? ⟨z4, 1, none⟩ = some (.string tx)) (go_keep)
                  ((go_at_call 41; refine Calls.mono (HK.out _) ?_; rintro e w5 ⟨rfl, hb5⟩; have hr5 := re (w := V2) hb5 rfl rfl rfl rfl; have T3 := mkHid (T2.out.next hr5); have X3 := mkHid (And.intro (blk_below X2.out.1 hr5) (blk_below X2.out.2 hr5)); have k1 := (cel3 T3.out.zn).1; have k2 := (cel3 T3.out.zn).2.1; obtain ⟨l0, l1, l2, l3⟩ := cel4 X3.out.1; obtain ⟨m0, m1⟩ := cel2 X3.out.2; obtain ⟨r0, r1, r2, r3⟩ := cel4 T3.out.a3.e0; obtain ⟨s0, s1⟩ := cel2 T3.out.a3.e1; have f0 := unfrozen T3.out.a3.e0; have f1 := unfrozen T3.out.a3.e1; clear hb5 hr5))
                have hBel := mkHid (T3.out.a3.fin6 (.string (keyAt s a)) (.int .i64 2) (.int .i64 (Q : Int)) (.int .i64 (N : Int)) (.int .i64 2) (.string tx))
                clear c0 c1 c2 i0 i1 i2 i3 j0 j1 k1 k2 l0 l1 l2 l3 m0 m1
                go_wp2
                exact bodyPost_ret (v := .tuple #[.agg #[.string (keyAt s a), .int .i64 2, .int .i64 (Q : Int), .int .i64 (N : Int)], .agg #[.int .i64 2, .string tx], .int .i64 ((Q : Int) + (N : Int)), .bool bb]) (by simp [results, Tryd.results28, go_sem, r0, r1, r2, r3, s0, s1]) rfl (APost.either HRR.out HTX.out (by omega) hBel.out)
        · have R := mkHid (rec_kind hn1 hk)
          have hk1 : (k != 1) = true := by simp; omega
          have hk2 : (k != 2) = true := by simp; omega
          clear hm hn1
          go_wp2_with fail
          generalize w1.alloc (.cells #[.int .i64 k, .int .i64 P, .int .i64 0] 67) = W1 at *
          obtain ⟨r0, r1, r2, r3⟩ := cel4 S1.out.e0
          obtain ⟨s0, s1⟩ := cel2 S1.out.e1
          obtain ⟨n0, n1⟩ := cel2 S1.out.e2
          have f0 := unfrozen S1.out.e0
          have f1 := unfrozen S1.out.e1
          go_region
          go_wp2
          exact bodyPost_ret (v := noV) (by simp [results, Tryd.results28, go_sem, r0, r1, r2, r3, s0, s1, noV]) rfl (APost.none R.out (S1.out.fin _ _ _ _ _ _))
    · have R := mkHid (rec_mark hm)
      have hmv : ((s[a].toNat : Int) != 66) = true := by
        have : s[a] ≠ 66 := fun e => hm (by rw [List.getElem?_eq_getElem (by rw [Array.length_toList]; exact hal)]; exact congrArg some e)
        have h3 : s[a].toNat ≠ 66 := fun e => this (UInt8.toNat_inj.1 (by rw [e]; rfl))
        simp
        omega
      go_enter Tryd.func28, Tryd.ntmps28
      go_wp2_with fail
      generalize ((w.alloc (.cells #[.string ⟨#[]⟩, .int .i64 0, .int .i64 0, .int .i64 0] 31)).alloc (.cells #[.int .i64 0, .string ⟨#[]⟩] 53)).alloc (.cells #[.int .i64 0, .string ⟨#[]⟩] 53) = W at *
      obtain ⟨r0, r1, r2, r3⟩ := cel4 S0.out.e0
      obtain ⟨s0, s1⟩ := cel2 S0.out.e1
      obtain ⟨n0, n1⟩ := cel2 S0.out.e2
      have f0 := unfrozen S0.out.e0
      have f1 := unfrozen S0.out.e1
      go_region
      go_wp2
      exact bodyPost_ret (v := noV) (by simp [results, Tryd.results28, go_sem, r0, r1, r2, r3, s0, s1, noV]) rfl (APost.none R.out (S0.out.fin _ _ _ _ _ _))
end Go.Proofs.YtppjbmmeacmoiaaDoor.pack
