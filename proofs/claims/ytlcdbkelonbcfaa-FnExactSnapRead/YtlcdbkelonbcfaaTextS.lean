/-
  spec.GetText answers what 'T' says. No condition but that the text has at most 1,048,576 bytes.
-/
import Derived.Test.YtlcdbkelonbcfaaTextP
import Derived.Laws.DeepStrings4
namespace Go.Proofs.Ytlcdbkelonbcfaa.num
open Go.RowKit
set_option linter.unusedVariables false

theorem spec_all (s : ByteArray) (a : Int) (w : World) (hs : s.size ≤ 1048576) (h1 : -9223372036854775808 ≤ a) (h2 : a ≤ 9223372036854775807) :
    Calls Try.prog 104 #[.string s, .int .i64 a] w fun e w' => e = .returned (out (G s a)) ∧ Below w.heap.size w w' := by
  by_cases hb : 20000 < s.size
  · exact spec_big s a w hb hs
  by_cases hn : a < 0
  · exact spec_neg s a w (by omega) hn
  · obtain ⟨k, rfl⟩ := Int.eq_ofNat_of_zero_le (show 0 ≤ a by omega)
    exact spec_any s k w (by omega) h2
set_option maxRecDepth 100000 in
set_option maxHeartbeats 1000000 in
theorem stext_any (s : ByteArray) (a : Int) (w : World) (hs : s.size ≤ 1048576) (h1 : -9223372036854775808 ≤ a) (h2 : a ≤ 9223372036854775807) :
    Calls Try.prog 103 #[.string s, .int .i64 a] w fun e w' => e = .returned (tout (T s a)) ∧ Below w.heap.size w w' := by
  have HS := mkHid (fun wx => spec_all s a wx hs h1 h2)
  clear h1 h2
  cases hG : G s a with
  | error c =>
    rw [T_err hG]
    rw [hG] at HS
    have hc := G_code hG
    clear hG
    have hc' : (c != 0) = true := by simp; omega
    unfold out at HS
    go_enter Try.func103, Try.ntmps103
    go_wp2_with fail
    refine (HS.out _).mono ?_
    rintro e w1 ⟨rfl, hb1⟩
    have hz := hb1.size
    simp only [World.size_alloc] at hz
    have c0 : w1.cell? ⟨w.heap.size, 0, none⟩ = some (.string ⟨#[]⟩) := (hb1.cell (by simp)).trans (by simp)
    have c1 : w1.cell? ⟨w.heap.size, 1, none⟩ = some (.int .i64 0) := (hb1.cell (by simp)).trans (by simp)
    have c2 : w1.cell? ⟨w.heap.size, 2, none⟩ = some (.int .i64 0) := (hb1.cell (by simp)).trans (by simp)
    have hf : ∀ j, w1.frozen? ⟨w.heap.size, j, none⟩ = false := fun j => (hb1.frozen (by simp)).trans (by simp)
    have hlt : w.heap.size < w1.heap.size := by omega
    have hB := mkHid (((Below.refl w.heap.size w).alloc (Nat.le_refl _) (.cells #[.string ⟨#[]⟩, .int .i64 0, .int .i64 0] 130)).trans (hb1.mono (by simp)))
    clear hb1 hz

    go_wp2
    exact bodyPost_ret (v := .agg #[.string ⟨#[]⟩, .int .i64 0, .int .i64 c]) (by simp [results, Try.results103, go_sem, c0, c1, c2, hlt]) rfl ⟨rfl, by repeat (first | exact hB.out | refine Below.setCell ?_ (by simp) _ | refine Below.alloc ?_ (by simp; omega) _ | refine Below.drew ?_)⟩
  | ok r =>
    obtain ⟨n, p⟩ := r
    have hp := G_pos hG
    obtain ⟨hs2, ha0, hp1, hp2⟩ := hp
    rw [hG] at HS
    unfold out at HS
    by_cases hn : n < 0 ∨ 20000 < n
    · rw [T_three hG hn]
      clear hG
      rcases hn with hn | hn
      all_goals
        go_enter Try.func103, Try.ntmps103
        go_wp2_with fail
        refine (HS.out _).mono ?_
        rintro e w1 ⟨rfl, hb1⟩
        have hz := hb1.size
        simp only [World.size_alloc] at hz
        have c0 : w1.cell? ⟨w.heap.size, 0, none⟩ = some (.string ⟨#[]⟩) := (hb1.cell (by simp)).trans (by simp)
        have c1 : w1.cell? ⟨w.heap.size, 1, none⟩ = some (.int .i64 0) := (hb1.cell (by simp)).trans (by simp)
        have c2 : w1.cell? ⟨w.heap.size, 2, none⟩ = some (.int .i64 0) := (hb1.cell (by simp)).trans (by simp)
        have hf : ∀ j, w1.frozen? ⟨w.heap.size, j, none⟩ = false := fun j => (hb1.frozen (by simp)).trans (by simp)
        have hlt : w.heap.size < w1.heap.size := by omega
        have hB := mkHid (((Below.refl w.heap.size w).alloc (Nat.le_refl _) (.cells #[.string ⟨#[]⟩, .int .i64 0, .int .i64 0] 130)).trans (hb1.mono (by simp)))
        clear hb1 hz

        go_wp2
        exact bodyPost_ret (v := .agg #[.string ⟨#[]⟩, .int .i64 0, .int .i64 3]) (by simp [results, Try.results103, go_sem, c0, c1, c2, hlt]) rfl ⟨rfl, by repeat (first | exact hB.out | refine Below.setCell ?_ (by simp) _ | refine Below.alloc ?_ (by simp; omega) _ | refine Below.drew ?_)⟩
    · have hn0 : 0 ≤ n := by omega
      have hn1 : n ≤ 20000 := by omega
      by_cases hq : (s.size : Int) - n < p
      · rw [T_four hG hn hq]
        clear hG hn
        go_enter Try.func103, Try.ntmps103
        go_wp2_with fail
        refine (HS.out _).mono ?_
        rintro e w1 ⟨rfl, hb1⟩
        have hz := hb1.size
        simp only [World.size_alloc] at hz
        have c0 : w1.cell? ⟨w.heap.size, 0, none⟩ = some (.string ⟨#[]⟩) := (hb1.cell (by simp)).trans (by simp)
        have c1 : w1.cell? ⟨w.heap.size, 1, none⟩ = some (.int .i64 0) := (hb1.cell (by simp)).trans (by simp)
        have c2 : w1.cell? ⟨w.heap.size, 2, none⟩ = some (.int .i64 0) := (hb1.cell (by simp)).trans (by simp)
        have hf : ∀ j, w1.frozen? ⟨w.heap.size, j, none⟩ = false := fun j => (hb1.frozen (by simp)).trans (by simp)
        have hlt : w.heap.size < w1.heap.size := by omega
        have hB := mkHid (((Below.refl w.heap.size w).alloc (Nat.le_refl _) (.cells #[.string ⟨#[]⟩, .int .i64 0, .int .i64 0] 130)).trans (hb1.mono (by simp)))
        clear hb1 hz

        go_wp2
        exact bodyPost_ret (v := .agg #[.string ⟨#[]⟩, .int .i64 0, .int .i64 4]) (by simp [results, Try.results103, go_sem, c0, c1, c2, hlt]) rfl ⟨rfl, by repeat (first | exact hB.out | refine Below.setCell ?_ (by simp) _ | refine Below.alloc ?_ (by simp; omega) _ | refine Below.drew ?_)⟩
      · rw [T_ok hG hn hq]
        clear hG hn
        have hq1 : p ≤ (s.size : Int) - n := by omega
        have hq2 : p + n ≤ (s.size : Int) := by omega
        have hp0 : 0 ≤ p := by omega
        have hsl : ∀ wx, (Instr.slice 9 (.string s) (some (.int .i64 p)) (some (.int .i64 (p + n))) none).run Try.prog wx = .ok (.string (s.extract p.toNat (p + n).toNat)) wx := fun wx => by
          rw [run_slice_string_if wx 9 s .i64 .i64 p (p + n) Try.underlying9, if_pos ⟨by omega, by omega⟩, if_pos ⟨by omega, by omega⟩]
        have hwr : IntKind.i64.wrap (p + n) = p + n := by simp [IntKind.wrap, IntKind.bits, IntKind.signed]; omega
        go_enter Try.func103, Try.ntmps103
        go_wp2_with fail
        refine (HS.out _).mono ?_
        rintro e w1 ⟨rfl, hb1⟩
        have hz := hb1.size
        simp only [World.size_alloc] at hz
        have c0 : w1.cell? ⟨w.heap.size, 0, none⟩ = some (.string ⟨#[]⟩) := (hb1.cell (by simp)).trans (by simp)
        have c1 : w1.cell? ⟨w.heap.size, 1, none⟩ = some (.int .i64 0) := (hb1.cell (by simp)).trans (by simp)
        have c2 : w1.cell? ⟨w.heap.size, 2, none⟩ = some (.int .i64 0) := (hb1.cell (by simp)).trans (by simp)
        have hf : ∀ j, w1.frozen? ⟨w.heap.size, j, none⟩ = false := fun j => (hb1.frozen (by simp)).trans (by simp)
        have hlt : w.heap.size < w1.heap.size := by omega
        have hB := mkHid (((Below.refl w.heap.size w).alloc (Nat.le_refl _) (.cells #[.string ⟨#[]⟩, .int .i64 0, .int .i64 0] 130)).trans (hb1.mono (by simp)))
        clear hb1 hz

        go_wp2
        go_region
        all_goals go_wp2
        all_goals exact bodyPost_ret (v := .agg #[.string (s.extract p.toNat (p + n).toNat), .int .i64 (p + n), .int .i64 0]) (by simp [results, Try.results103, go_sem, c0, c1, c2, hlt]) rfl ⟨rfl, by repeat (first | exact hB.out | refine Below.setCell ?_ (by simp) _ | refine Below.alloc ?_ (by simp; omega) _ | refine Below.drew ?_)⟩

end Go.Proofs.Ytlcdbkelonbcfaa.num
