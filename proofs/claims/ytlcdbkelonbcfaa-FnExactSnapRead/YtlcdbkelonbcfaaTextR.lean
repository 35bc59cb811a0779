/-
  impl.readText answers what 'T' says. No condition but that the text has at most 1,048,576 bytes.
-/
import Derived.Test.YtlcdbkelonbcfaaTextP
import Derived.Laws.DeepStrings4
namespace Go.Proofs.Ytlcdbkelonbcfaa.num
open Go.RowKit
set_option linter.unusedVariables false

def ttup : Except Int (ByteArray × Int) → Value
  | .error c => .tuple #[.string ⟨#[]⟩, .int .i64 0, .iface 136 (.agg #[.int .i64 c])]
  | .ok (t, p) => .tuple #[.string t, .int .i64 p, .nilIface]

theorem part_size (s : ByteArray) (i j : Nat) : (s.extract i j).size ≤ s.size := by
  rw [ByteArray.size_extract]
  omega

set_option maxRecDepth 100000 in
set_option maxHeartbeats 1000000 in
theorem rtext_any (s : ByteArray) (a : Int) (w : World) (hs : s.size ≤ 1048576) (h1 : -9223372036854775808 ≤ a) (h2 : a ≤ 9223372036854775807) :
    Calls Try.prog 87 #[.string s, .int .i64 a] w fun e w' => e = .returned (ttup (T s a)) ∧ Below w.heap.size w w' := by
  have HR := mkHid (fun wx => read_all s a wx hs h1 h2)
  clear h1 h2
  cases hG : G s a with
  | error c =>
    rw [T_err hG]
    rw [hG] at HR
    clear hG
    go_enter Try.func87, Try.ntmps87
    go_wp2_with fail
    refine (HR.out _).mono ?_
    rintro e w' ⟨rfl, rfl⟩
    unfold tup
    go_wp2
    go_ret3
    exact ⟨rfl, Below.refl _ _⟩
  | ok r =>
    obtain ⟨n, p⟩ := r
    have hp := G_pos hG
    obtain ⟨hs2, ha0, hp1, hp2⟩ := hp
    rw [hG] at HR
    by_cases hn : n < 0 ∨ 20000 < n
    · rw [T_three hG hn]
      clear hG
      rcases hn with hn | hn
      all_goals
        go_enter Try.func87, Try.ntmps87
        go_wp2_with fail
        refine (HR.out _).mono ?_
        rintro e w' ⟨rfl, rfl⟩
        unfold tup
        go_wp2
        go_ret3
        exact ⟨rfl, Below.refl _ _⟩
    · have hn0 : 0 ≤ n := by omega
      have hn1 : n ≤ 20000 := by omega
      by_cases hq : (s.size : Int) - n < p
      · rw [T_four hG hn hq]
        clear hG hn
        have hq1 : (s.size : Int) - p < n := by omega
        go_enter Try.func87, Try.ntmps87
        go_wp2_with fail
        refine (HR.out _).mono ?_
        rintro e w' ⟨rfl, rfl⟩
        unfold tup
        go_wp2
        go_ret3
        exact ⟨rfl, Below.refl _ _⟩
      · rw [T_ok hG hn hq]
        clear hG hn
        have hq1 : n ≤ (s.size : Int) - p := by omega
        have hq2 : p + n ≤ (s.size : Int) := by omega
        have hp0 : 0 ≤ p := by omega
        have hsl : ∀ wx, (Instr.slice 9 (.string s) (some (.int .i64 p)) (some (.int .i64 (p + n))) none).run Try.prog wx = .ok (.string (s.extract p.toNat (p + n).toNat)) wx := fun wx => by
          rw [run_slice_string_if wx 9 s .i64 .i64 p (p + n) Try.underlying9, if_pos ⟨by omega, by omega⟩, if_pos ⟨by omega, by omega⟩]
        have hx := part_size s p.toNat (p + n).toNat
        have HX := mkHid (show (s.extract p.toNat (p + n).toNat).size ≤ 20000 by omega)
        clear hx
        go_enter Try.func87, Try.ntmps87
        go_wp2_with fail
        refine (HR.out _).mono ?_
        rintro e w' ⟨rfl, rfl⟩
        unfold tup
        go_wp2_with fail
        refine (clone.clone_any _ _ (Nat.le_trans HX.out (by omega))).mono ?_
        rintro e w1 ⟨rfl, hb1⟩
        go_wp2
        go_ret3
        exact ⟨rfl, hb1⟩
end Go.Proofs.Ytlcdbkelonbcfaa.num
