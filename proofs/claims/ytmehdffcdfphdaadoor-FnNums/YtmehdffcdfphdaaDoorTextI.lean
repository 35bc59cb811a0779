/-
  impl.GetText answers what 'T' says, and the law of GetText. Condition: the variable errors.errorType holds what the program lays there.
-/
import Derived.Test.YtmehdffcdfphdaaDoorTextP
import Derived.Laws.DeepStrings4
namespace Go.Proofs.YtmehdffcdfphdaaDoor.num
open Go.RowKit
set_option linter.unusedVariables false

def ttup : Except Int (ByteArray × Int) → Value
  | .error c => .tuple #[.string ⟨#[]⟩, .int .i64 0, .iface 54 (.agg #[.int .i64 c])]
  | .ok (t, p) => .tuple #[.string t, .int .i64 p, .nilIface]

theorem part_size (s : ByteArray) (i j : Nat) : (s.extract i j).size ≤ s.size := by
  rw [ByteArray.size_extract]
  omega

set_option maxRecDepth 100000 in
set_option maxHeartbeats 1000000 in
theorem rtext_any (s : ByteArray) (a : Int) (w : World) (hs : s.size ≤ 1048576) (h1 : -9223372036854775808 ≤ a) (h2 : a ≤ 9223372036854775807) :
    Calls Tryd.prog 21 #[.string s, .int .i64 a] w fun e w' => e = .returned (ttup (T s a)) ∧ Below w.heap.size w w' := by
  have HR := mkHid (fun wx => read_all s a wx hs h1 h2)
  clear h1 h2
  cases hG : G s a with
  | error c =>
    rw [T_err hG]
    rw [hG] at HR
    clear hG
    go_enter Tryd.func21, Tryd.ntmps21
    go_wp2_with fail
    refine (HR.out _).mono ?_
    rintro e w' ⟨rfl, rfl⟩
    unfold tup
    go_wp2
    go_ret3
    exact ⟨rfl, Below.refl _ _⟩
  | ok r =>
    obtain ⟨n, p⟩ := r
    have hp := G_pos hG
    obtain ⟨hs2, ha0, hp1, hp2⟩ := hp
    rw [hG] at HR
    by_cases hn : n < 0 ∨ 20000 < n
    · rw [T_three hG hn]
      clear hG
      rcases hn with hn | hn
      all_goals
        go_enter Tryd.func21, Tryd.ntmps21
        go_wp2_with fail
        refine (HR.out _).mono ?_
        rintro e w' ⟨rfl, rfl⟩
        unfold tup
        go_wp2
        go_ret3
        exact ⟨rfl, Below.refl _ _⟩
    · have hn0 : 0 ≤ n := by omega
      have hn1 : n ≤ 20000 := by omega
      by_cases hq : (s.size : Int) - n < p
      · rw [T_four hG hn hq]
        clear hG hn
        have hq1 : (s.size : Int) - p < n := by omega
        go_enter Tryd.func21, Tryd.ntmps21
        go_wp2_with fail
        refine (HR.out _).mono ?_
        rintro e w' ⟨rfl, rfl⟩
        unfold tup
        go_wp2
        go_ret3
        exact ⟨rfl, Below.refl _ _⟩
      · rw [T_ok hG hn hq]
        clear hG hn
        have hq1 : n ≤ (s.size : Int) - p := by omega
        have hq2 : p + n ≤ (s.size : Int) := by omega
        have hp0 : 0 ≤ p := by omega
        have hsl : ∀ wx, (Instr.slice 9 (.string s) (some (.int .i64 p)) (some (.int .i64 (p + n))) none).run Tryd.prog wx = .ok (.string (s.extract p.toNat (p + n).toNat)) wx := fun wx => by
          rw [run_slice_string_if wx 9 s .i64 .i64 p (p + n) Tryd.underlying9, if_pos ⟨by omega, by omega⟩, if_pos ⟨by omega, by omega⟩]
        have hx := part_size s p.toNat (p + n).toNat
        have HX := mkHid (show (s.extract p.toNat (p + n).toNat).size ≤ 20000 by omega)
        clear hx
        go_enter Tryd.func21, Tryd.ntmps21
        go_wp2_with fail
        refine (HR.out _).mono ?_
        rintro e w' ⟨rfl, rfl⟩
        unfold tup
        go_wp2_with fail
        refine (clone.clone_any _ _ HX.out).mono ?_
        rintro e w1 ⟨rfl, hb1⟩
        go_wp2
        go_ret3
        exact ⟨rfl, hb1⟩

theorem gtext_any (s : ByteArray) (a : Int) (w : World) (hs : s.size ≤ 1048576) (h1 : -9223372036854775808 ≤ a) (h2 : a ≤ 9223372036854775807) (hg : w.cell? ⟨0, 0, none⟩ = some (as.rt 41)) :
    Calls Tryd.prog 11 #[.string s, .int .i64 a] w fun e w' => e = .returned (tout (T s a)) ∧ Below w.heap.size w w' := by
  have HR := mkHid (fun wx => rtext_any s a wx hs h1 h2)
  have hlt0 : 0 < w.heap.size := as.lt_of_cell hg
  clear h1 h2 hs
  cases hT : T s a with
  | error c =>
    rw [hT] at HR
    clear hT
    unfold ttup at HR
    have Hg := mkHid hg
    clear hg
    go_enter Tryd.func11, Tryd.ntmps11
    go_wp2_with fail
    refine (HR.out _).mono ?_
    rintro e w1 ⟨rfl, hb1⟩
    have hgA : Hid (w1.cell? ⟨0, 0, none⟩ = some (as.rt 41)) := mkHid ((hb1.cell (by simp)).trans (by rw [World.cell?_alloc_lt _ _ ⟨0, 0, none⟩ hlt0]; exact Hg.out))
    go_wp2_with fail
    refine (as.code_any c _ hgA.out).mono ?_
    rintro e w2 ⟨rfl, hb2⟩
    have hb1' := hb1.trans (hb2.mono hb1.size)
    clear hb1 hb2 hgA Hg
    have hb1 := hb1'
    clear hb1'
    have hz := hb1.size
    simp only [World.size_alloc] at hz
    have c0 : w2.cell? ⟨w.heap.size, 0, none⟩ = some (.string ⟨#[]⟩) := (hb1.cell (by simp)).trans (by simp)
    have c1 : w2.cell? ⟨w.heap.size, 1, none⟩ = some (.int .i64 0) := (hb1.cell (by simp)).trans (by simp)
    have c2 : w2.cell? ⟨w.heap.size, 2, none⟩ = some (.int .i64 0) := (hb1.cell (by simp)).trans (by simp)
    have hf : ∀ j, w2.frozen? ⟨w.heap.size, j, none⟩ = false := fun j => (hb1.frozen (by simp)).trans (by simp)
    have hlt : w.heap.size < w2.heap.size := by omega
    have hB := mkHid (((Below.refl w.heap.size w).alloc (Nat.le_refl _) (.cells #[.string ⟨#[]⟩, .int .i64 0, .int .i64 0] 31)).trans (hb1.mono (by simp)))
    clear hb1 hz

    go_wp2
    exact bodyPost_ret (v := .agg #[.string ⟨#[]⟩, .int .i64 0, .int .i64 c]) (by simp [results, Tryd.results11, go_sem, c0, c1, c2]) rfl ⟨rfl, by repeat (first | exact hB.out | refine Below.setCell ?_ (by simp) _ | refine Below.alloc ?_ (by simp; omega) _ | refine Below.drew ?_)⟩
  | ok r =>
    obtain ⟨t, p⟩ := r
    rw [hT] at HR
    clear hT hg
    unfold ttup at HR
    go_enter Tryd.func11, Tryd.ntmps11
    go_wp2_with fail
    refine (HR.out _).mono ?_
    rintro e w1 ⟨rfl, hb1⟩
    have hz := hb1.size
    simp only [World.size_alloc] at hz
    have c0 : w1.cell? ⟨w.heap.size, 0, none⟩ = some (.string ⟨#[]⟩) := (hb1.cell (by simp)).trans (by simp)
    have c1 : w1.cell? ⟨w.heap.size, 1, none⟩ = some (.int .i64 0) := (hb1.cell (by simp)).trans (by simp)
    have c2 : w1.cell? ⟨w.heap.size, 2, none⟩ = some (.int .i64 0) := (hb1.cell (by simp)).trans (by simp)
    have hf : ∀ j, w1.frozen? ⟨w.heap.size, j, none⟩ = false := fun j => (hb1.frozen (by simp)).trans (by simp)
    have hlt : w.heap.size < w1.heap.size := by omega
    have hB := mkHid (((Below.refl w.heap.size w).alloc (Nat.le_refl _) (.cells #[.string ⟨#[]⟩, .int .i64 0, .int .i64 0] 31)).trans (hb1.mono (by simp)))
    clear hb1 hz

    go_wp2
    exact bodyPost_ret (v := .agg #[.string t, .int .i64 p, .int .i64 0]) (by simp [results, Tryd.results11, go_sem, c0, c1, c2]) rfl ⟨rfl, by repeat (first | exact hB.out | refine Below.setCell ?_ (by simp) _ | refine Below.alloc ?_ (by simp; omega) _ | refine Below.drew ?_)⟩

end Go.Proofs.YtmehdffcdfphdaaDoor.num
