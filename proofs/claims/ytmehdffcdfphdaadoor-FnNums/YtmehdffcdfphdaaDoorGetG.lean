/-
  impl.GetNum answers what 'G' says. Condition: the variable errors.errorType holds what the program lays there.
-/
import Derived.Test.YtmehdffcdfphdaaDoorGetR
import Derived.Test.YtmehdffcdfphdaaDoorGetC
namespace Go.Proofs.YtmehdffcdfphdaaDoor.num
open Go.RowKit
set_option linter.unusedVariables false

theorem read_all (s : ByteArray) (a : Int) (w : World) (hs : s.size ≤ 1048576) (h1 : -9223372036854775808 ≤ a) (h2 : a ≤ 9223372036854775807) :
    Calls Tryd.prog 16 #[.string s, .int .i64 a] w fun e w' => e = .returned (tup (G s a)) ∧ w = w' := by
  by_cases hb : 20000 < s.size
  · have e : G s a = .error 2 := if_pos hb
    rw [e]
    clear e
    go_enter Tryd.func16, Tryd.ntmps16
    go_wp2_with fail
    refine jump.wp_labels (fun _ _ _ => False) (fun _ _ _ => 0) ?_ (fun _ _ _ hF => hF.elim)
    go_wp2_with (go_at_call 23; refine (place_big _ _ _ hb hs).mono ?_; rintro e w' ⟨rfl, rfl⟩)
    simp only [jump.Jumps]
    go_ret3
    exact ⟨rfl, rfl⟩
  by_cases hn : a < 0
  · have e : G s a = .error 1 := by unfold G; rw [if_neg hb, if_pos hn]
    rw [e]
    clear e
    go_enter Tryd.func16, Tryd.ntmps16
    go_wp2_with fail
    refine jump.wp_labels (fun _ _ _ => False) (fun _ _ _ => 0) ?_ (fun _ _ _ hF => hF.elim)
    go_wp2_with (go_at_call 23; refine (place_neg _ _ _ (by omega) hn).mono ?_; rintro e w' ⟨rfl, rfl⟩)
    simp only [jump.Jumps]
    go_ret3
    exact ⟨rfl, rfl⟩
  · obtain ⟨k, rfl⟩ := Int.eq_ofNat_of_zero_le (show 0 ≤ a by omega)
    exact read_any s k w (by omega) h2

theorem get_any (s : ByteArray) (a : Int) (w : World) (hs : s.size ≤ 1048576) (h1 : -9223372036854775808 ≤ a) (h2 : a ≤ 9223372036854775807) (hg : w.cell? ⟨0, 0, none⟩ = some (as.rt 41)) :
    Calls Tryd.prog 7 #[.string s, .int .i64 a] w fun e w' => e = .returned (out (G s a)) ∧ Below w.heap.size w w' := by
  have HR := mkHid (fun wx => read_all s a wx hs h1 h2)
  cases hG : G s a with
  | error c =>
    rw [hG] at HR
    clear hG
    have hlt : 0 < w.heap.size := as.lt_of_cell hg
    have hgA : (w.alloc (.cells #[.int .i64 0, .int .i64 0, .int .i64 0] 26)).cell? ⟨0, 0, none⟩ = some (as.rt 41) := by rw [World.cell?_alloc_lt _ _ ⟨0, 0, none⟩ hlt]; exact hg
    clear h1 h2 hs
    go_enter Tryd.func7, Tryd.ntmps7
    go_wp2_with fail
    refine (HR.out _).mono ?_
    rintro e w' ⟨rfl, rfl⟩
    unfold tup
    go_wp2_with fail
    refine (as.code_any c _ hgA).mono ?_
    rintro e w1 ⟨rfl, hb1⟩
    have hz := hb1.size
    simp only [World.size_alloc] at hz
    have c0 : w1.cell? ⟨w.heap.size, 0, none⟩ = some (.int .i64 0) := (hb1.cell (by simp)).trans (by simp)
    have c1 : w1.cell? ⟨w.heap.size, 1, none⟩ = some (.int .i64 0) := (hb1.cell (by simp)).trans (by simp)
    have c2 : w1.cell? ⟨w.heap.size, 2, none⟩ = some (.int .i64 0) := (hb1.cell (by simp)).trans (by simp)
    have hf : ∀ j, w1.frozen? ⟨w.heap.size, j, none⟩ = false := fun j => (hb1.frozen (by simp)).trans (by simp)
    have hB := mkHid (((Below.refl w.heap.size w).alloc (Nat.le_refl _) (.cells #[.int .i64 0, .int .i64 0, .int .i64 0] 26)).trans (hb1.mono (by simp)))
    clear hb1 hgA hg
    go_wp2
    exact bodyPost_ret (v := .agg #[.int .i64 0, .int .i64 0, .int .i64 c]) (by simp [results, Tryd.results7, go_sem, c0, c1, c2]) rfl ⟨rfl, by repeat (first | exact hB.out | refine Below.setCell ?_ (by simp) _)⟩
  | ok r =>
    obtain ⟨n, p⟩ := r
    rw [hG] at HR
    clear hG
    clear h1 h2 hs
    go_enter Tryd.func7, Tryd.ntmps7
    go_wp2_with fail
    refine (HR.out _).mono ?_
    rintro e w' ⟨rfl, rfl⟩
    unfold tup
    go_wp2
    exact bodyPost_ret (v := .agg #[.int .i64 n, .int .i64 p, .int .i64 0]) (by simp [results, Tryd.results7, go_sem]) rfl ⟨rfl, (Below.refl _ _).alloc (Nat.le_refl _) _⟩

end Go.Proofs.YtmehdffcdfphdaaDoor.num
