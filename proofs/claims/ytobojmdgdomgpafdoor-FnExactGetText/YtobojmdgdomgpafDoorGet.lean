/-
  impl.GetNum answers what 'G' says. Condition: the variable errors.errorType holds what the program lays there.
-/
import Derived.Test.YtobojmdgdomgpafDoorRead
import Derived.Test.YtobojmdgdomgpafDoorCode
namespace Go.Proofs.YtobojmdgdomgpafDoor.num
open Go.RowKit
set_option linter.unusedVariables false

theorem read_all (s : ByteArray) (a : Int) (w : World) (hs : s.size ≤ 1048576) (h1 : -9223372036854775808 ≤ a) (h2 : a ≤ 9223372036854775807) :
    Calls Tryd.prog 11 #[.string s, .int .i64 a] w fun e w' => e = .returned (tup (G s a)) ∧ w = w' := by
  by_cases hb : 20000 < s.size
  · have e : G s a = .error 2 := if_pos hb
    rw [e]
    clear e
    go_enter Tryd.func11, Tryd.ntmps11
    go_wp2_with fail
    refine jump.wp_labels (fun _ _ _ => False) (fun _ _ _ => 0) ?_ (fun _ _ _ hF => hF.elim)
    go_wp2_with (go_at_call 14; refine (place_big _ _ _ hb hs).mono ?_; rintro e w' ⟨rfl, rfl⟩)
    simp only [jump.Jumps]
    go_ret3
    exact ⟨rfl, rfl⟩
  by_cases hn : a < 0
  · have e : G s a = .error 1 := by unfold G; rw [if_neg hb, if_pos hn]
    rw [e]
    clear e
    go_enter Tryd.func11, Tryd.ntmps11
    go_wp2_with fail
    refine jump.wp_labels (fun _ _ _ => False) (fun _ _ _ => 0) ?_ (fun _ _ _ hF => hF.elim)
    go_wp2_with (go_at_call 14; refine (place_neg _ _ _ (by omega) hn).mono ?_; rintro e w' ⟨rfl, rfl⟩)
    simp only [jump.Jumps]
    go_ret3
    exact ⟨rfl, rfl⟩
  · obtain ⟨k, rfl⟩ := Int.eq_ofNat_of_zero_le (show 0 ≤ a by omega)
    exact read_any s k w (by omega) h2

theorem get_any (s : ByteArray) (a : Int) (w : World) (hs : s.size ≤ 1048576) (h1 : -9223372036854775808 ≤ a) (h2 : a ≤ 9223372036854775807) (hg : w.cell? ⟨0, 0, none⟩ = some (as.rt 34)) :
    Calls Tryd.prog 6 #[.string s, .int .i64 a] w fun e w' => e = .returned (out (G s a)) ∧ Below w.heap.size w w' := by
  have HR := mkHid (fun wx => read_all s a wx hs h1 h2)
  cases hG : G s a with
  | error c =>
    rw [hG] at HR
    clear hG
    have hlt : 0 < w.heap.size := as.lt_of_cell hg
    have hgA : (w.alloc (.cells #[.int .i64 0, .int .i64 0, .int .i64 0] 23)).cell? ⟨0, 0, none⟩ = some (as.rt 34) := by rw [World.cell?_alloc_lt _ _ ⟨0, 0, none⟩ hlt]; exact hg
    clear h1 h2 hs
    go_enter Tryd.func6, Tryd.ntmps6
    go_wp2_with fail
    refine (HR.out _).mono ?_
    rintro e w' ⟨rfl, rfl⟩
    unfold tup
    go_wp2_with fail
    refine (as.code_any c _ hgA).mono ?_
    rintro e w1 ⟨rfl, hb1⟩
    have hz := hb1.size
    simp only [World.size_alloc] at hz
    have c0 : w1.cell? ⟨w.heap.size, 0, none⟩ = some (.int .i64 0) := (hb1.cell (by simp)).trans (by simp)
    have c1 : w1.cell? ⟨w.heap.size, 1, none⟩ = some (.int .i64 0) := (hb1.cell (by simp)).trans (by simp)
    have c2 : w1.cell? ⟨w.heap.size, 2, none⟩ = some (.int .i64 0) := (hb1.cell (by simp)).trans (by simp)
    have hf : ∀ j, w1.frozen? ⟨w.heap.size, j, none⟩ = false := fun j => (hb1.frozen (by simp)).trans (by simp)
    have hB := mkHid (((Below.refl w.heap.size w).alloc (Nat.le_refl _) (.cells #[.int .i64 0, .int .i64 0, .int .i64 0] 23)).trans (hb1.mono (by simp)))
    clear hb1 hgA hg
    go_wp2
    exact bodyPost_ret (v := .agg #[.int .i64 0, .int .i64 0, .int .i64 c]) (by simp [results, Tryd.results6, go_sem, c0, c1, c2]) rfl ⟨rfl, by repeat (first | exact hB.out | refine Below.setCell ?_ (by simp) _)⟩
  | ok r =>
    obtain ⟨n, p⟩ := r
    rw [hG] at HR
    clear hG
    clear h1 h2 hs
    go_enter Tryd.func6, Tryd.ntmps6
    go_wp2_with fail
    refine (HR.out _).mono ?_
    rintro e w' ⟨rfl, rfl⟩
    unfold tup
    go_wp2
    exact bodyPost_ret (v := .agg #[.int .i64 n, .int .i64 p, .int .i64 0]) (by simp [results, Tryd.results6, go_sem]) rfl ⟨rfl, (Below.refl _ _).alloc (Nat.le_refl _) _⟩

theorem spec_all (s : ByteArray) (a : Int) (w : World) (hs : s.size ≤ 1048576) (h1 : -9223372036854775808 ≤ a) (h2 : a ≤ 9223372036854775807) :
    Calls Tryd.prog 5 #[.string s, .int .i64 a] w fun e w' => e = .returned (out (G s a)) ∧ Below w.heap.size w w' := by
  by_cases hb : 20000 < s.size
  · exact spec_big s a w hb hs
  by_cases hn : a < 0
  · exact spec_neg s a w (by omega) hn
  · obtain ⟨k, rfl⟩ := Int.eq_ofNat_of_zero_le (show 0 ≤ a by omega)
    exact spec_any s k w (by omega) h2

theorem eq_any (x y z : Int) (w : World) :
    Calls Tryd.prog 7 #[.agg #[.int .i64 x, .int .i64 y, .int .i64 z], .agg #[.int .i64 x, .int .i64 y, .int .i64 z]] w fun e w' => e = .returned (.bool true) ∧ Below w.heap.size w w' := by
  go_enter Tryd.func7, Tryd.ntmps7
  go_wp2
  go_ret
  exact ⟨rfl, ((Below.refl _ _).alloc (Nat.le_refl _) _).alloc (by simp) _⟩

theorem out_is (r : Except Int (Int × Int)) : ∃ x y z : Int, out r = .agg #[.int .i64 x, .int .i64 y, .int .i64 z] := by
  cases r with
  | error c => exact ⟨_, _, _, rfl⟩
  | ok r => obtain ⟨n, p⟩ := r; exact ⟨_, _, _, rfl⟩

set_option maxHeartbeats 400000 in
theorem law_any (s : ByteArray) (a : Int) (w : World) (hs : s.size ≤ maxLen) (h1 : -9223372036854775808 ≤ a) (h2 : a ≤ 9223372036854775807) (hg : w.cell? ⟨0, 0, none⟩ = some (as.rt 34)) :
    Calls Tryd.prog 3 #[.string s, .int .i64 a] w fun e w' => e = .returned (.bool true) ∧ Below w.heap.size w w' := by
  by_cases hbig : 1048576 < s.size
  · go_enter Tryd.func3, Tryd.ntmps3
    go_wp2
    go_ret
    exact ⟨rfl, Below.refl _ _⟩
  have hlt0 : 0 < w.heap.size := as.lt_of_cell hg
  obtain ⟨x, y, z, hS, hI⟩ : ∃ (x y z : Int), (∀ wx, Calls Tryd.prog 5 #[.string s, .int .i64 a] wx fun e w' => e = .returned (.agg #[.int .i64 x, .int .i64 y, .int .i64 z]) ∧ Below wx.heap.size wx w') ∧
      (∀ wx : World, wx.cell? ⟨0, 0, none⟩ = some (as.rt 34) → Calls Tryd.prog 6 #[.string s, .int .i64 a] wx fun e w' => e = .returned (.agg #[.int .i64 x, .int .i64 y, .int .i64 z]) ∧ Below wx.heap.size wx w') := by
    obtain ⟨x, y, z, e⟩ := out_is (G s a)
    refine ⟨x, y, z, ?_, ?_⟩
    · intro wx
      rw [← e]
      exact spec_all s a wx (by omega) h1 h2
    · intro wx hx
      rw [← e]
      exact get_any s a wx (by omega) h1 h2 hx
  have HS := mkHid hS
  have HI := mkHid hI
  have Hg := mkHid hg
  clear hS hI h1 h2 hg
  go_enter Tryd.func3, Tryd.ntmps3
  go_wp2_with fail
  refine (HS.out _).mono ?_
  rintro e w1 ⟨rfl, hb1⟩
  have hs1 := hb1.size
  have Hg1 : Hid ((w1.alloc (.cells #[.int .i64 x, .int .i64 y, .int .i64 z] 23)).cell? ⟨0, 0, none⟩ = some (as.rt 34)) := mkHid (by rw [World.cell?_alloc_lt _ _ ⟨0, 0, none⟩ (Nat.lt_of_lt_of_le hlt0 hs1)]; exact (hb1.cell hlt0).trans Hg.out)
  go_wp2_with fail
  refine (HI.out _ Hg1.out).mono ?_
  rintro e w2 ⟨rfl, hb2⟩
  have hs2 := hb2.size
  simp only [World.size_alloc] at hs2
  have c0 : w2.cell? ⟨w1.heap.size, 0, none⟩ = some (.int .i64 x) := (hb2.cell (by simp)).trans (by simp)
  have c1 : w2.cell? ⟨w1.heap.size, 1, none⟩ = some (.int .i64 y) := (hb2.cell (by simp)).trans (by simp)
  have c2 : w2.cell? ⟨w1.heap.size, 2, none⟩ = some (.int .i64 z) := (hb2.cell (by simp)).trans (by simp)
  have hlt : w1.heap.size < w2.heap.size := by omega
  have hb : Below w.heap.size w w2 := (hb1.alloc hs1 _).trans (hb2.mono (by simp; omega))
  have HB := mkHid hb
  clear hb1 hb2 hb Hg1 Hg
  go_wp2_with fail
  refine (eq_any x y z _).mono ?_
  rintro e w3 ⟨rfl, hb3⟩
  have hbb := (HB.out.alloc (by omega) _).trans (hb3.mono (by simp; omega))
  clear hb3 c0 c1 c2
  go_wp2
  go_ret
  exact ⟨rfl, hbb⟩

end Go.Proofs.YtobojmdgdomgpafDoor.num
