/-
  impl.GetText answers what 'T' says, and the law of GetText. Condition: the variable errors.errorType holds what the program lays there.
-/
import Derived.Test.YtobojmdgdomgpafDoorSText
namespace Go.Proofs.YtobojmdgdomgpafDoor.num
open Go.RowKit
set_option linter.unusedVariables false

def ttup : Except Int (ByteArray × Int) → Value
  | .error c => .tuple #[.string ⟨#[]⟩, .int .i64 0, .iface 43 (.agg #[.int .i64 c])]
  | .ok (t, p) => .tuple #[.string t, .int .i64 p, .nilIface]

theorem part_size (s : ByteArray) (i j : Nat) : (s.extract i j).size ≤ s.size := by
  rw [ByteArray.size_extract]
  omega

set_option maxRecDepth 100000 in
set_option maxHeartbeats 1000000 in
theorem rtext_any (s : ByteArray) (a : Int) (w : World) (hs : s.size ≤ 1048576) (h1 : -9223372036854775808 ≤ a) (h2 : a ≤ 9223372036854775807) :
    Calls Tryd.prog 13 #[.string s, .int .i64 a] w fun e w' => e = .returned (ttup (T s a)) ∧ Below w.heap.size w w' := by
  have HR := mkHid (fun wx => read_all s a wx hs h1 h2)
  clear h1 h2
  cases hG : G s a with
  | error c =>
    rw [T_err hG]
    rw [hG] at HR
    clear hG
    go_enter Tryd.func13, Tryd.ntmps13
    go_wp2_with fail
    refine (HR.out _).mono ?_
    rintro e w' ⟨rfl, rfl⟩
    unfold tup
    go_wp2
    go_ret3
    exact ⟨rfl, Below.refl _ _⟩
  | ok r =>
    obtain ⟨n, p⟩ := r
    have hp := G_pos hG
    obtain ⟨hs2, ha0, hp1, hp2⟩ := hp
    rw [hG] at HR
    by_cases hn : n < 0 ∨ 20000 < n
    · rw [T_three hG hn]
      clear hG
      rcases hn with hn | hn
      all_goals
        go_enter Tryd.func13, Tryd.ntmps13
        go_wp2_with fail
        refine (HR.out _).mono ?_
        rintro e w' ⟨rfl, rfl⟩
        unfold tup
        go_wp2
        go_ret3
        exact ⟨rfl, Below.refl _ _⟩
    · have hn0 : 0 ≤ n := by omega
      have hn1 : n ≤ 20000 := by omega
      by_cases hq : (s.size : Int) - n < p
      · rw [T_four hG hn hq]
        clear hG hn
        have hq1 : (s.size : Int) - p < n := by omega
        go_enter Tryd.func13, Tryd.ntmps13
        go_wp2_with fail
        refine (HR.out _).mono ?_
        rintro e w' ⟨rfl, rfl⟩
        unfold tup
        go_wp2
        go_ret3
        exact ⟨rfl, Below.refl _ _⟩
      · rw [T_ok hG hn hq]
        clear hG hn
        have hq1 : n ≤ (s.size : Int) - p := by omega
        have hq2 : p + n ≤ (s.size : Int) := by omega
        have hp0 : 0 ≤ p := by omega
        have hsl : ∀ wx, (Instr.slice 9 (.string s) (some (.int .i64 p)) (some (.int .i64 (p + n))) none).run Tryd.prog wx = .ok (.string (s.extract p.toNat (p + n).toNat)) wx := fun wx => by
          rw [run_slice_string_if wx 9 s .i64 .i64 p (p + n) Tryd.underlying9, if_pos ⟨by omega, by omega⟩, if_pos ⟨by omega, by omega⟩]
        have hx := part_size s p.toNat (p + n).toNat
        have HX := mkHid (show (s.extract p.toNat (p + n).toNat).size ≤ 20000 by omega)
        clear hx
        go_enter Tryd.func13, Tryd.ntmps13
        go_wp2_with fail
        refine (HR.out _).mono ?_
        rintro e w' ⟨rfl, rfl⟩
        unfold tup
        go_wp2_with fail
        refine (clone.clone_any _ _ HX.out).mono ?_
        rintro e w1 ⟨rfl, hb1⟩
        go_wp2
        go_ret3
        exact ⟨rfl, hb1⟩

theorem gtext_any (s : ByteArray) (a : Int) (w : World) (hs : s.size ≤ 1048576) (h1 : -9223372036854775808 ≤ a) (h2 : a ≤ 9223372036854775807) (hg : w.cell? ⟨0, 0, none⟩ = some (as.rt 34)) :
    Calls Tryd.prog 9 #[.string s, .int .i64 a] w fun e w' => e = .returned (tout (T s a)) ∧ Below w.heap.size w w' := by
  have HR := mkHid (fun wx => rtext_any s a wx hs h1 h2)
  have hlt0 : 0 < w.heap.size := as.lt_of_cell hg
  clear h1 h2 hs
  cases hT : T s a with
  | error c =>
    rw [hT] at HR
    clear hT
    unfold ttup at HR
    have Hg := mkHid hg
    clear hg
    go_enter Tryd.func9, Tryd.ntmps9
    go_wp2_with fail
    refine (HR.out _).mono ?_
    rintro e w1 ⟨rfl, hb1⟩
    have hgA : Hid (w1.cell? ⟨0, 0, none⟩ = some (as.rt 34)) := mkHid ((hb1.cell (by simp)).trans (by rw [World.cell?_alloc_lt _ _ ⟨0, 0, none⟩ hlt0]; exact Hg.out))
    go_wp2_with fail
    refine (as.code_any c _ hgA.out).mono ?_
    rintro e w2 ⟨rfl, hb2⟩
    have hb1' := hb1.trans (hb2.mono hb1.size)
    clear hb1 hb2 hgA Hg
    have hb1 := hb1'
    clear hb1'
    have hz := hb1.size
    simp only [World.size_alloc] at hz
    have c0 : w2.cell? ⟨w.heap.size, 0, none⟩ = some (.string ⟨#[]⟩) := (hb1.cell (by simp)).trans (by simp)
    have c1 : w2.cell? ⟨w.heap.size, 1, none⟩ = some (.int .i64 0) := (hb1.cell (by simp)).trans (by simp)
    have c2 : w2.cell? ⟨w.heap.size, 2, none⟩ = some (.int .i64 0) := (hb1.cell (by simp)).trans (by simp)
    have hf : ∀ j, w2.frozen? ⟨w.heap.size, j, none⟩ = false := fun j => (hb1.frozen (by simp)).trans (by simp)
    have hlt : w.heap.size < w2.heap.size := by omega
    have hB := mkHid (((Below.refl w.heap.size w).alloc (Nat.le_refl _) (.cells #[.string ⟨#[]⟩, .int .i64 0, .int .i64 0] 28)).trans (hb1.mono (by simp)))
    clear hb1 hz

    go_wp2
    exact bodyPost_ret (v := .agg #[.string ⟨#[]⟩, .int .i64 0, .int .i64 c]) (by simp [results, Tryd.results9, go_sem, c0, c1, c2]) rfl ⟨rfl, by repeat (first | exact hB.out | refine Below.setCell ?_ (by simp) _ | refine Below.alloc ?_ (by simp; omega) _ | refine Below.drew ?_)⟩
  | ok r =>
    obtain ⟨t, p⟩ := r
    rw [hT] at HR
    clear hT hg
    unfold ttup at HR
    go_enter Tryd.func9, Tryd.ntmps9
    go_wp2_with fail
    refine (HR.out _).mono ?_
    rintro e w1 ⟨rfl, hb1⟩
    have hz := hb1.size
    simp only [World.size_alloc] at hz
    have c0 : w1.cell? ⟨w.heap.size, 0, none⟩ = some (.string ⟨#[]⟩) := (hb1.cell (by simp)).trans (by simp)
    have c1 : w1.cell? ⟨w.heap.size, 1, none⟩ = some (.int .i64 0) := (hb1.cell (by simp)).trans (by simp)
    have c2 : w1.cell? ⟨w.heap.size, 2, none⟩ = some (.int .i64 0) := (hb1.cell (by simp)).trans (by simp)
    have hf : ∀ j, w1.frozen? ⟨w.heap.size, j, none⟩ = false := fun j => (hb1.frozen (by simp)).trans (by simp)
    have hlt : w.heap.size < w1.heap.size := by omega
    have hB := mkHid (((Below.refl w.heap.size w).alloc (Nat.le_refl _) (.cells #[.string ⟨#[]⟩, .int .i64 0, .int .i64 0] 28)).trans (hb1.mono (by simp)))
    clear hb1 hz

    go_wp2
    exact bodyPost_ret (v := .agg #[.string t, .int .i64 p, .int .i64 0]) (by simp [results, Tryd.results9, go_sem, c0, c1, c2]) rfl ⟨rfl, by repeat (first | exact hB.out | refine Below.setCell ?_ (by simp) _ | refine Below.alloc ?_ (by simp; omega) _ | refine Below.drew ?_)⟩

theorem teq_any (x : ByteArray) (y z : Int) (w : World) :
    Calls Tryd.prog 10 #[.agg #[.string x, .int .i64 y, .int .i64 z], .agg #[.string x, .int .i64 y, .int .i64 z]] w fun e w' => e = .returned (.bool true) ∧ Below w.heap.size w w' := by
  go_enter Tryd.func10, Tryd.ntmps10
  go_wp2
  go_ret
  exact ⟨rfl, ((Below.refl _ _).alloc (Nat.le_refl _) _).alloc (by simp) _⟩

theorem tout_is (r : Except Int (ByteArray × Int)) : ∃ (x : ByteArray) (y z : Int), tout r = .agg #[.string x, .int .i64 y, .int .i64 z] := by
  cases r with
  | error c => exact ⟨_, _, _, rfl⟩
  | ok r => obtain ⟨n, p⟩ := r; exact ⟨_, _, _, rfl⟩

set_option maxHeartbeats 400000 in
theorem tlaw_any (s : ByteArray) (a : Int) (w : World) (hs : s.size ≤ maxLen) (h1 : -9223372036854775808 ≤ a) (h2 : a ≤ 9223372036854775807) (hg : w.cell? ⟨0, 0, none⟩ = some (as.rt 34)) :
    Calls Tryd.prog 4 #[.string s, .int .i64 a] w fun e w' => e = .returned (.bool true) ∧ Below w.heap.size w w' := by
  by_cases hbig : 1048576 < s.size
  · go_enter Tryd.func4, Tryd.ntmps4
    go_wp2
    go_ret
    exact ⟨rfl, Below.refl _ _⟩
  have hlt0 : 0 < w.heap.size := as.lt_of_cell hg
  obtain ⟨x, y, z, hS, hI⟩ : ∃ (x : ByteArray) (y z : Int), (∀ wx, Calls Tryd.prog 8 #[.string s, .int .i64 a] wx fun e w' => e = .returned (.agg #[.string x, .int .i64 y, .int .i64 z]) ∧ Below wx.heap.size wx w') ∧
      (∀ wx : World, wx.cell? ⟨0, 0, none⟩ = some (as.rt 34) → Calls Tryd.prog 9 #[.string s, .int .i64 a] wx fun e w' => e = .returned (.agg #[.string x, .int .i64 y, .int .i64 z]) ∧ Below wx.heap.size wx w') := by
    obtain ⟨x, y, z, e⟩ := tout_is (T s a)
    refine ⟨x, y, z, ?_, ?_⟩
    · intro wx
      rw [← e]
      exact stext_any s a wx (by omega) h1 h2
    · intro wx hx
      rw [← e]
      exact gtext_any s a wx (by omega) h1 h2 hx
  have HS := mkHid hS
  have HI := mkHid hI
  have Hg := mkHid hg
  clear hS hI h1 h2 hg
  go_enter Tryd.func4, Tryd.ntmps4
  go_wp2_with fail
  refine (HS.out _).mono ?_
  rintro e w1 ⟨rfl, hb1⟩
  have hs1 := hb1.size
  have Hg1 : Hid ((w1.alloc (.cells #[.string x, .int .i64 y, .int .i64 z] 28)).cell? ⟨0, 0, none⟩ = some (as.rt 34)) := mkHid (by rw [World.cell?_alloc_lt _ _ ⟨0, 0, none⟩ (Nat.lt_of_lt_of_le hlt0 hs1)]; exact (hb1.cell hlt0).trans Hg.out)
  go_wp2_with fail
  refine (HI.out _ Hg1.out).mono ?_
  rintro e w2 ⟨rfl, hb2⟩
  have hs2 := hb2.size
  simp only [World.size_alloc] at hs2
  have c0 : w2.cell? ⟨w1.heap.size, 0, none⟩ = some (.string x) := (hb2.cell (by simp)).trans (by simp)
  have c1 : w2.cell? ⟨w1.heap.size, 1, none⟩ = some (.int .i64 y) := (hb2.cell (by simp)).trans (by simp)
  have c2 : w2.cell? ⟨w1.heap.size, 2, none⟩ = some (.int .i64 z) := (hb2.cell (by simp)).trans (by simp)
  have hlt : w1.heap.size < w2.heap.size := by omega
  have hb : Below w.heap.size w w2 := (hb1.alloc hs1 _).trans (hb2.mono (by simp; omega))
  have HB := mkHid hb
  clear hb1 hb2 hb Hg1 Hg
  go_wp2_with fail
  refine (teq_any x y z _).mono ?_
  rintro e w3 ⟨rfl, hb3⟩
  have hbb := (HB.out.alloc (by omega) _).trans (hb3.mono (by simp; omega))
  clear hb3 c0 c1 c2
  go_wp2
  go_ret
  exact ⟨rfl, hbb⟩

end Go.Proofs.YtobojmdgdomgpafDoor.num
