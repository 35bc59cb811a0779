/-
  impl.readNum answers what 'G' says, at every place and text. Condition: at most 1,048,576 bytes.
-/
import Derived.Test.YtlcdbkelonbcfaaGetR
namespace Go.Proofs.Ytlcdbkelonbcfaa.num
open Go.RowKit
set_option linter.unusedVariables false

theorem read_all (s : ByteArray) (a : Int) (w : World) (hs : s.size ≤ 1048576) (h1 : -9223372036854775808 ≤ a) (h2 : a ≤ 9223372036854775807) :
    Calls Try.prog 88 #[.string s, .int .i64 a] w fun e w' => e = .returned (tup (G s a)) ∧ w = w' := by
  by_cases hb : 20000 < s.size
  · have e : G s a = .error 2 := if_pos hb
    rw [e]
    clear e
    go_enter Try.func88, Try.ntmps88
    go_wp2_with fail
    refine jump.wp_labels (fun _ _ _ => False) (fun _ _ _ => 0) ?_ (fun _ _ _ hF => hF.elim)
    go_wp2_with (go_at_call 105; refine (place_big _ _ _ hb hs).mono ?_; rintro e w' ⟨rfl, rfl⟩)
    simp only [jump.Jumps]
    go_ret3
    exact ⟨rfl, rfl⟩
  by_cases hn : a < 0
  · have e : G s a = .error 1 := by unfold G; rw [if_neg hb, if_pos hn]
    rw [e]
    clear e
    go_enter Try.func88, Try.ntmps88
    go_wp2_with fail
    refine jump.wp_labels (fun _ _ _ => False) (fun _ _ _ => 0) ?_ (fun _ _ _ hF => hF.elim)
    go_wp2_with (go_at_call 105; refine (place_neg _ _ _ (by omega) hn).mono ?_; rintro e w' ⟨rfl, rfl⟩)
    simp only [jump.Jumps]
    go_ret3
    exact ⟨rfl, rfl⟩
  · obtain ⟨k, rfl⟩ := Int.eq_ofNat_of_zero_le (show 0 ≤ a by omega)
    exact read_any s k w (by omega) h2
end Go.Proofs.Ytlcdbkelonbcfaa.num
