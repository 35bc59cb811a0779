/-
  laws.FnExactBlobKey and laws.FnExactPackGet answer true at every blob, text and entry, and leave what was there as it was. Condition: the numbers of the rounds are there.
-/
import Derived.Test.YtlmhdebjmkcanabDoorGetPkI
import Derived.Test.YtlmhdebjmkcanabDoorDigI
namespace Go.Proofs.YtlmhdebjmkcanabDoor.pack
open Go.RowKit Go.Joins
open Go.Proofs.YtlmhdebjmkcanabDoor.base Go.Proofs.YtlmhdebjmkcanabDoor.blk Go.Proofs.YtlmhdebjmkcanabDoor.aid
open Go.Proofs.YtlmhdebjmkcanabDoor.sha (digest GV)
set_option linter.unusedVariables false

theorem get_spec (s x : ByteArray) (k a n : Int) (w : World) (hs : s.size ≤ 1048576) :
    Calls Tryd.prog 17 #[.string s, .agg #[.string x, .int .i64 k, .int .i64 a, .int .i64 n]] w fun e w' => e = .returned (outV (getP s x k a n)) ∧ Below w.heap.size w w' := by
  by_cases h : 20000 < (s.size : Int) ∨ (a < 0 ∨ n < 0 ∨ 2000 < n ∨ (s.size : Int) - n < a)
  · exact get_spec_no s x k a n w hs h
  · obtain ⟨A, rfl⟩ : ∃ A : Nat, a = A := ⟨a.toNat, by omega⟩
    obtain ⟨N, rfl⟩ : ∃ N : Nat, n = N := ⟨n.toNat, by omega⟩
    exact get_spec_in s x k A N w (by omega) (by omega) (by omega)
theorem get_impl (s x : ByteArray) (k a n : Int) (w : World) (hs : s.size ≤ 1048576) (hG : GV w) :
    Calls Tryd.prog 19 #[.string s, .agg #[.string x, .int .i64 k, .int .i64 a, .int .i64 n]] w fun e w' => e = .returned (outV (getP s x k a n)) ∧ Below w.heap.size w w' := by
  by_cases h : 20000 < (s.size : Int) ∨ (a < 0 ∨ n < 0 ∨ 2000 < n ∨ (s.size : Int) - n < a)
  · exact get_impl_no s x k a n w hs h
  · obtain ⟨A, rfl⟩ : ∃ A : Nat, a = A := ⟨a.toNat, by omega⟩
    obtain ⟨N, rfl⟩ : ∃ N : Nat, n = N := ⟨n.toNat, by omega⟩
    exact get_impl_in s x k A N w digI.digest_any hG (by omega) (by omega) (by omega)

set_option maxRecDepth 100000 in
theorem get_walk (s x : ByteArray) (k a n : Int) (w : World) (hs : (s.size : Int) ≤ 9223372036854775807) (hx : (x.size : Int) ≤ 9223372036854775807) (hG : GV w) :
    Calls Tryd.prog 5 #[.string s, .agg #[.string x, .int .i64 k, .int .i64 a, .int .i64 n]] w fun e w' => e = .returned (.bool true) ∧ Below w.heap.size w w' := by
  by_cases h0 : (1048576 : Int) < s.size
  · go_enter Tryd.func5, Tryd.ntmps5
    go_wp2
    go_ret
    exact ⟨rfl, below_alloc1 _ _⟩
  · have h0' : (s.size : Int) ≤ 1048576 := by omega
    have HZ := mkHid (fun wx => lwb.szE_any x k a n 1048576 wx hx (by omega) (by omega))
    have HT := mkHid (fun wx => lwb.toE_any x k a n wx)
    have HS := mkHid (fun wx => get_spec s x k a n wx (by omega))
    have HI := mkHid (fun wx (hb : Below w.heap.size w wx) => get_impl s x k a n wx (by omega) (hG.below hb hG.lt))
    generalize getP s x k a n = o at *
    obtain ⟨o1, o2, o3⟩ := o
    have HE := mkHid (fun wx => lwb.eqO_same o1 o2 o3 wx)
    unfold outV at HS HI
    by_cases h : (1048576 : Int) < x.size
    · rw [if_pos h] at HZ
      go_enter Tryd.func5, Tryd.ntmps5
      go_wp2_with fail
      refine (HZ.out _).mono ?_
      rintro e w1 ⟨rfl, hb1⟩
      have B1 := mkHid (below_allocs (os := [_]) hb1)
      clear hb1
      go_wp2
      go_ret
      exact ⟨rfl, B1.out⟩
    · rw [if_neg h] at HZ
      have hz : 0 ≤ (1048576 : Int) - x.size := by omega
      generalize (1048576 : Int) - x.size = z at *
      clear hs hx hG h0
      go_enter Tryd.func5, Tryd.ntmps5
      go_wp2_with fail
      refine (HZ.out _).mono ?_
      rintro e w1 ⟨rfl, hb1⟩
      have K1 := mkHid (And.intro (below_allocs (os := [_]) hb1) (blk_below (blk_new w (.cells #[.string x, .int .i64 k, .int .i64 a, .int .i64 n] 34) w.heap.size rfl) hb1))
      obtain ⟨c0, c1, c2, c3⟩ := cel4 K1.out.2
      clear hb1 HZ
      go_wp2_with fail
      refine (HT.out _).mono ?_
      rintro e w2 ⟨rfl, hb2⟩
      have K2 := mkHid (And.intro (K1.out.1.trans (hb2.mono K1.out.1.size)) (blk_below K1.out.2 hb2))
      clear hb2 K1 c0 c1 c2 c3
      go_wp2_with fail
      refine (HS.out _).mono ?_
      rintro e w3 ⟨rfl, hb3⟩
      have K3 := mkHid (And.intro (K2.out.1.trans (hb3.mono K2.out.1.size)) (blk_below K2.out.2 hb3))
      have d0 : ∀ o, (w3.alloc o).cell? ⟨w.heap.size, 0, none⟩ = some (.string x) := fun o => (cel4 (blk_old K3.out.2 o)).1
      have d1 : ∀ o, (w3.alloc o).cell? ⟨w.heap.size, 1, none⟩ = some (.int .i64 k) := fun o => (cel4 (blk_old K3.out.2 o)).2.1
      have d2 : ∀ o, (w3.alloc o).cell? ⟨w.heap.size, 2, none⟩ = some (.int .i64 a) := fun o => (cel4 (blk_old K3.out.2 o)).2.2.1
      have d3 : ∀ o, (w3.alloc o).cell? ⟨w.heap.size, 3, none⟩ = some (.int .i64 n) := fun o => (cel4 (blk_old K3.out.2 o)).2.2.2
      clear hb3 K2 HS
      go_wp2_with fail
      refine (HT.out _).mono ?_
      rintro e w4 ⟨rfl, hb4⟩
      have K4 := mkHid (And.intro (K3.out.1.trans ((below_allocs (w := w3) (os := [_]) hb4).mono K3.out.1.size)) (blk_below (blk_new w3 (.cells #[.int .i64 o1, .string o2, .int .i64 o3] 39) w3.heap.size rfl) hb4))
      clear hb4 K3 d0 d1 d2 d3
      go_wp2_with fail
      refine (HI.out _ K4.out.1).mono ?_
      rintro e w5 ⟨rfl, hb5⟩
      have K5 := mkHid (And.intro (K4.out.1.trans (hb5.mono K4.out.1.size)) (blk_below K4.out.2 hb5))
      have d0 : ∀ o, (w5.alloc o).cell? ⟨w3.heap.size, 0, none⟩ = some (.int .i64 o1) := fun o => (cel3 (blk_old K5.out.2 o)).1
      have d1 : ∀ o, (w5.alloc o).cell? ⟨w3.heap.size, 1, none⟩ = some (.string o2) := fun o => (cel3 (blk_old K5.out.2 o)).2.1
      have d2 : ∀ o, (w5.alloc o).cell? ⟨w3.heap.size, 2, none⟩ = some (.int .i64 o3) := fun o => (cel3 (blk_old K5.out.2 o)).2.2
      clear hb5 K4
      go_wp2_with fail
      refine (HE.out _).mono ?_
      rintro e w6 ⟨rfl, hb6⟩
      have K6 := mkHid (K5.out.1.trans ((below_allocs (w := w5) (os := [_]) hb6).mono K5.out.1.size))
      clear hb6 K5
      go_wp2
      go_ret
      exact ⟨rfl, K6.out⟩
end Go.Proofs.YtlmhdebjmkcanabDoor.pack
