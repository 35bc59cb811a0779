/-
  laws.FnExactBlobKey and laws.FnExactPackGet answer true at every blob, text and entry, and leave what was there as it was. Condition: the numbers of the rounds are there.
-/
import Derived.Test.YtlmhdebjmkcanaaDoorGetPkI
import Derived.Test.YtlmhdebjmkcanaaDoorDigI
namespace Go.Proofs.YtlmhdebjmkcanaaDoor.pack
open Go.RowKit Go.Joins
open Go.Proofs.YtlmhdebjmkcanaaDoor.base Go.Proofs.YtlmhdebjmkcanaaDoor.blk Go.Proofs.YtlmhdebjmkcanaaDoor.aid
open Go.Proofs.YtlmhdebjmkcanaaDoor.sha (digest GV)
set_option linter.unusedVariables false

theorem get_impl (s x : ByteArray) (k a n : Int) (w : World) (hs : s.size ≤ 1048576) (hG : GV w) :
    Calls Tryd.prog 18 #[.string s, .agg #[.string x, .int .i64 k, .int .i64 a, .int .i64 n]] w fun e w' => e = .returned (outV (getP s x k a n)) ∧ Below w.heap.size w w' := by
  by_cases h : 20000 < (s.size : Int) ∨ (a < 0 ∨ n < 0 ∨ 2000 < n ∨ (s.size : Int) - n < a)
  · exact get_impl_no s x k a n w hs h
  · obtain ⟨A, rfl⟩ : ∃ A : Nat, a = A := ⟨a.toNat, by omega⟩
    obtain ⟨N, rfl⟩ : ∃ N : Nat, n = N := ⟨n.toNat, by omega⟩
    exact get_impl_in s x k A N w digI.digest_any hG (by omega) (by omega) (by omega)

set_option maxRecDepth 100000 in
theorem key_walk (k : Int) (t : ByteArray) (w : World) (ht : (t.size : Int) ≤ 9223372036854775807) (hG : GV w) :
    Calls Tryd.prog 5 #[.agg #[.int .i64 k, .string t]] w fun e w' => e = .returned (.bool true) ∧ Below w.heap.size w w' := by
  have HZ := mkHid (fun wx => lwb.sz_any k t 1048576 wx ht (by omega) (by omega))
  have HT := mkHid (fun wx => lwb.to_any k t wx)
  have HS := mkHid (fun wx => key_spec k t wx)
  have HI := mkHid (fun wx (hb : Below w.heap.size w wx) => key_impl k t wx digI.digest_any (hG.below hb hG.lt))
  by_cases h : (1048576 : Int) < t.size
  · rw [if_pos h] at HZ
    go_enter Tryd.func5, Tryd.ntmps5
    go_wp2_with fail
    refine (HZ.out _).mono ?_
    rintro e w1 ⟨rfl, hb1⟩
    have B1 := mkHid (below_allocs (os := [_]) hb1)
    clear hb1
    go_wp2
    go_ret
    exact ⟨rfl, B1.out⟩
  · rw [if_neg h] at HZ
    have hz : 0 ≤ (1048576 : Int) - t.size := by omega
    generalize (1048576 : Int) - t.size = z at *
    clear ht hG
    go_enter Tryd.func5, Tryd.ntmps5
    go_wp2_with fail
    refine (HZ.out _).mono ?_
    rintro e w1 ⟨rfl, hb1⟩
    have K1 := mkHid (And.intro (below_allocs (os := [_]) hb1) (blk_below (blk_new w (.cells #[.int .i64 k, .string t] 43) w.heap.size rfl) hb1))
    obtain ⟨c0, c1⟩ := cel2 K1.out.2
    clear hb1 HZ
    go_wp2_with fail
    refine (HT.out _).mono ?_
    rintro e w2 ⟨rfl, hb2⟩
    have K2 := mkHid (And.intro (K1.out.1.trans (hb2.mono K1.out.1.size)) (blk_below K1.out.2 hb2))
    clear hb2 K1 c0 c1
    go_wp2_with fail
    refine (HS.out _).mono ?_
    rintro e w3 ⟨rfl, hb3⟩
    have K3 := mkHid (And.intro (K2.out.1.trans (hb3.mono K2.out.1.size)) (blk_below K2.out.2 hb3))
    obtain ⟨c0, c1⟩ := cel2 K3.out.2
    clear hb3 K2 HS
    go_wp2_with fail
    refine (HT.out _).mono ?_
    rintro e w4 ⟨rfl, hb4⟩
    have K4 := mkHid (K3.out.1.trans (hb4.mono K3.out.1.size))
    clear hb4 K3 c0 c1
    go_wp2_with fail
    refine (HI.out _ K4.out).mono ?_
    rintro e w5 ⟨rfl, hb5⟩
    have K5 := mkHid (K4.out.trans (hb5.mono K4.out.size))
    clear hb5 K4
    generalize bKey (k, t) = b at *
    have hbb : (!b.toList == b.toList) = false := by simp
    go_wp2
    go_ret
    exact ⟨rfl, K5.out⟩
end Go.Proofs.YtlmhdebjmkcanaaDoor.pack
