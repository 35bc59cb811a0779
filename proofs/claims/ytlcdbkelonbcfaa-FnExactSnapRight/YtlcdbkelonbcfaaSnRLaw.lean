/-
  laws.FnExactSnapRight answers true at every snapshot, and leaves what was there as it was. No condition.
-/
import Derived.Test.YtlcdbkelonbcfaaSnP
import Derived.Test.YtlcdbkelonbcfaaSnL
namespace Go.Proofs.Ytlcdbkelonbcfaa.snp
open Go.RowKit Go.Joins
open Go.Proofs.Ytlcdbkelonbcfaa.base Go.Proofs.Ytlcdbkelonbcfaa.blk Go.Proofs.Ytlcdbkelonbcfaa.aid
set_option linter.unusedVariables false

set_option maxRecDepth 100000 in
set_option maxHeartbeats 1000000 in
theorem right_walk (n : ByteArray) (d : Int) (r : ByteArray) (w : World) (h1 : (n.size : Int) ≤ 9223372036854775807) (h2 : (r.size : Int) ≤ 9223372036854775807) :
    Calls Try.prog 5 #[.agg #[.string n, .int .i64 d, .string r]] w fun e w' => e = .returned (.bool true) ∧ Below w.heap.size w w' := by
  have HZ := mkHid (fun wx => szSnap_any n d r 1048576 wx h1 h2 (by omega) (by omega))
  have HT := mkHid (fun wx => toSnap_any n d r wx)
  have HS := mkHid (fun wx (q : n.size ≤ 1048576 ∧ r.size ≤ 1048576) => snapS_any n d r wx q.1 q.2)
  have HI := mkHid (fun wx (q : n.size ≤ 1048576 ∧ r.size ≤ 1048576) => snapI_any n d r wx q.1 q.2)
  clear h1 h2
  go_enter Try.func5, Try.ntmps5
  go_wp2_with fail
  refine (HZ.out _).mono ?_
  rintro e w1 ⟨⟨z, rfl, hz⟩, hb1⟩
  have K1 := mkHid (And.intro (below_allocs (os := [_]) hb1) (blk_below (blk_new w (.cells #[.string n, .int .i64 d, .string r] 50) w.heap.size rfl) hb1))
  by_cases hz0 : z < 0
  · clear hb1 HZ hz
    go_wp2
    go_ret
    exact ⟨rfl, K1.out.1⟩
  · have hz1 : 0 ≤ z := by omega
    have HQ := mkHid (hz hz1)
    have HS := mkHid (fun wx => HS.out wx HQ.out)
    have HI := mkHid (fun wx => HI.out wx HQ.out)
    clear HQ hz hz0
    obtain ⟨c0, c1, c2⟩ := cel3 K1.out.2
    clear hb1 HZ
    go_wp2_with fail
    refine (HT.out _).mono ?_
    rintro e w2 ⟨rfl, hb2⟩
    have K2 := mkHid (And.intro (K1.out.1.trans (hb2.mono K1.out.1.size)) (blk_below K1.out.2 hb2))
    clear hb2 K1 c0 c1 c2
    go_wp2_with fail
    refine (HS.out _).mono ?_
    rintro e w3 ⟨rfl, hb3⟩
    have K3 := mkHid (And.intro (K2.out.1.trans (hb3.mono K2.out.1.size)) (blk_below K2.out.2 hb3))
    obtain ⟨c0, c1, c2⟩ := cel3 K3.out.2
    clear hb3 K2 HS
    go_wp2_with fail
    refine (HT.out _).mono ?_
    rintro e w4 ⟨rfl, hb4⟩
    have K4 := mkHid (K3.out.1.trans (hb4.mono K3.out.1.size))
    clear hb4 K3 c0 c1 c2
    go_wp2_with fail
    refine (HI.out _).mono ?_
    rintro e w5 ⟨rfl, hb5⟩
    have K5 := mkHid (K4.out.trans (hb5.mono K4.out.size))
    clear hb5 K4
    generalize snapB n d r = b at *
    have hbb : (b != b) = false := by cases b <;> rfl
    go_wp2
    go_ret
    exact ⟨rfl, K5.out⟩
end Go.Proofs.Ytlcdbkelonbcfaa.snp
