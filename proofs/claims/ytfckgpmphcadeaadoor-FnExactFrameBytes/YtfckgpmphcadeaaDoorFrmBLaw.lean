/-
  laws.FnExactFrameBytes answers true at every frame, and leaves what was there as it was. Condition: the numbers of the rounds are there.
-/
import Derived.Test.YtfckgpmphcadeaaDoorFrmB
import Derived.Test.YtfckgpmphcadeaaDoorDigI
namespace Go.Proofs.YtfckgpmphcadeaaDoor.frm
open Go.RowKit Go.Joins
open Go.Proofs.YtfckgpmphcadeaaDoor.base Go.Proofs.YtfckgpmphcadeaaDoor.blk Go.Proofs.YtfckgpmphcadeaaDoor.aid
set_option linter.unusedVariables false

set_option maxRecDepth 100000 in
set_option maxHeartbeats 1000000 in
theorem bytes_walk (k m i s : Int) (h x : ByteArray) (w : World) (h1 : (h.size : Int) ≤ 9223372036854775807) (h2 : (x.size : Int) ≤ 9223372036854775807) (hG : sha.GV w) :
    Calls Tryd.prog 4 #[.agg #[.int .i64 k, .int .i64 m, .int .i64 i, .int .i64 s, .string h, .string x]] w fun e w' => e = .returned (.bool true) ∧ Below w.heap.size w w' := by
  have HZ := mkHid (fun wx => szFrame_any k m i s h x 1048576 wx h1 h2 (by omega) (by omega))
  have HT := mkHid (fun wx => toFrame_any k m i s h x wx)
  have HS := mkHid (fun wx (q : h.size ≤ 1048576 ∧ x.size ≤ 1048576) => bytesS_any k m i s h x wx q.1 q.2)
  have HI := mkHid (fun wx (q : h.size ≤ 1048576 ∧ x.size ≤ 1048576) (hb : Below w.heap.size w wx) => bytesI_any k m i s h x wx q.1 q.2 digI.digest_any (hG.below hb hG.lt))
  clear h1 h2 hG
  go_enter Tryd.func4, Tryd.ntmps4
  go_wp2_with fail
  refine (HZ.out _).mono ?_
  rintro e w1 ⟨⟨z, rfl, hz⟩, hb1⟩
  have K1 := mkHid (And.intro (below_allocs (os := [_]) hb1) (blk_below (blk_new w (.cells #[.int .i64 k, .int .i64 m, .int .i64 i, .int .i64 s, .string h, .string x] 33) w.heap.size rfl) hb1))
  by_cases hz0 : z < 0
  · clear hb1 HZ hz
    go_wp2
    go_ret
    exact ⟨rfl, K1.out.1⟩
  · have hz1 : 0 ≤ z := by omega
    have HQ := mkHid (hz hz1)
    have HS := mkHid (fun wx => HS.out wx HQ.out)
    have HI := mkHid (fun wx hb => HI.out wx HQ.out hb)
    clear HQ hz hz0
    obtain ⟨c0, c1, c2, c3, c4, c5⟩ := cel6 K1.out.2
    clear hb1 HZ
    go_wp2_with fail
    refine (HT.out _).mono ?_
    rintro e w2 ⟨rfl, hb2⟩
    have K2 := mkHid (And.intro (K1.out.1.trans (hb2.mono K1.out.1.size)) (blk_below K1.out.2 hb2))
    clear hb2 K1 c0 c1 c2 c3 c4 c5
    go_wp2_with fail
    refine (HS.out _).mono ?_
    rintro e w3 ⟨rfl, hb3⟩
    have K3 := mkHid (And.intro (K2.out.1.trans (hb3.mono K2.out.1.size)) (blk_below K2.out.2 hb3))
    obtain ⟨c0, c1, c2, c3, c4, c5⟩ := cel6 K3.out.2
    clear hb3 K2 HS
    go_wp2_with fail
    refine (HT.out _).mono ?_
    rintro e w4 ⟨rfl, hb4⟩
    have K4 := mkHid (K3.out.1.trans (hb4.mono K3.out.1.size))
    clear hb4 K3 c0 c1 c2 c3 c4 c5
    go_wp2_with fail
    refine (HI.out _ K4.out).mono ?_
    rintro e w5 ⟨rfl, hb5⟩
    have K5 := mkHid (K4.out.trans (hb5.mono K4.out.size))
    clear hb5 K4
    generalize fbytes k m i s h x = b at *
    have hbb : (!b.toList == b.toList) = false := by simp
    go_wp2
    go_ret
    exact ⟨rfl, K5.out⟩
end Go.Proofs.YtfckgpmphcadeaaDoor.frm
