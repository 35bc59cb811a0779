/-
  laws.FnExactFilesRight answers true at every row of files, and leaves what was there as it was. Condition: internal/bytealg.MaxLen holds a number.
-/
import Derived.Test.YtmmmadehifajlaaDoorFlK
import Derived.Test.YtmmmadehifajlaaDoorMem
import Derived.Test.YtmmmadehifajlaaDoorFileCame
namespace Go.Proofs.YtmmmadehifajlaaDoor.fil
open Go.RowKit Go.Joins
open Go.Proofs.YtmmmadehifajlaaDoor.base Go.Proofs.YtmmmadehifajlaaDoor.blk Go.Proofs.YtmmmadehifajlaaDoor.aid
open Go.Proofs.YtmmmadehifajlaaDoor.row (Rd Own OwnV)
open Go.Proofs.YtmmmadehifajlaaDoor.rwFile (cs szF me SPost)
set_option linter.unusedVariables false
set_option linter.unusedSimpArgs false

set_option maxRecDepth 100000 in
set_option maxHeartbeats 2000000 in
theorem right_walk (a : Option Addr) (c : Nat) (l : List Fi) (w : World) (hl : (l.length : Int) ≤ 9223372036854775807) (hs : ∀ b ∈ l, (b.1.size : Int) ≤ 9223372036854775807 ∧ (b.2.size : Int) ≤ 9223372036854775807) (hr : Rd w a (cs l)) (hG : GM w) :
    Calls Tryd.prog 3 #[.slice a l.length c] w fun e w' => e = .returned (.bool true) ∧ Below w.heap.size w w' := by
  have HZ := mkHid (rwFile.szS_any a c l w hl hs hr)
  have S0 := mkHid (mem.startR hr)
  by_cases hz : szF l 1048576 < 0
  · generalize szF l 1048576 = z at *
    clear hr hs hG
    go_enter Tryd.func3, Tryd.ntmps3
    go_wp2_with fail
    refine HZ.out.mono ?_
    rintro e w1 ⟨rfl, hb1⟩
    have S1 := mkHid (S0.out.next hb1)
    clear hb1
    go_wp2
    go_ret
    exact ⟨rfl, S1.out.below⟩
  have hz0 : 0 ≤ szF l 1048576 := by omega
  have hl1 := rwFile.szF_len hz0
  have hs1 : Small l := rwFile.szF_small hz0
  generalize szF l 1048576 = z at *
  have HT := mkHid (fun wx (hx : Rd wx a (cs l)) => rwFile.toS_any a c l wx hl1 hx)
  unfold SPost at HT
  have HEX := mkHid (fun wx a1 c1 a2 c2 (h1 : Rd wx a1 (cs l)) (h2 : Rd wx a2 (cs l)) => rwFile.eqS_same a1 a2 c1 c2 l wx hl1 h1 h2)
  have HS := mkHid (fun wx a' c' (hx : Rd wx a' (cs l)) => rightS_any a' c' l wx hl1 hs1 hx)
  have HI := mkHid (fun wx a' c' (hb : Below w.heap.size w wx) (hx : Rd wx a' (cs l)) => rightI_any a' c' l wx hl1 hs1 (hG.below hb) hx)
  generalize filesB l = r at *
  have hrr : (r != r) = false := by cases r <;> rfl
  have hli : (l.length : Int) ≤ 1048576 := by omega
  clear hr hs hl hs1 hz hl1 hG
  go_enter Tryd.func3, Tryd.ntmps3
  go_wp2_with fail
  refine (HZ.out).mono ?_
  rintro e w1 ⟨rfl, hb1⟩
  have S1 := mkHid (S0.out.next hb1)
  clear hb1 S0 HZ
  go_wp2_with fail
  refine (HT.out _ S1.out.r0).mono ?_
  rintro e w2 ⟨a2, c2, rfl, ho2, hf2, hb2, hc2⟩
  have S2 := mkHid (S1.out.own hb2 ho2 hf2)
  clear hb2 S1 ho2 hf2 
  go_wp2_with fail
  refine (HS.out _ _ _ S2.out.o0.rd).mono ?_
  rintro e w3 ⟨rfl, hb3⟩
  have S3 := mkHid (S2.out.next hb3)
  clear hb3 S2 HS
  go_wp2_with fail
  refine (HT.out _ S3.out.r0).mono ?_
  rintro e w4 ⟨a4, c4, rfl, ho4, hf4, hb4, hc4⟩
  have S4 := mkHid (S3.out.own hb4 ho4 hf4)
  clear hb4 S3 ho4 hf4 
  go_wp2_with fail
  refine (HI.out _ _ _ S4.out.below S4.out.o0.rd).mono ?_
  rintro e w5 ⟨rfl, hb5⟩
  have S5 := mkHid (S4.out.next hb5)
  clear hb5 S4 HI
  go_wp2_with fail
  refine (HT.out _ S5.out.r0).mono ?_
  rintro e w6 ⟨a6, c6, rfl, ho6, hf6, hb6, hc6⟩
  have S6 := mkHid (S5.out.own hb6 ho6 hf6)
  clear hb6 S5 ho6 hf6 
  go_wp2_with fail
  refine (HEX.out _ _ _ _ _ S6.out.o1.rd S6.out.o0.rd).mono ?_
  rintro e w7 ⟨rfl, hb7⟩
  have S7 := mkHid (S6.out.next hb7)
  clear hb7 S6 
  go_wp2
  go_ret
  exact ⟨rfl, S7.out.below⟩
end Go.Proofs.YtmmmadehifajlaaDoor.fil
