/-
  laws.FnExactPlacesRead answers true at every text, and leaves what was there as it was. No condition.
-/
import Derived.Test.YtmmmadehifajlaaRrT
import Derived.Test.YtmmmadehifajlaaRrJ
import Derived.Test.YtmmmadehifajlaaOutL
import Derived.Test.YtmmmadehifajlaaMem
namespace Go.Proofs.Ytmmmadehifajlaa.plc
open Go.RowKit Go.Joins
open Go.Proofs.Ytmmmadehifajlaa.base Go.Proofs.Ytmmmadehifajlaa.blk Go.Proofs.Ytmmmadehifajlaa.aid
open Go.Proofs.Ytmmmadehifajlaa.row (Rd Own OwnV)
open Go.Proofs.Ytmmmadehifajlaa.rwPlace (cs szF me SPost)
set_option linter.unusedVariables false
set_option linter.unusedSimpArgs false

set_option maxRecDepth 100000 in
set_option maxHeartbeats 4000000 in
theorem read_walk (s : ByteArray) (w : World) (hs : (s.size : Int) ≤ 9223372036854775807) :
    Calls Try.prog 4 #[.string s] w fun e w' => e = .returned (.bool true) ∧ Below w.heap.size w w' := by
  by_cases hk1 : (1048576 : Int) < (s.size : Int)
  · go_enter Try.func4, Try.ntmps4
    go_wp2
    go_ret
    exact ⟨rfl, Below.refl _ _⟩
  have hk2 : (s.size : Int) ≤ 1048576 := by omega
  have hk3 : s.size ≤ 1048576 := by omega
  have S0 := mkHid (mem.start w)
  have HS := mkHid (fun wx => readS_any s wx hk3)
  have HI := mkHid (fun wx => readI_any s wx hk3)
  unfold APost at HS
  unfold AOwn at HI
  have htl := readA_small s
  generalize readA s = r at *
  obtain ⟨ts, q⟩ := r
  simp only at HS HI htl
  have htn : ts.length ≤ 1048576 := by omega
  have HE := mkHid (fun wx a1 c1 a2 c2 (h1 : Rd wx a1 (cs ts)) (h2 : Rd wx a2 (cs ts)) => eqOuts_same a1 a2 c1 c2 ts q wx htn h1 h2)
  have HMG := mkHid (fun wx a1 c1 (h : OwnV 75 wx a1 (cs ts)) => markOut_any a1 c1 ts q wx htn h)
  have HHG := mkHid (fun wx a1 c1 (h : Rd wx a1 (cs (me 1 ts.length))) => heldOut_any a1 c1 ts.length q wx htn h)
  have QG : Hid (cs (me 1 ts.length) ≠ [] → cs ts ≠ []) := mkHid (me_ne rfl)
  have hti : (ts.length : Int) ≤ 300 := by omega
  have hk8 : 0 ≤ 1 + 5 * (ts.length : Int) := by omega
  have hk9 : (1 + 5 * (ts.length : Int) != 1 + 5 * (ts.length : Int)) = false := by simp
  clear htl htn hs
  go_enter Try.func4, Try.ntmps4
  go_wp2_with fail
  refine (HS.out _).mono ?_
  rintro e w1 ⟨a1, c1, rfl, ho1, hf1, hb1, hc1⟩
  have S1 := mkHid ((S0.out.row hb1 ho1 hf1).var (.cells #[.slice a1 ts.length c1, .int .i64 q] 34))
  clear hb1 S0 ho1 hf1 HS
  go_wp2_with fail
  refine (HI.out _).mono ?_
  rintro e w2 ⟨a2, c2, rfl, ho2, hf2, hb2, hc2⟩
  have S2 := mkHid ((S1.out.own hb2 ho2 hf2).var (.cells #[.slice a2 ts.length c2, .int .i64 q] 34))
  clear hb2 S1 ho2 hf2 
  obtain ⟨k2g00, k2g01⟩ := cel2 S2.out.b0
  obtain ⟨k2w00, k2w01⟩ := cel2 S2.out.b1
  go_wp2_with fail
  refine (HE.out _ _ _ _ _ S2.out.o0.rd S2.out.r0).mono ?_
  rintro e w3 ⟨rfl, hb3⟩
  have S3 := mkHid (S2.out.next hb3)
  clear k2g00 k2g01 k2w00 k2w01
  clear hb3 S2 
  obtain ⟨k3g00, k3g01⟩ := cel2 S3.out.b0
  go_wp2_with fail
  refine (HMG.out _ _ _ S3.out.o0).mono ?_
  rintro e w4 ⟨rfl, ho4, q4, hg4, hq4⟩
  have S4 := mkHid (S3.out.mark hg4 hq4 ho4 QG.out)
  clear k3g00 k3g01
  clear ho4 hg4 hq4 S3 HMG
  obtain ⟨k4g00, k4g01⟩ := cel2 S4.out.b0
  go_wp2_with fail
  refine (HHG.out _ _ _ S4.out.o0.rd).mono ?_
  rintro e w5 ⟨rfl, hb5⟩
  have S5 := mkHid (S4.out.next hb5)
  clear k4g00 k4g01
  clear hb5 S4 
  go_wp2_with fail
  refine (HI.out _).mono ?_
  rintro e w6 ⟨a6, c6, rfl, ho6, hf6, hb6, hc6⟩
  have S6 := mkHid ((S5.out.row hb6 ho6.rd hf6).var (.cells #[.slice a6 ts.length c6, .int .i64 q] 34))
  clear hb6 S5 ho6 hf6 HI
  obtain ⟨k6h00, k6h01⟩ := cel2 S6.out.b0
  obtain ⟨k6w00, k6w01⟩ := cel2 S6.out.b2
  go_wp2_with fail
  refine (HE.out _ _ _ _ _ S6.out.r0 S6.out.r1).mono ?_
  rintro e w7 ⟨rfl, hb7⟩
  have S7 := mkHid (S6.out.next hb7)
  clear k6h00 k6h01 k6w00 k6w01
  clear hb7 S6 
  obtain ⟨k7g00, k7g01⟩ := cel2 S7.out.b1
  go_wp2_with fail
  refine (HHG.out _ _ _ S7.out.o0.rd).mono ?_
  rintro e w8 ⟨rfl, hb8⟩
  have S8 := mkHid (S7.out.next hb8)
  clear k7g00 k7g01
  clear hb8 S7 
  go_wp2
  go_ret
  exact ⟨rfl, S8.out.below⟩
end Go.Proofs.Ytmmmadehifajlaa.plc
