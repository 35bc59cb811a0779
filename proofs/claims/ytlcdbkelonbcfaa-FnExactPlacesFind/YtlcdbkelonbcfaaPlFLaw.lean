/-
  laws.FnExactPlacesFind answers true at every row of places and key, and leaves what was there as it was. No condition.
-/
import Derived.Test.YtlcdbkelonbcfaaFdJ
import Derived.Test.YtlcdbkelonbcfaaMem
import Derived.Test.YtlcdbkelonbcfaaPlaceCame
namespace Go.Proofs.Ytlcdbkelonbcfaa.plc
open Go.RowKit Go.Joins
open Go.Proofs.Ytlcdbkelonbcfaa.base Go.Proofs.Ytlcdbkelonbcfaa.blk Go.Proofs.Ytlcdbkelonbcfaa.aid
open Go.Proofs.Ytlcdbkelonbcfaa.row (Rd Own OwnV)
open Go.Proofs.Ytlcdbkelonbcfaa.rwPlace (cs szF me SPost)
set_option linter.unusedVariables false
set_option linter.unusedSimpArgs false

set_option maxRecDepth 100000 in
theorem eqOut_same (x0 x1 : ByteArray) (x2 x3 x4 x5 : Int) (w : World) :
    Calls Try.prog 21 #[.agg #[.string x0, .string x1, .int .i64 x2, .int .i64 x3, .int .i64 x4, .int .i64 x5], .agg #[.string x0, .string x1, .int .i64 x2, .int .i64 x3, .int .i64 x4, .int .i64 x5]] w fun e w' => e = .returned (.bool true) ∧ Below w.heap.size w w' := by
  have HE := mkHid (fun wx => rwPlace.eq_same x0 x1 x2 x3 x4 wx)
  have B0 := mkHid (rwPlace.below2 w (.cells #[.string x0, .string x1, .int .i64 x2, .int .i64 x3, .int .i64 x4, .int .i64 x5] 42) (.cells #[.string x0, .string x1, .int .i64 x2, .int .i64 x3, .int .i64 x4, .int .i64 x5] 42))
  have b1 := mkHid (blk_old (blk_new w (.cells #[.string x0, .string x1, .int .i64 x2, .int .i64 x3, .int .i64 x4, .int .i64 x5] 42) w.heap.size rfl) (.cells #[.string x0, .string x1, .int .i64 x2, .int .i64 x3, .int .i64 x4, .int .i64 x5] 42))
  have b2 := mkHid (blk_new (w.alloc (.cells #[.string x0, .string x1, .int .i64 x2, .int .i64 x3, .int .i64 x4, .int .i64 x5] 42)) (.cells #[.string x0, .string x1, .int .i64 x2, .int .i64 x3, .int .i64 x4, .int .i64 x5] 42) (w.heap.size + 1) (by simp))
  have h5 : (x5 != x5) = false := by simp
  go_enter Try.func21, Try.ntmps21
  go_wp2_with fail
  refine (HE.out _).mono ?_
  rintro e w1 ⟨rfl, hb⟩
  obtain ⟨_, _, _, _, _, c5⟩ := cel6 (blk_below b1.out hb)
  obtain ⟨_, _, _, _, _, d5⟩ := cel6 (blk_below b2.out hb)
  have B1 := mkHid (below_trans B0.out hb)
  clear hb b1 b2 B0
  go_wp2
  go_ret
  exact ⟨rfl, B1.out⟩
set_option maxRecDepth 100000 in
set_option maxHeartbeats 2000000 in
theorem find_walk (a : Option Addr) (c : Nat) (l : List Pl) (k : ByteArray) (w : World) (hl : (l.length : Int) ≤ 9223372036854775807) (hs : ∀ b ∈ l, (b.1.size : Int) ≤ 9223372036854775807 ∧ (b.2.1.size : Int) ≤ 9223372036854775807) (hr : Rd w a (cs l)) (hk : (k.size : Int) ≤ 9223372036854775807) :
    Calls Try.prog 4 #[.slice a l.length c, .string k] w fun e w' => e = .returned (.bool true) ∧ Below w.heap.size w w' := by
  by_cases hk1 : (1048576 : Int) < (k.size : Int)
  · clear hr hs hl
    go_enter Try.func4, Try.ntmps4
    go_wp2
    go_ret
    exact ⟨rfl, Below.refl _ _⟩
  have hk2 : (k.size : Int) ≤ 1048576 := by omega
  have hk3 : k.size ≤ 1048576 := by omega
  have HZ := mkHid (rwPlace.szS_any a c l w hl hs hr)
  have S0 := mkHid (mem.startR hr)
  by_cases hz : szF l 1048576 < 0
  · generalize szF l 1048576 = z at *
    clear hr hs
    go_enter Try.func4, Try.ntmps4
    go_wp2_with fail
    refine HZ.out.mono ?_
    rintro e w1 ⟨rfl, hb1⟩
    have S1 := mkHid (S0.out.next hb1)
    clear hb1
    go_wp2
    go_ret
    exact ⟨rfl, S1.out.below⟩
  have hz0 : 0 ≤ szF l 1048576 := by omega
  have hl1 := rwPlace.szF_len hz0
  have hs1 : Small l := rwPlace.szF_small hz0
  generalize szF l 1048576 = z at *
  have HT := mkHid (fun wx (hx : Rd wx a (cs l)) => rwPlace.toS_any a c l wx hl1 hx)
  unfold SPost at HT
  have HEX := mkHid (fun wx a1 c1 a2 c2 (h1 : Rd wx a1 (cs l)) (h2 : Rd wx a2 (cs l)) => rwPlace.eqS_same a1 a2 c1 c2 l wx hl1 h1 h2)
  have HS := mkHid (fun wx a' c' (hx : Rd wx a' (cs l)) => placesFindS_any a' c' l k wx hl1 hs1 hk3 hx)
  have HI := mkHid (fun wx a' c' (hx : Rd wx a' (cs l)) => placesFindI_any a' c' l k wx hl1 hs1 hk3 hx)
  unfold outV at HS HI
  generalize findA l k = r at *
  obtain ⟨⟨x0, x1, x2, x3, x4⟩, x5⟩ := r
  simp only at HS HI
  have HEO := mkHid (fun wx => eqOut_same x0 x1 x2 x3 x4 x5 wx)
  have hli : (l.length : Int) ≤ 1048576 := by omega
  clear hr hs hl hs1 hz hl1
  go_enter Try.func4, Try.ntmps4
  go_wp2_with fail
  refine (HZ.out).mono ?_
  rintro e w1 ⟨rfl, hb1⟩
  have S1 := mkHid (S0.out.next hb1)
  clear hb1 S0 HZ
  go_wp2_with fail
  refine (HT.out _ S1.out.r0).mono ?_
  rintro e w2 ⟨a2, c2, rfl, ho2, hf2, hb2, hc2⟩
  have S2 := mkHid (S1.out.own hb2 ho2 hf2)
  clear hb2 S1 ho2 hf2 
  go_wp2_with fail
  refine (HS.out _ _ _ S2.out.o0.rd).mono ?_
  rintro e w3 ⟨rfl, hb3⟩
  have S3 := mkHid ((S2.out.next hb3).var (.cells #[.string x0, .string x1, .int .i64 x2, .int .i64 x3, .int .i64 x4, .int .i64 x5] 42))
  clear hb3 S2 HS
  go_wp2_with fail
  refine (HT.out _ S3.out.r0).mono ?_
  rintro e w4 ⟨a4, c4, rfl, ho4, hf4, hb4, hc4⟩
  have S4 := mkHid (S3.out.own hb4 ho4 hf4)
  clear hb4 S3 ho4 hf4 
  go_wp2_with fail
  refine (HI.out _ _ _ S4.out.o0.rd).mono ?_
  rintro e w5 ⟨rfl, hb5⟩
  have S5 := mkHid ((S4.out.next hb5).var (.cells #[.string x0, .string x1, .int .i64 x2, .int .i64 x3, .int .i64 x4, .int .i64 x5] 42))
  clear hb5 S4 HI
  obtain ⟨g00, g01, g02, g03, g04, g05⟩ := cel6 S5.out.b0
  obtain ⟨w00, w01, w02, w03, w04, w05⟩ := cel6 S5.out.b1
  go_wp2_with fail
  refine (HEO.out _).mono ?_
  rintro e w6 ⟨rfl, hb6⟩
  have S6 := mkHid (S5.out.next hb6)
  clear g00 g01 g02 g03 g04 g05 w00 w01 w02 w03 w04 w05
  clear hb6 S5 
  go_wp2_with fail
  refine (HT.out _ S6.out.r0).mono ?_
  rintro e w7 ⟨a7, c7, rfl, ho7, hf7, hb7, hc7⟩
  have S7 := mkHid (S6.out.own hb7 ho7 hf7)
  clear hb7 S6 ho7 hf7 
  go_wp2_with fail
  refine (HEX.out _ _ _ _ _ S7.out.o1.rd S7.out.o0.rd).mono ?_
  rintro e w8 ⟨rfl, hb8⟩
  have S8 := mkHid (S7.out.next hb8)
  clear hb8 S7 
  go_wp2
  go_ret
  exact ⟨rfl, S8.out.below⟩
end Go.Proofs.Ytlcdbkelonbcfaa.plc
