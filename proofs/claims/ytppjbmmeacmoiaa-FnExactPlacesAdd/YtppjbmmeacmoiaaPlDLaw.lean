/-
  laws.FnExactPlacesDrop answers true at every row of places and pack, and leaves what was there as it was. No condition.
-/
import Derived.Test.YtppjbmmeacmoiaaDrpS
import Derived.Test.YtppjbmmeacmoiaaMem
import Derived.Test.YtppjbmmeacmoiaaPlaceCame
namespace Go.Proofs.Ytppjbmmeacmoiaa.plc
open Go.RowKit Go.Joins
open Go.Proofs.Ytppjbmmeacmoiaa.base Go.Proofs.Ytppjbmmeacmoiaa.blk Go.Proofs.Ytppjbmmeacmoiaa.aid
open Go.Proofs.Ytppjbmmeacmoiaa.row (Rd Own OwnV)
open Go.Proofs.Ytppjbmmeacmoiaa.rwPlace (cs szF me SPost)
set_option linter.unusedVariables false
set_option linter.unusedSimpArgs false

theorem me_ne {n : Nat} {l : List Pl} (hn : l.length = n) (h : cs (me 1 n) ≠ []) : cs l ≠ [] := by
  intro e
  have := rwPlace.cs_zero e
  subst this
  simp at hn
  subst hn
  exact h rfl
theorem dropA_len (l : List Pl) (k : ByteArray) : (dropA l k).length ≤ l.length := by
  unfold dropA
  split
  · simp
  · exact List.length_filter_le _ _
set_option maxRecDepth 100000 in
set_option maxHeartbeats 4000000 in
theorem drop_walk (a : Option Addr) (c : Nat) (l : List Pl) (k : ByteArray) (w : World) (hl : (l.length : Int) ≤ 9223372036854775807) (hs : ∀ b ∈ l, (b.1.size : Int) ≤ 9223372036854775807 ∧ (b.2.1.size : Int) ≤ 9223372036854775807) (hr : Rd w a (cs l)) (hk : (k.size : Int) ≤ 9223372036854775807) :
    Calls Try.prog 6 #[.slice a l.length c, .string k] w fun e w' => e = .returned (.bool true) ∧ Below w.heap.size w w' := by
  by_cases hk1 : (1048576 : Int) < (k.size : Int)
  · clear hr hs hl
    go_enter Try.func6, Try.ntmps6
    go_wp2
    go_ret
    exact ⟨rfl, Below.refl _ _⟩
  have hk2 : (k.size : Int) ≤ 1048576 := by omega
  have hk3 : k.size ≤ 1048576 := by omega
  have HZ := mkHid (rwPlace.szS_any a c l w hl hs hr)
  have S0 := mkHid (mem.startR hr)
  by_cases hz : szF l 1048576 < 0
  · generalize szF l 1048576 = z at *
    clear hr hs
    go_enter Try.func6, Try.ntmps6
    go_wp2_with fail
    refine HZ.out.mono ?_
    rintro e w1 ⟨rfl, hb1⟩
    have S1 := mkHid (S0.out.next hb1)
    clear hb1
    go_wp2
    go_ret
    exact ⟨rfl, S1.out.below⟩
  have hz0 : 0 ≤ szF l 1048576 := by omega
  have hl1 := rwPlace.szF_len hz0
  have hs1 : Small l := rwPlace.szF_small hz0
  generalize szF l 1048576 = z at *
  have HT := mkHid (fun wx (hx : Rd wx a (cs l)) => rwPlace.toS_any a c l wx hl1 hx)
  unfold SPost at HT
  have HEX := mkHid (fun wx a1 c1 a2 c2 (h1 : Rd wx a1 (cs l)) (h2 : Rd wx a2 (cs l)) => rwPlace.eqS_same a1 a2 c1 c2 l wx hl1 h1 h2)
  have HS := mkHid (fun wx a' c' (hx : Rd wx a' (cs l)) => dropS_any a' c' l k wx hl1 hs1 hk3 hx)
  have HI := mkHid (fun wx a' c' (hx : Rd wx a' (cs l)) => dropI_any a' c' l k wx hl1 hs1 hk3 hx)
  unfold SPost at HS HI
  have htl := dropA_len l k
  generalize dropA l k = ts at *
  have htn : ts.length ≤ 1048576 := by omega
  have HE := mkHid (fun wx a1 c1 a2 c2 (h1 : Rd wx a1 (cs ts)) (h2 : Rd wx a2 (cs ts)) => rwPlace.eqS_same a1 a2 c1 c2 ts wx htn h1 h2)
  have HMX := mkHid (fun wx a1 c1 (h : OwnV 37 wx a1 (cs l)) => rwPlace.mark_any a1 c1 l 1 wx hl1 (by omega) h)
  have HMG := mkHid (fun wx a1 c1 (h : OwnV 37 wx a1 (cs ts)) => rwPlace.mark_any a1 c1 ts 1 wx htn (by omega) h)
  have HHG := mkHid (fun wx a1 c1 (h : Rd wx a1 (cs (me 1 ts.length))) => rwPlace.held_any a1 c1 ts.length 1 wx htn (by omega) h)
  have QX : Hid (cs (me 1 l.length) ≠ [] → cs l ≠ []) := mkHid (me_ne rfl)
  have QG : Hid (cs (me 1 ts.length) ≠ [] → cs ts ≠ []) := mkHid (me_ne rfl)
  have hli : (l.length : Int) ≤ 1048576 := by omega
  have hti : (ts.length : Int) ≤ 1048576 := by omega
  have hk7 : 0 ≤ 1 + 5 * (l.length : Int) := by omega
  have hk8 : 0 ≤ 1 + 5 * (ts.length : Int) := by omega
  have hk9 : (1 + 5 * (ts.length : Int) != 1 + 5 * (ts.length : Int)) = false := by simp
  clear hr hs hl hs1 hz hl1 htl htn
  go_enter Try.func6, Try.ntmps6
  go_wp2_with fail
  refine (HZ.out).mono ?_
  rintro e w1 ⟨rfl, hb1⟩
  have S1 := mkHid (S0.out.next hb1)
  clear hb1 S0 HZ
  go_wp2_with fail
  refine (HT.out _ S1.out.r0).mono ?_
  rintro e w2 ⟨a2, c2, rfl, ho2, hf2, hb2, hc2⟩
  have S2 := mkHid (S1.out.own hb2 ho2 hf2)
  clear hb2 S1 ho2 hf2 
  go_wp2_with fail
  refine (HS.out _ _ _ S2.out.o0.rd).mono ?_
  rintro e w3 ⟨a3, c3, rfl, ho3, hf3, hb3, hc3⟩
  have S3 := mkHid (S2.out.row hb3 ho3.rd hf3)
  clear hb3 S2 ho3 hf3 HS
  go_wp2_with fail
  refine (HT.out _ S3.out.r1).mono ?_
  rintro e w4 ⟨a4, c4, rfl, ho4, hf4, hb4, hc4⟩
  have S4 := mkHid (S3.out.own hb4 ho4 hf4)
  clear hb4 S3 ho4 hf4 
  go_wp2_with fail
  refine (HI.out _ _ _ S4.out.o0.rd).mono ?_
  rintro e w5 ⟨a5, c5, rfl, ho5, hf5, hb5, hc5⟩
  have S5 := mkHid (S4.out.own hb5 ho5 hf5)
  clear hb5 S4 ho5 hf5 
  go_wp2_with fail
  refine (HE.out _ _ _ _ _ S5.out.o0.rd S5.out.r0).mono ?_
  rintro e w6 ⟨rfl, hb6⟩
  have S6 := mkHid (S5.out.next hb6)
  clear hb6 S5 
  go_wp2_with fail
  refine (HT.out _ S6.out.r1).mono ?_
  rintro e w7 ⟨a7, c7, rfl, ho7, hf7, hb7, hc7⟩
  have S7 := mkHid (S6.out.own hb7 ho7 hf7)
  clear hb7 S6 ho7 hf7 
  go_wp2_with fail
  refine (HEX.out _ _ _ _ _ S7.out.o2.rd S7.out.o0.rd).mono ?_
  rintro e w8 ⟨rfl, hb8⟩
  have S8 := mkHid (S7.out.next hb8)
  clear hb8 S7 
  have Sm := mkHid S8.out.lessO.swap
  clear S8
  go_wp2_with fail
  refine (HMX.out _ _ _ Sm.out.o0).mono ?_
  rintro e w9 ⟨rfl, ho9, q9, hg9, hq9⟩
  have S9 := mkHid (Sm.out.mark hg9 hq9 ho9 QX.out)
  clear ho9 hg9 hq9 Sm HMX
  go_wp2_with fail
  refine (HE.out _ _ _ _ _ S9.out.o1.rd S9.out.r0).mono ?_
  rintro e w10 ⟨rfl, hb10⟩
  have S10 := mkHid (S9.out.next hb10)
  clear hb10 S9 
  have Sn := mkHid S10.out.lessO
  clear S10
  go_wp2_with fail
  refine (HMG.out _ _ _ Sn.out.o0).mono ?_
  rintro e w11 ⟨rfl, ho11, q11, hg11, hq11⟩
  have S11 := mkHid (Sn.out.mark hg11 hq11 ho11 QG.out)
  clear ho11 hg11 hq11 Sn HMG
  go_wp2_with fail
  refine (HHG.out _ _ _ S11.out.o0.rd).mono ?_
  rintro e w12 ⟨rfl, hb12⟩
  have S12 := mkHid (S11.out.next hb12)
  clear hb12 S11 
  go_wp2_with fail
  refine (HT.out _ S12.out.r1).mono ?_
  rintro e w13 ⟨a13, c13, rfl, ho13, hf13, hb13, hc13⟩
  have S13 := mkHid (S12.out.own hb13 ho13 hf13)
  clear hb13 S12 ho13 hf13 
  go_wp2_with fail
  refine (HI.out _ _ _ S13.out.o0.rd).mono ?_
  rintro e w14 ⟨a14, c14, rfl, ho14, hf14, hb14, hc14⟩
  have S14 := mkHid (S13.out.row hb14 ho14.rd hf14)
  clear hb14 S13 ho14 hf14 HI
  go_wp2_with fail
  refine (HE.out _ _ _ _ _ S14.out.r0 S14.out.r1).mono ?_
  rintro e w15 ⟨rfl, hb15⟩
  have S15 := mkHid (S14.out.next hb15)
  clear hb15 S14 
  go_wp2_with fail
  refine (HHG.out _ _ _ S15.out.o1.rd).mono ?_
  rintro e w16 ⟨rfl, hb16⟩
  have S16 := mkHid (S15.out.next hb16)
  clear hb16 S15 
  go_wp2
  go_ret
  exact ⟨rfl, S16.out.below⟩
end Go.Proofs.Ytppjbmmeacmoiaa.plc
