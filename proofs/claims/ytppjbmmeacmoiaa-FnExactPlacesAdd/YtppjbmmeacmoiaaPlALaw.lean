/-
  laws.FnExactPlacesAdd answers true at every two rows of places, and leaves what was there as it was. No condition.
-/
import Derived.Test.YtppjbmmeacmoiaaAdI
import Derived.Test.YtppjbmmeacmoiaaMem
import Derived.Test.YtppjbmmeacmoiaaPlaceCame
import Derived.Test.YtppjbmmeacmoiaaPlDLaw
namespace Go.Proofs.Ytppjbmmeacmoiaa.plc
open Go.RowKit Go.Joins
open Go.Proofs.Ytppjbmmeacmoiaa.base Go.Proofs.Ytppjbmmeacmoiaa.blk Go.Proofs.Ytppjbmmeacmoiaa.aid
open Go.Proofs.Ytppjbmmeacmoiaa.row (Rd Own OwnV)
open Go.Proofs.Ytppjbmmeacmoiaa.rwPlace (cs szF me SPost)
set_option linter.unusedVariables false
set_option linter.unusedSimpArgs false

theorem me_neM {k n : Nat} {l : List Pl} (hn : l.length = n) (h : cs (me k n) ≠ []) : cs l ≠ [] := by
  intro e
  have := rwPlace.cs_zero e
  subst this
  simp at hn
  subst hn
  exact h rfl
theorem mark_at (a : Option Addr) (cap : Nat) (l : List Pl) (m : Nat) (k : Int) (w : World) (hk : (m : Int) = k) (hl : l.length ≤ 1048576) (hm1 : m ≤ 8000000) (hr : OwnV 37 w a (cs l)) :
    Calls Try.prog 15 #[.slice a l.length cap, .int .i64 k] w fun e w' => e = .returned (.int .i64 (k + 5 * l.length)) ∧ OwnV 37 w' a (cs (me m l.length)) ∧ ∃ r, w.grownBy w' r ∧ ∀ b, r = some b → cs l ≠ [] ∧ ∃ o s, a = some ⟨b, o, s⟩ := by
  subst hk
  exact rwPlace.mark_any a cap l m w hl hm1 hr
theorem grew_alloc (w : World) (o : Obj) (r : Option Nat) : w.grownBy (w.alloc o) r := below_grew (below_alloc1 w o) r
set_option maxRecDepth 100000 in
theorem eqOuts_same (a b : Option Addr) (ca cb : Nat) (l : List Pl) (q : Int) (w : World) (hl : l.length ≤ 1048576) (ha : Rd w a (cs l)) (hb : Rd w b (cs l)) :
    Calls Try.prog 14 #[.agg #[.slice a l.length ca, .int .i64 q], .agg #[.slice b l.length cb, .int .i64 q]] w fun e w' => e = .returned (.bool true) ∧ Below w.heap.size w w' := by
  have B0 := mkHid (rwPlace.below2 w (.cells #[.slice a l.length ca, .int .i64 q] 30) (.cells #[.slice b l.length cb, .int .i64 q] 30))
  have b1 := mkHid (blk_old (blk_new w (.cells #[.slice a l.length ca, .int .i64 q] 30) w.heap.size rfl) (.cells #[.slice b l.length cb, .int .i64 q] 30))
  have b2 := mkHid (blk_new (w.alloc (.cells #[.slice a l.length ca, .int .i64 q] 30)) (.cells #[.slice b l.length cb, .int .i64 q] 30) (w.heap.size + 1) (by simp))
  have HE := mkHid (rwPlace.eqS_same a b ca cb l _ hl (ha.below B0.out) (hb.below B0.out))
  have h5 : (q != q) = false := by simp
  clear ha hb
  go_enter Try.func14, Try.ntmps14
  go_wp2_with fail
  refine HE.out.mono ?_
  rintro e w1 ⟨rfl, hb⟩
  obtain ⟨_, c5⟩ := cel2 (blk_below b1.out hb)
  obtain ⟨_, d5⟩ := cel2 (blk_below b2.out hb)
  have B1 := mkHid (below_trans B0.out hb)
  clear hb b1 b2 B0 HE
  go_wp2
  go_ret
  exact ⟨rfl, B1.out⟩
set_option maxRecDepth 100000 in
theorem markOut_any (a : Option Addr) (cap : Nat) (l : List Pl) (q : Int) (w : World) (hl : l.length ≤ 1048576) (hr : OwnV 37 w a (cs l)) :
    Calls Try.prog 16 #[.agg #[.slice a l.length cap, .int .i64 q], .int .i64 1] w fun e w' => e = .returned (.int .i64 (1 + 5 * l.length)) ∧ OwnV 37 w' a (cs (me 1 l.length)) ∧ ∃ r, w.grownBy w' r ∧ ∀ b, r = some b → cs l ≠ [] ∧ ∃ o s, a = some ⟨b, o, s⟩ := by
  have HM := mkHid (mark_at a cap l 1 1 (w.alloc (.cells #[.slice a l.length cap, .int .i64 q] 30)) rfl hl (by omega) (mem.own_off hr (grew_alloc w _ none) (fun _ e => by cases e)))
  clear hr
  go_enter Try.func16, Try.ntmps16
  go_wp2_with fail
  refine HM.out.mono ?_
  rintro e w1 ⟨rfl, ho, r, hg, hq⟩
  have F := mkHid (And.intro ho (And.intro (World.grownBy.andThen (row := r) (grew_alloc w (.cells #[.slice a l.length cap, .int .i64 q] 30) r) hg (fun j hj => .inr hj)) hq))
  clear ho hg hq HM
  go_wp2
  go_ret
  exact ⟨rfl, F.out.1, r, F.out.2⟩
set_option maxRecDepth 100000 in
theorem heldOut_any (a : Option Addr) (cap n : Nat) (q : Int) (w : World) (hl : n ≤ 1048576) (hr : Rd w a (cs (me 1 n))) :
    Calls Try.prog 17 #[.agg #[.slice a n cap, .int .i64 q], .int .i64 1] w fun e w' => e = .returned (.int .i64 (1 + 5 * n)) ∧ Below w.heap.size w w' := by
  have HH := mkHid (rwPlace.held_any a cap n 1 (w.alloc (.cells #[.slice a n cap, .int .i64 q] 30)) hl (by omega) (hr.alloc _))
  have h0 : (((1 : Nat) : Int) + 5 * (n : Int) < 0) = False := eq_false (by omega)
  have h1 : (1 + 5 * (n : Int) < 0) = False := eq_false (by omega)
  clear hr
  go_enter Try.func17, Try.ntmps17
  go_wp2_with fail
  refine HH.out.mono ?_
  rintro e w1 ⟨rfl, hb⟩
  have B1 := mkHid (below_trans (below_alloc1 w (.cells #[.slice a n cap, .int .i64 q] 30)) hb)
  clear hb HH
  go_wp2
  go_ret
  exact ⟨by first | rfl | simp, B1.out⟩
set_option maxRecDepth 100000 in
set_option maxHeartbeats 4000000 in
theorem add_walk (a : Option Addr) (c : Nat) (l : List Pl) (a' : Option Addr) (c' : Nat) (m : List Pl) (w : World) (hl : (l.length : Int) ≤ 9223372036854775807) (hs : ∀ b ∈ l, (b.1.size : Int) ≤ 9223372036854775807 ∧ (b.2.1.size : Int) ≤ 9223372036854775807) (hr : Rd w a (cs l)) (hm : (m.length : Int) ≤ 9223372036854775807) (hsm : ∀ b ∈ m, (b.1.size : Int) ≤ 9223372036854775807 ∧ (b.2.1.size : Int) ≤ 9223372036854775807) (hrm : Rd w a' (cs m)) :
    Calls Try.prog 4 #[.slice a l.length c, .slice a' m.length c'] w fun e w' => e = .returned (.bool true) ∧ Below w.heap.size w w' := by
  have HZ := mkHid (rwPlace.szS_any a c l w hl hs hr)
  have S0 := mkHid (mem.startR2 hr hrm)
  by_cases hz : szF l 1048576 < 0
  · generalize szF l 1048576 = z at *
    clear hr hs hrm hsm
    go_enter Try.func4, Try.ntmps4
    go_wp2_with fail
    refine HZ.out.mono ?_
    rintro e w1 ⟨rfl, hb1⟩
    have S1 := mkHid (S0.out.next hb1)
    clear hb1
    go_wp2
    go_ret
    exact ⟨rfl, S1.out.below⟩
  have hz0 : 0 ≤ szF l 1048576 := by omega
  have hl1 := rwPlace.szF_len hz0
  have hs1 : Small l := rwPlace.szF_small hz0
  have hzle := rwPlace.szF_le hz0
  have hz1 : szF l 1048576 ≤ 1048576 := by omega
  generalize szF l 1048576 = z at *
  have HZ2 := mkHid (fun wx (hx : Rd wx a' (cs m)) => rwPlace.szM_any z hz0 hz1 a' c' m wx hm hsm hx)
  by_cases hy : szF m z < 0
  · generalize szF m z = y at *
    clear hr hs hrm hsm
    go_enter Try.func4, Try.ntmps4
    go_wp2_with fail
    refine HZ.out.mono ?_
    rintro e w1 ⟨rfl, hb1⟩
    have S1 := mkHid (S0.out.next hb1)
    clear hb1
    go_wp2_with fail
    refine (HZ2.out _ S1.out.r1).mono ?_
    rintro e w2 ⟨rfl, hb2⟩
    have S2 := mkHid (S1.out.next hb2)
    clear hb2
    go_wp2
    go_ret
    exact ⟨rfl, S2.out.below⟩
  have hy0 : 0 ≤ szF m z := by omega
  have hyle := rwPlace.szF_le hy0
  have hm1 : m.length ≤ 1048576 := by omega
  have hsm1 : Small m := rwPlace.szF_smallM hz1 hy0
  generalize szF m z = y at *
  have HT := mkHid (fun wx (hx : Rd wx a (cs l)) => rwPlace.toS_any a c l wx hl1 hx)
  have HU := mkHid (fun wx (hx : Rd wx a' (cs m)) => rwPlace.toS_any a' c' m wx hm1 hx)
  unfold SPost at HT HU
  have HEX := mkHid (fun wx a1 c1 a2 c2 (h1 : Rd wx a1 (cs l)) (h2 : Rd wx a2 (cs l)) => rwPlace.eqS_same a1 a2 c1 c2 l wx hl1 h1 h2)
  have HEY := mkHid (fun wx a1 c1 a2 c2 (h1 : Rd wx a1 (cs m)) (h2 : Rd wx a2 (cs m)) => rwPlace.eqS_same a1 a2 c1 c2 m wx hm1 h1 h2)
  have HS := mkHid (fun wx a1 c1 a2 c2 (h1 : Rd wx a1 (cs l)) (h2 : Rd wx a2 (cs m)) => addS_any a1 c1 l a2 c2 m wx hl1 hs1 h1 hm1 hsm1 h2)
  have HI := mkHid (fun wx a1 c1 a2 c2 (h1 : Rd wx a1 (cs l)) (h2 : Rd wx a2 (cs m)) => addI_any a1 c1 l a2 c2 m wx hl1 hs1 h1 hm1 hsm1 h2)
  unfold APost at HS
  unfold AOwn at HI
  have htl := addA_len l m
  generalize addA l m = r at *
  obtain ⟨ts, q⟩ := r
  simp only at HS HI htl
  have htn : ts.length ≤ 1048576 := by omega
  have HE := mkHid (fun wx a1 c1 a2 c2 (h1 : Rd wx a1 (cs ts)) (h2 : Rd wx a2 (cs ts)) => eqOuts_same a1 a2 c1 c2 ts q wx htn h1 h2)
  have HMX := mkHid (fun wx a1 c1 (h : OwnV 37 wx a1 (cs l)) => mark_at a1 c1 l 1 1 wx rfl hl1 (by omega) h)
  have HMY := mkHid (fun wx a1 c1 (h : OwnV 37 wx a1 (cs m)) => mark_at a1 c1 m (1 + 5 * l.length) (1 + 5 * (l.length : Int)) wx (by omega) hm1 (by omega) h)
  have HMG := mkHid (fun wx a1 c1 (h : OwnV 37 wx a1 (cs ts)) => markOut_any a1 c1 ts q wx htn h)
  have HHG := mkHid (fun wx a1 c1 (h : Rd wx a1 (cs (me 1 ts.length))) => heldOut_any a1 c1 ts.length q wx htn h)
  have QX : Hid (cs (me 1 l.length) ≠ [] → cs l ≠ []) := mkHid (me_ne rfl)
  have QY : Hid (cs (me (1 + 5 * l.length) m.length) ≠ [] → cs m ≠ []) := mkHid (me_neM rfl)
  have QG : Hid (cs (me 1 ts.length) ≠ [] → cs ts ≠ []) := mkHid (me_ne rfl)
  have hli : (l.length : Int) ≤ 1048576 := by omega
  have hmi : (m.length : Int) ≤ 1048576 := by omega
  have hti : (ts.length : Int) ≤ 300 := by omega
  have hk7 : 0 ≤ 1 + 5 * (l.length : Int) + 5 * (m.length : Int) := by omega
  have hk8 : 0 ≤ 1 + 5 * (ts.length : Int) := by omega
  have hk9 : (1 + 5 * (ts.length : Int) != 1 + 5 * (ts.length : Int)) = false := by simp
  clear hr hs hl hs1 hz hl1 htl htn hrm hsm hm1 hsm1 hzle hyle hm
  go_enter Try.func4, Try.ntmps4
  go_wp2_with fail
  refine (HZ.out).mono ?_
  rintro e w1 ⟨rfl, hb1⟩
  have S1 := mkHid (S0.out.next hb1)
  clear hb1 S0 HZ
  go_wp2_with fail
  refine (HZ2.out _ S1.out.r1).mono ?_
  rintro e w2 ⟨rfl, hb2⟩
  have S2 := mkHid (S1.out.next hb2)
  clear hb2 S1 HZ2
  go_wp2_with fail
  refine (HT.out _ S2.out.r0).mono ?_
  rintro e w3 ⟨a3, c3, rfl, ho3, hf3, hb3, hc3⟩
  have S3 := mkHid (S2.out.own hb3 ho3 hf3)
  clear hb3 S2 ho3 hf3 
  go_wp2_with fail
  refine (HU.out _ S3.out.r1).mono ?_
  rintro e w4 ⟨a4, c4, rfl, ho4, hf4, hb4, hc4⟩
  have S4 := mkHid (S3.out.own hb4 ho4 hf4)
  clear hb4 S3 ho4 hf4 
  go_wp2_with fail
  refine (HS.out _ _ _ _ _ S4.out.o1.rd S4.out.o0.rd).mono ?_
  rintro e w5 ⟨a5, c5, rfl, ho5, hf5, hb5, hc5⟩
  have S5 := mkHid ((S4.out.row hb5 ho5 hf5).var (.cells #[.slice a5 ts.length c5, .int .i64 q] 30))
  clear hb5 S4 ho5 hf5 HS
  have Sk := mkHid S5.out.lessO.lessO
  clear S5
  go_wp2_with fail
  refine (HT.out _ Sk.out.r1).mono ?_
  rintro e w6 ⟨a6, c6, rfl, ho6, hf6, hb6, hc6⟩
  have S6 := mkHid (Sk.out.own hb6 ho6 hf6)
  clear hb6 Sk ho6 hf6 
  go_wp2_with fail
  refine (HU.out _ S6.out.r2).mono ?_
  rintro e w7 ⟨a7, c7, rfl, ho7, hf7, hb7, hc7⟩
  have S7 := mkHid (S6.out.own hb7 ho7 hf7)
  clear hb7 S6 ho7 hf7 
  go_wp2_with fail
  refine (HI.out _ _ _ _ _ S7.out.o1.rd S7.out.o0.rd).mono ?_
  rintro e w8 ⟨a8, c8, rfl, ho8, hf8, hb8, hc8⟩
  have S8 := mkHid ((S7.out.own hb8 ho8 hf8).var (.cells #[.slice a8 ts.length c8, .int .i64 q] 30))
  clear hb8 S7 ho8 hf8 
  obtain ⟨k8g00, k8g01⟩ := cel2 S8.out.b0
  obtain ⟨k8w00, k8w01⟩ := cel2 S8.out.b1
  go_wp2_with fail
  refine (HE.out _ _ _ _ _ S8.out.o0.rd S8.out.r0).mono ?_
  rintro e w9 ⟨rfl, hb9⟩
  have S9 := mkHid (S8.out.next hb9)
  clear k8g00 k8g01 k8w00 k8w01
  clear hb9 S8 
  go_wp2_with fail
  refine (HT.out _ S9.out.r1).mono ?_
  rintro e w10 ⟨a10, c10, rfl, ho10, hf10, hb10, hc10⟩
  have S10 := mkHid (S9.out.own hb10 ho10 hf10)
  clear hb10 S9 ho10 hf10 
  go_wp2_with fail
  refine (HEX.out _ _ _ _ _ S10.out.o3.rd S10.out.o0.rd).mono ?_
  rintro e w11 ⟨rfl, hb11⟩
  have S11 := mkHid (S10.out.next hb11)
  clear hb11 S10 
  have Sl := mkHid S11.out.lessO
  clear S11
  go_wp2_with fail
  refine (HU.out _ Sl.out.r2).mono ?_
  rintro e w12 ⟨a12, c12, rfl, ho12, hf12, hb12, hc12⟩
  have S12 := mkHid (Sl.out.own hb12 ho12 hf12)
  clear hb12 Sl ho12 hf12 
  go_wp2_with fail
  refine (HEY.out _ _ _ _ _ S12.out.o2.rd S12.out.o0.rd).mono ?_
  rintro e w13 ⟨rfl, hb13⟩
  have S13 := mkHid (S12.out.next hb13)
  clear hb13 S12 
  have Sm := mkHid S13.out.lessO.third
  clear S13
  go_wp2_with fail
  refine (HMX.out _ _ _ Sm.out.o0).mono ?_
  rintro e w14 ⟨rfl, ho14, q14, hg14, hq14⟩
  have S14 := mkHid (Sm.out.mark hg14 hq14 ho14 QX.out)
  clear ho14 hg14 hq14 Sm HMX
  have Sn := mkHid S14.out.third
  clear S14
  go_wp2_with fail
  refine (HMY.out _ _ _ Sn.out.o0).mono ?_
  rintro e w15 ⟨rfl, ho15, q15, hg15, hq15⟩
  have S15 := mkHid (Sn.out.mark hg15 hq15 ho15 QY.out)
  clear ho15 hg15 hq15 Sn HMY
  have So := mkHid S15.out.third
  clear S15
  obtain ⟨k15g00, k15g01⟩ := cel2 So.out.b0
  obtain ⟨k15w00, k15w01⟩ := cel2 So.out.b1
  go_wp2_with fail
  refine (HE.out _ _ _ _ _ So.out.o0.rd So.out.r0).mono ?_
  rintro e w16 ⟨rfl, hb16⟩
  have S16 := mkHid (So.out.next hb16)
  clear k15g00 k15g01 k15w00 k15w01
  clear hb16 So 
  obtain ⟨k16g00, k16g01⟩ := cel2 S16.out.b0
  go_wp2_with fail
  refine (HMG.out _ _ _ S16.out.o0).mono ?_
  rintro e w17 ⟨rfl, ho17, q17, hg17, hq17⟩
  have S17 := mkHid (S16.out.mark hg17 hq17 ho17 QG.out)
  clear k16g00 k16g01
  clear ho17 hg17 hq17 S16 HMG
  obtain ⟨k17g00, k17g01⟩ := cel2 S17.out.b0
  go_wp2_with fail
  refine (HHG.out _ _ _ S17.out.o0.rd).mono ?_
  rintro e w18 ⟨rfl, hb18⟩
  have S18 := mkHid (S17.out.next hb18)
  clear k17g00 k17g01
  clear hb18 S17 
  go_wp2_with fail
  refine (HT.out _ S18.out.r1).mono ?_
  rintro e w19 ⟨a19, c19, rfl, ho19, hf19, hb19, hc19⟩
  have S19 := mkHid (S18.out.own hb19 ho19 hf19)
  clear hb19 S18 ho19 hf19 
  go_wp2_with fail
  refine (HU.out _ S19.out.r2).mono ?_
  rintro e w20 ⟨a20, c20, rfl, ho20, hf20, hb20, hc20⟩
  have S20 := mkHid (S19.out.own hb20 ho20 hf20)
  clear hb20 S19 ho20 hf20 
  go_wp2_with fail
  refine (HI.out _ _ _ _ _ S20.out.o1.rd S20.out.o0.rd).mono ?_
  rintro e w21 ⟨a21, c21, rfl, ho21, hf21, hb21, hc21⟩
  have S21 := mkHid ((S20.out.row hb21 ho21.rd hf21).var (.cells #[.slice a21 ts.length c21, .int .i64 q] 30))
  clear hb21 S20 ho21 hf21 HI
  obtain ⟨k21h00, k21h01⟩ := cel2 S21.out.b0
  obtain ⟨k21w00, k21w01⟩ := cel2 S21.out.b2
  go_wp2_with fail
  refine (HE.out _ _ _ _ _ S21.out.r0 S21.out.r1).mono ?_
  rintro e w22 ⟨rfl, hb22⟩
  have S22 := mkHid (S21.out.next hb22)
  clear k21h00 k21h01 k21w00 k21w01
  clear hb22 S21 
  obtain ⟨k22g00, k22g01⟩ := cel2 S22.out.b1
  go_wp2_with fail
  refine (HHG.out _ _ _ S22.out.o2.rd).mono ?_
  rintro e w23 ⟨rfl, hb23⟩
  have S23 := mkHid (S22.out.next hb23)
  clear k22g00 k22g01
  clear hb23 S22 
  go_wp2
  go_ret
  exact ⟨rfl, S23.out.below⟩
end Go.Proofs.Ytppjbmmeacmoiaa.plc
