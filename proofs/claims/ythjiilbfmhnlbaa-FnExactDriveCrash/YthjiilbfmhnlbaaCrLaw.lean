/-
  laws.FnExactDriveCrash answers true at every drive and every list of numbers, and leaves what was there as it was. No condition.
-/
import Derived.Test.YthjiilbfmhnlbaaDrvCs
namespace Go.Proofs.Ythjiilbfmhnlbaa.drv
open Go.RowKit Go.Joins
open Go.Proofs.Ythjiilbfmhnlbaa.base Go.Proofs.Ythjiilbfmhnlbaa.blk Go.Proofs.Ythjiilbfmhnlbaa.aid
open Go.Proofs.Ythjiilbfmhnlbaa.row (Rd Own OwnV)
open Go.Proofs.Ythjiilbfmhnlbaa.rwStored (cs szF me)
open Go.Proofs.Ythjiilbfmhnlbaa.ints (ix from_)
set_option linter.unusedVariables false

theorem crash_len (l : List File) (r : Int) (ks : List Int) : (crashD l r ks).1.length ≤ l.length := by
  unfold crashD
  split
  · simp
  · split
    · rw [keepL_len]; exact Nat.le_refl _
    · exact Nat.le_refl _
set_option maxRecDepth 100000 in
set_option maxHeartbeats 4000000 in
theorem crash_walk (a : Option Addr) (c : Nat) (l : List File) (r : Int) (ak : Option Addr) (ck : Nat) (ks : List Int) (w : World) (hl : (l.length : Int) ≤ 9223372036854775807) (hs : ∀ b ∈ l, (b.1.size : Int) ≤ 9223372036854775807 ∧ (b.2.1.size : Int) ≤ 9223372036854775807) (hr : Rd w a (cs l)) (hkl : (ks.length : Int) ≤ 9223372036854775807) (hrk : Rd w ak (ix ks)) :
    Calls Try.prog 9 #[.agg #[.slice a l.length c, .int .i64 r], .slice ak ks.length ck] w fun e w' => e = .returned (.bool true) ∧ Below w.heap.size w w' := by
  by_cases hn1 : (1048576 : Int) < ks.length
  · clear hr hs hrk
    go_enter Try.func9, Try.ntmps9
    go_wp2
    go_ret
    exact ⟨rfl, below_alloc1 _ _⟩
  have hn2 : (ks.length : Int) ≤ 1048576 := by omega
  have HZ := mkHid (sz_any a c l r (w.alloc (.cells #[.slice a l.length c, .int .i64 r] 46)) hl hs (hr.alloc _))
  have S0 := mkHid ((mem.startR2 hr hrk).var (.cells #[.slice a l.length c, .int .i64 r] 46))
  by_cases hz : szF l 1048576 < 0
  · generalize szF l 1048576 = z at *
    clear hr hs hrk
    go_enter Try.func9, Try.ntmps9
    go_wp2_with fail
    refine HZ.out.mono ?_
    rintro e w1 ⟨rfl, hb1⟩
    have S1 := mkHid (S0.out.next hb1)
    clear hb1
    go_wp2
    go_ret
    exact ⟨rfl, S1.out.below⟩
  have hz0 : 0 ≤ szF l 1048576 := by omega
  have hl1 := rwStored.szF_len hz0
  have hs1 : Small l := rwStored.szF_small hz0
  generalize szF l 1048576 = z at *
  have HT := mkHid (fun wx (hx : Rd wx a (cs l)) => to_any a c l r wx hl1 hx)
  unfold DPost at HT
  have HEX := mkHid (fun wx a1 c1 a2 c2 (h1 : Rd wx a1 (cs l)) (h2 : Rd wx a2 (cs l)) => eq_same a1 a2 c1 c2 l r wx hl1 h1 h2)
  have hk1 : ks.length ≤ 1048576 := by omega
  have HTk := mkHid (fun wx (hx : Rd wx ak (ix ks)) => ints.toX_any ak ck ks wx hk1 hx)
  have HS := mkHid (fun wx a1 c1 a2 c2 (hx : Rd wx a1 (cs l)) (hy : Rd wx a2 (ix ks)) => crashS_any a1 a2 c1 c2 l r ks wx hl1 hk1 hs1 hx hy)
  have HI := mkHid (fun wx a1 c1 a2 c2 (hx : Rd wx a1 (cs l)) (hy : Rd wx a2 (ix ks)) => crashI_any a1 a2 c1 c2 l r ks wx hl1 hk1 hs1 hx hy)
  unfold DPost at HS HI
  have htl := crash_len l r ks
  generalize crashD l r ks = o at *
  obtain ⟨l2, r2⟩ := o
  simp only at HS HI htl
  have HE := mkHid (fun wx a1 c1 a2 c2 (h1 : Rd wx a1 (cs l2)) (h2 : Rd wx a2 (cs l2)) => eq_same a1 a2 c1 c2 l2 r2 wx (by omega) h1 h2)
  have HEK := mkHid (fun wx a1 c1 a2 c2 (h1 : Rd wx a1 (ix ks)) (h2 : Rd wx a2 (ix ks)) => ints.eqX_same a1 a2 c1 c2 ks wx hk1 h1 h2)
  have HMX := mkHid (fun wx a1 c1 (h : OwnV 39 wx a1 (cs l)) => mark_any a1 c1 l r wx hl1 h)
  have HMK := mkHid (fun wx a1 c1 (h : OwnV 2 wx a1 (ix ks)) => ints.markX_any a1 c1 ks (1 + 3 * (l.length : Int)) wx hk1 (by omega) (by omega) h)
  have HMG := mkHid (fun wx a1 c1 (h : OwnV 39 wx a1 (cs l2)) => mark_any a1 c1 l2 r2 wx (by omega) h)
  have HHG := mkHid (fun wx a1 c1 (h : Rd wx a1 (cs (me 1 l2.length))) => held_any a1 c1 l2.length r2 wx (by omega) h)
  have QX : Hid (cs (me 1 l.length) ≠ [] → cs l ≠ []) := mkHid (me_ne rfl)
  have QG : Hid (cs (me 1 l2.length) ≠ [] → cs l2 ≠ []) := mkHid (me_ne rfl)
  have QK : Hid (ix (from_ (1 + 3 * (l.length : Int)) ks.length) ≠ [] → ix ks ≠ []) := mkHid (ints.from_ne rfl)
  have hli : (l.length : Int) ≤ 1048576 := by omega
  have hti : (l2.length : Int) ≤ 1048576 := by omega
  have hk7 : 0 ≤ 1 + 3 * (l.length : Int) + (ks.length : Int) := by omega
  have hk8 : 0 ≤ 1 + 3 * (l2.length : Int) := by omega
  have hk9 : (1 + 3 * (l2.length : Int) != 1 + 3 * (l2.length : Int)) = false := by simp
  clear hr hs hl hs1 hz hl1 htl hrk hkl hn1 hk1
  go_enter Try.func9, Try.ntmps9
  go_wp2_with fail
  refine (HZ.out).mono ?_
  rintro e w1 ⟨rfl, hb1⟩
  have S1 := mkHid (S0.out.next hb1)
  clear hb1 S0 HZ
  obtain ⟨k1aD0, k1aD1⟩ := cel2 S1.out.b0
  go_wp2_with fail
  refine (HT.out _ S1.out.r0).mono ?_
  rintro e w2 ⟨a2, c2, rfl, ho2, hf2, hb2, hc2⟩
  have S2 := mkHid (S1.out.own hb2 ho2 hf2)
  clear k1aD0 k1aD1
  clear hb2 S1 ho2 hf2
  go_wp2_with fail
  refine (HTk.out _ S2.out.r1).mono ?_
  rintro e w3 ⟨a3, c3, rfl, ho3, hf3, hb3⟩
  have S3 := mkHid (S2.out.own hb3 ho3 hf3)
  clear hb3 S2 ho3 hf3
  go_wp2_with fail
  refine (HS.out _ _ _ _ _ S3.out.o1.rd S3.out.o0.rd).mono ?_
  rintro e w4 ⟨a4, c4, rfl, ho4, hf4, hb4, hc4⟩
  have S4 := mkHid ((S3.out.row hb4 ho4.rd hf4).lessO.lessO.var (.cells #[.slice a4 l2.length c4, .int .i64 r2] 25))
  clear hb4 S3 HS ho4 hf4
  obtain ⟨k4aD0, k4aD1⟩ := cel2 S4.out.b1
  go_wp2_with fail
  refine (HT.out _ S4.out.r1).mono ?_
  rintro e w5 ⟨a5, c5, rfl, ho5, hf5, hb5, hc5⟩
  have S5 := mkHid ((S4.out.own hb5 ho5 hf5).var (.cells #[.slice a5 l.length c5, .int .i64 r] 25))
  clear k4aD0 k4aD1
  clear hb5 S4 ho5 hf5
  go_wp2_with fail
  refine (HTk.out _ S5.out.r2).mono ?_
  rintro e w6 ⟨a6, c6, rfl, ho6, hf6, hb6⟩
  have S6 := mkHid (S5.out.own hb6 ho6 hf6)
  clear hb6 S5 ho6 hf6
  obtain ⟨k6x00, k6x01⟩ := cel2 S6.out.b0
  go_wp2_with fail
  refine (HI.out _ _ _ _ _ S6.out.o1.rd S6.out.o0.rd).mono ?_
  rintro e w7 ⟨a7, c7, rfl, ho7, hf7, hb7, hc7⟩
  have S7 := mkHid ((S6.out.own hb7 ho7 hf7).var (.cells #[.slice a7 l2.length c7, .int .i64 r2] 25))
  clear k6x00 k6x01
  clear hb7 S6 ho7 hf7
  obtain ⟨k7w00, k7w01⟩ := cel2 S7.out.b2
  go_wp2_with fail
  refine (HE.out _ _ _ _ _ S7.out.o0.rd S7.out.r0).mono ?_
  rintro e w8 ⟨rfl, hb8⟩
  have S8 := mkHid (S7.out.next hb8)
  clear k7w00 k7w01
  clear hb8 S7 
  obtain ⟨k8aD0, k8aD1⟩ := cel2 S8.out.b3
  obtain ⟨k8x00, k8x01⟩ := cel2 S8.out.b1
  go_wp2_with fail
  go_region_held3 (fun w' => w'.cell? ⟨w.heap.size, 0, none⟩ = some (.slice a l.length c) ∧ w'.cell? ⟨w.heap.size, 1, none⟩ = some (.int .i64 r) ∧ w'.cell? ⟨w5.heap.size, 0, none⟩ = some (.slice a5 l.length c5) ∧ w'.cell? ⟨w5.heap.size, 1, none⟩ = some (.int .i64 r)) (go_keep)
    ((first
      | (go_at_call 20; refine Calls.mono (HT.out _ (by exact S8.out.r1)) ?_; rintro e w9 ⟨a9, c9, rfl, ho9, hf9, hb9, _⟩; have S9 := mkHid (S8.out.own (re hb9 rfl rfl rfl rfl) ho9 hf9); obtain ⟨ux00, ux01⟩ := cel2 S9.out.b1; obtain ⟨uaD0, uaD1⟩ := cel2 S9.out.b3; clear hb9 ho9 hf9)
      | (go_at_call 21; refine Calls.mono (HEX.out _ _ _ _ _ (by exact S9.out.o3.rd) (by exact S9.out.o0.rd)) ?_; rintro e w10 ⟨rfl, hb10⟩; have S10 := mkHid (S9.out.next (re hb10 rfl rfl rfl rfl)); obtain ⟨vx00, vx01⟩ := cel2 S10.out.b1; obtain ⟨vaD0, vaD1⟩ := cel2 S10.out.b3; clear hb10)))
  have S10' := mkHid S10.out.lessO
  clear k8aD0 k8aD1 k8x00 k8x01 ux00 ux01 uaD0 uaD1 vx00 vx01 vaD0 vaD1
  clear S8 S9 S10
  go_wp2_with fail
  refine (HTk.out _ S10'.out.r2).mono ?_
  rintro e w11 ⟨a11, c11, rfl, ho11, hf11, hb11⟩
  have S11 := mkHid (S10'.out.own hb11 ho11 hf11)
  clear hb11 S10' ho11 hf11
  go_wp2_with fail
  refine (HEK.out _ _ _ _ _ S11.out.o2.rd S11.out.o0.rd).mono ?_
  rintro e w12 ⟨rfl, hb12⟩
  have S12 := mkHid (S11.out.next hb12).lessO
  clear hb12 S11 
  obtain ⟨k12x00, k12x01⟩ := cel2 S12.out.b1
  have Sm := mkHid S12.out.third
  clear S12
  go_wp2_with fail
  refine (HMX.out _ _ _ Sm.out.o0).mono ?_
  rintro e w13 ⟨rfl, ho13, q13, hg13, hq13⟩
  have S13 := mkHid (Sm.out.mark hg13 hq13 ho13 QX.out)
  clear k12x00 k12x01
  clear ho13 hg13 hq13 Sm 
  have Sn := mkHid S13.out.lessO.swap
  clear S13
  go_wp2_with fail
  refine (HMK.out _ _ _ Sn.out.o0).mono ?_
  rintro e w14 ⟨rfl, ho14, q14, hg14, hq14⟩
  have S14 := mkHid (Sn.out.mark hg14 hq14 ho14 QK.out)
  clear ho14 hg14 hq14 Sn 
  have So := mkHid S14.out.lessO
  clear S14
  obtain ⟨k14w00, k14w01⟩ := cel2 So.out.b2
  obtain ⟨k14g00, k14g01⟩ := cel2 So.out.b0
  go_wp2_with fail
  refine (HE.out _ _ _ _ _ So.out.o0.rd So.out.r0).mono ?_
  rintro e w15 ⟨rfl, hb15⟩
  have S15 := mkHid (So.out.next hb15)
  clear k14w00 k14w01 k14g00 k14g01
  clear hb15 So 
  obtain ⟨k15g00, k15g01⟩ := cel2 S15.out.b0
  go_wp2_with fail
  refine (HMG.out _ _ _ S15.out.o0).mono ?_
  rintro e w16 ⟨rfl, ho16, q16, hg16, hq16⟩
  have S16 := mkHid (S15.out.mark hg16 hq16 ho16 QG.out)
  clear k15g00 k15g01
  clear ho16 hg16 hq16 S15 
  obtain ⟨k16g00, k16g01⟩ := cel2 S16.out.b0
  go_wp2_with fail
  refine (HHG.out _ _ _ S16.out.o0.rd).mono ?_
  rintro e w17 ⟨rfl, hb17⟩
  have S17 := mkHid (S16.out.next hb17)
  clear k16g00 k16g01
  clear hb17 S16 
  obtain ⟨k17aD0, k17aD1⟩ := cel2 S17.out.b3
  go_wp2_with fail
  refine (HT.out _ S17.out.r1).mono ?_
  rintro e w18 ⟨a18, c18, rfl, ho18, hf18, hb18, hc18⟩
  have S18 := mkHid (S17.out.own hb18 ho18 hf18)
  clear k17aD0 k17aD1
  clear hb18 S17 ho18 hf18
  go_wp2_with fail
  refine (HTk.out _ S18.out.r2).mono ?_
  rintro e w19 ⟨a19, c19, rfl, ho19, hf19, hb19⟩
  have S19 := mkHid (S18.out.own hb19 ho19 hf19)
  clear hb19 S18 ho19 hf19
  go_wp2_with fail
  refine (HI.out _ _ _ _ _ S19.out.o1.rd S19.out.o0.rd).mono ?_
  rintro e w20 ⟨a20, c20, rfl, ho20, hf20, hb20, hc20⟩
  have S20 := mkHid ((S19.out.row hb20 ho20.rd hf20).lessO.lessO.var (.cells #[.slice a20 l2.length c20, .int .i64 r2] 25))
  clear hb20 S19 HI ho20 hf20
  obtain ⟨k20w00, k20w01⟩ := cel2 S20.out.b3
  go_wp2_with fail
  refine (HE.out _ _ _ _ _ S20.out.r0 S20.out.r1).mono ?_
  rintro e w21 ⟨rfl, hb21⟩
  have S21 := mkHid (S20.out.next hb21)
  clear k20w00 k20w01
  clear hb21 S20 
  obtain ⟨k21g00, k21g01⟩ := cel2 S21.out.b1
  go_wp2_with fail
  refine (HHG.out _ _ _ S21.out.o0.rd).mono ?_
  rintro e w22 ⟨rfl, hb22⟩
  have S22 := mkHid (S21.out.next hb22)
  clear k21g00 k21g01
  clear hb22 S21 
  go_wp2
  go_ret
  exact ⟨rfl, S22.out.below⟩
end Go.Proofs.Ythjiilbfmhnlbaa.drv
