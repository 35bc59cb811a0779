/-
  laws.FnExactDriveRot answers true at every drive, name, place and number, and leaves what was there as it was. No condition.
-/
import Derived.Test.YthjiilbfmhnlbaaDrvRi
namespace Go.Proofs.Ythjiilbfmhnlbaa.drv
open Go.RowKit Go.Joins
open Go.Proofs.Ythjiilbfmhnlbaa.base Go.Proofs.Ythjiilbfmhnlbaa.blk Go.Proofs.Ythjiilbfmhnlbaa.aid
open Go.Proofs.Ythjiilbfmhnlbaa.row (Rd Own OwnV)
open Go.Proofs.Ythjiilbfmhnlbaa.rwStored (cs szF me)
set_option linter.unusedVariables false

theorem rot_len (l : List File) (r : Int) (n : ByteArray) (p q : Int) : (rotD l r n p q).1.length ≤ l.length := by
  unfold rotD
  split
  · simp
  · split
    · split
      · exact Nat.le_refl _
      · split
        · exact Nat.le_refl _
        · simp
    · exact Nat.le_refl _
set_option maxRecDepth 100000 in
set_option maxHeartbeats 4000000 in
theorem rot_walk (a : Option Addr) (c : Nat) (l : List File) (r : Int) (n : ByteArray) (p t : Int) (w : World) (hl : (l.length : Int) ≤ 9223372036854775807) (hs : ∀ b ∈ l, (b.1.size : Int) ≤ 9223372036854775807 ∧ (b.2.1.size : Int) ≤ 9223372036854775807) (hr : Rd w a (cs l)) (hn : (n.size : Int) ≤ 9223372036854775807) :
    Calls Try.prog 10 #[.agg #[.slice a l.length c, .int .i64 r], .string n, .int .i64 p, .int .i64 t] w fun e w' => e = .returned (.bool true) ∧ Below w.heap.size w w' := by
  by_cases hn1 : (1048576 : Int) < n.size
  · clear hr hs
    go_enter Try.func10, Try.ntmps10
    go_wp2
    go_ret
    exact ⟨rfl, below_alloc1 _ _⟩
  have hn2 : (n.size : Int) ≤ 1048576 := by omega
  have HZ := mkHid (sz_any a c l r (w.alloc (.cells #[.slice a l.length c, .int .i64 r] 46)) hl hs (hr.alloc _))
  have S0 := mkHid ((mem.startR hr).var (.cells #[.slice a l.length c, .int .i64 r] 46))
  by_cases hz : szF l 1048576 < 0
  · generalize szF l 1048576 = z at *
    clear hr hs
    go_enter Try.func10, Try.ntmps10
    go_wp2_with fail
    refine HZ.out.mono ?_
    rintro e w1 ⟨rfl, hb1⟩
    have S1 := mkHid (S0.out.next hb1)
    clear hb1
    go_wp2
    go_ret
    exact ⟨rfl, S1.out.below⟩
  have hz0 : 0 ≤ szF l 1048576 := by omega
  have hl1 := rwStored.szF_len hz0
  have hs1 : Small l := rwStored.szF_small hz0
  generalize szF l 1048576 = z at *
  have HT := mkHid (fun wx (hx : Rd wx a (cs l)) => to_any a c l r wx hl1 hx)
  unfold DPost at HT
  have HEX := mkHid (fun wx a1 c1 a2 c2 (h1 : Rd wx a1 (cs l)) (h2 : Rd wx a2 (cs l)) => eq_same a1 a2 c1 c2 l r wx hl1 h1 h2)
  have HS := mkHid (fun wx a' c' (hx : Rd wx a' (cs l)) => rotS_any a' c' l r n p t wx hl1 hs1 (by omega) hx)
  have HI := mkHid (fun wx a' c' (hx : Rd wx a' (cs l)) => rotI_any a' c' l r n p t wx hl1 hs1 (by omega) hx)
  unfold DPost at HS HI
  have htl := rot_len l r n p t
  generalize rotD l r n p t = o at *
  obtain ⟨l2, r2⟩ := o
  simp only at HS HI htl
  have HE := mkHid (fun wx a1 c1 a2 c2 (h1 : Rd wx a1 (cs l2)) (h2 : Rd wx a2 (cs l2)) => eq_same a1 a2 c1 c2 l2 r2 wx (by omega) h1 h2)
  have HMX := mkHid (fun wx a1 c1 (h : OwnV 39 wx a1 (cs l)) => mark_any a1 c1 l r wx hl1 h)
  have HMG := mkHid (fun wx a1 c1 (h : OwnV 39 wx a1 (cs l2)) => mark_any a1 c1 l2 r2 wx (by omega) h)
  have HHG := mkHid (fun wx a1 c1 (h : Rd wx a1 (cs (me 1 l2.length))) => held_any a1 c1 l2.length r2 wx (by omega) h)
  have QX : Hid (cs (me 1 l.length) ≠ [] → cs l ≠ []) := mkHid (me_ne rfl)
  have QG : Hid (cs (me 1 l2.length) ≠ [] → cs l2 ≠ []) := mkHid (me_ne rfl)
  have hli : (l.length : Int) ≤ 1048576 := by omega
  have hti : (l2.length : Int) ≤ 1048576 := by omega
  have hk7 : 0 ≤ 1 + 3 * (l.length : Int) := by omega
  have hk8 : 0 ≤ 1 + 3 * (l2.length : Int) := by omega
  have hk9 : (1 + 3 * (l2.length : Int) != 1 + 3 * (l2.length : Int)) = false := by simp
  clear hr hs hl hs1 hz hl1 htl hn hn1
  go_enter Try.func10, Try.ntmps10
  go_wp2_with fail
  refine (HZ.out).mono ?_
  rintro e w1 ⟨rfl, hb1⟩
  have S1 := mkHid (S0.out.next hb1)
  clear hb1 S0 HZ
  obtain ⟨k1aD0, k1aD1⟩ := cel2 S1.out.b0
  go_wp2_with fail
  refine (HT.out _ S1.out.r0).mono ?_
  rintro e w2 ⟨a2, c2, rfl, ho2, hf2, hb2, hc2⟩
  have S2 := mkHid (S1.out.own hb2 ho2 hf2)
  clear k1aD0 k1aD1
  clear hb2 S1 ho2 hf2
  go_wp2_with fail
  refine (HS.out _ _ _ S2.out.o0.rd).mono ?_
  rintro e w3 ⟨a3, c3, rfl, ho3, hf3, hb3, hc3⟩
  have S3 := mkHid ((S2.out.row hb3 ho3.rd hf3).lessO.var (.cells #[.slice a3 l2.length c3, .int .i64 r2] 25))
  clear hb3 S2 HS ho3 hf3
  obtain ⟨k3aD0, k3aD1⟩ := cel2 S3.out.b1
  go_wp2_with fail
  refine (HT.out _ S3.out.r1).mono ?_
  rintro e w4 ⟨a4, c4, rfl, ho4, hf4, hb4, hc4⟩
  have S4 := mkHid ((S3.out.own hb4 ho4 hf4).var (.cells #[.slice a4 l.length c4, .int .i64 r] 25))
  clear k3aD0 k3aD1
  clear hb4 S3 ho4 hf4
  go_wp2_with fail
  refine (HI.out _ _ _ S4.out.o0.rd).mono ?_
  rintro e w5 ⟨a5, c5, rfl, ho5, hf5, hb5, hc5⟩
  have S5 := mkHid ((S4.out.own hb5 ho5 hf5).var (.cells #[.slice a5 l2.length c5, .int .i64 r2] 25))
  clear hb5 S4 ho5 hf5
  obtain ⟨k5w00, k5w01⟩ := cel2 S5.out.b2
  go_wp2_with fail
  refine (HE.out _ _ _ _ _ S5.out.o0.rd S5.out.r0).mono ?_
  rintro e w6 ⟨rfl, hb6⟩
  have S6 := mkHid (S5.out.next hb6)
  clear k5w00 k5w01
  clear hb6 S5 
  obtain ⟨k6aD0, k6aD1⟩ := cel2 S6.out.b3
  obtain ⟨k6x00, k6x01⟩ := cel2 S6.out.b1
  go_wp2_with fail
  go_region_held3 (fun w' => w'.cell? ⟨w.heap.size, 0, none⟩ = some (.slice a l.length c) ∧ w'.cell? ⟨w.heap.size, 1, none⟩ = some (.int .i64 r) ∧ w'.cell? ⟨w4.heap.size, 0, none⟩ = some (.slice a4 l.length c4) ∧ w'.cell? ⟨w4.heap.size, 1, none⟩ = some (.int .i64 r)) (go_keep)
    ((first
      | (go_at_call 20; refine Calls.mono (HT.out _ (by exact S6.out.r1)) ?_; rintro e w7 ⟨a7, c7, rfl, ho7, hf7, hb7, _⟩; have S7 := mkHid (S6.out.own (re hb7 rfl rfl rfl rfl) ho7 hf7); obtain ⟨ux00, ux01⟩ := cel2 S7.out.b1; obtain ⟨uaD0, uaD1⟩ := cel2 S7.out.b3; clear hb7 ho7 hf7)
      | (go_at_call 21; refine Calls.mono (HEX.out _ _ _ _ _ (by exact S7.out.o2.rd) (by exact S7.out.o0.rd)) ?_; rintro e w8 ⟨rfl, hb8⟩; have S8 := mkHid (S7.out.next (re hb8 rfl rfl rfl rfl)); obtain ⟨vx00, vx01⟩ := cel2 S8.out.b1; obtain ⟨vaD0, vaD1⟩ := cel2 S8.out.b3; clear hb8)))
  have S8' := mkHid S8.out.lessO
  clear k6aD0 k6aD1 k6x00 k6x01 ux00 ux01 uaD0 uaD1 vx00 vx01 vaD0 vaD1
  clear S6 S7 S8
  obtain ⟨k8x00, k8x01⟩ := cel2 S8'.out.b1
  have Sm := mkHid S8'.out.swap
  clear S8'
  go_wp2_with fail
  refine (HMX.out _ _ _ Sm.out.o0).mono ?_
  rintro e w9 ⟨rfl, ho9, q9, hg9, hq9⟩
  have S9 := mkHid (Sm.out.mark hg9 hq9 ho9 QX.out)
  clear k8x00 k8x01
  clear ho9 hg9 hq9 Sm 
  have So := mkHid S9.out.lessO
  clear S9
  obtain ⟨k9w00, k9w01⟩ := cel2 So.out.b2
  obtain ⟨k9g00, k9g01⟩ := cel2 So.out.b0
  go_wp2_with fail
  refine (HE.out _ _ _ _ _ So.out.o0.rd So.out.r0).mono ?_
  rintro e w10 ⟨rfl, hb10⟩
  have S10 := mkHid (So.out.next hb10)
  clear k9w00 k9w01 k9g00 k9g01
  clear hb10 So 
  obtain ⟨k10g00, k10g01⟩ := cel2 S10.out.b0
  go_wp2_with fail
  refine (HMG.out _ _ _ S10.out.o0).mono ?_
  rintro e w11 ⟨rfl, ho11, q11, hg11, hq11⟩
  have S11 := mkHid (S10.out.mark hg11 hq11 ho11 QG.out)
  clear k10g00 k10g01
  clear ho11 hg11 hq11 S10 
  obtain ⟨k11g00, k11g01⟩ := cel2 S11.out.b0
  go_wp2_with fail
  refine (HHG.out _ _ _ S11.out.o0.rd).mono ?_
  rintro e w12 ⟨rfl, hb12⟩
  have S12 := mkHid (S11.out.next hb12)
  clear k11g00 k11g01
  clear hb12 S11 
  obtain ⟨k12aD0, k12aD1⟩ := cel2 S12.out.b3
  go_wp2_with fail
  refine (HT.out _ S12.out.r1).mono ?_
  rintro e w13 ⟨a13, c13, rfl, ho13, hf13, hb13, hc13⟩
  have S13 := mkHid (S12.out.own hb13 ho13 hf13)
  clear k12aD0 k12aD1
  clear hb13 S12 ho13 hf13
  go_wp2_with fail
  refine (HI.out _ _ _ S13.out.o0.rd).mono ?_
  rintro e w14 ⟨a14, c14, rfl, ho14, hf14, hb14, hc14⟩
  have S14 := mkHid ((S13.out.row hb14 ho14.rd hf14).lessO.var (.cells #[.slice a14 l2.length c14, .int .i64 r2] 25))
  clear hb14 S13 HI ho14 hf14
  obtain ⟨k14w00, k14w01⟩ := cel2 S14.out.b3
  go_wp2_with fail
  refine (HE.out _ _ _ _ _ S14.out.r0 S14.out.r1).mono ?_
  rintro e w15 ⟨rfl, hb15⟩
  have S15 := mkHid (S14.out.next hb15)
  clear k14w00 k14w01
  clear hb15 S14 
  obtain ⟨k15g00, k15g01⟩ := cel2 S15.out.b1
  go_wp2_with fail
  refine (HHG.out _ _ _ S15.out.o0.rd).mono ?_
  rintro e w16 ⟨rfl, hb16⟩
  have S16 := mkHid (S15.out.next hb16)
  clear k15g00 k15g01
  clear hb16 S15 
  go_wp2
  go_ret
  exact ⟨rfl, S16.out.below⟩
end Go.Proofs.Ythjiilbfmhnlbaa.drv
