/-
  laws.FnExactDriveRead answers true at every drive and name, and leaves what was there as it was. No condition.
-/
import Derived.Test.YthjiilbfmhnlbaaDrvL
import Derived.Test.YthjiilbfmhnlbaaDrvRd
namespace Go.Proofs.Ythjiilbfmhnlbaa.drv
open Go.RowKit Go.Joins
open Go.Proofs.Ythjiilbfmhnlbaa.base Go.Proofs.Ythjiilbfmhnlbaa.blk Go.Proofs.Ythjiilbfmhnlbaa.aid
open Go.Proofs.Ythjiilbfmhnlbaa.row (Rd Own OwnV)
open Go.Proofs.Ythjiilbfmhnlbaa.rwStored (cs szF me)
set_option linter.unusedVariables false

set_option maxRecDepth 100000 in
set_option maxHeartbeats 2000000 in
theorem read_walk (a : Option Addr) (c : Nat) (l : List File) (r : Int) (n : ByteArray) (w : World) (hl : (l.length : Int) ≤ 9223372036854775807) (hs : ∀ b ∈ l, (b.1.size : Int) ≤ 9223372036854775807 ∧ (b.2.1.size : Int) ≤ 9223372036854775807) (hr : Rd w a (cs l)) (hn : (n.size : Int) ≤ 9223372036854775807) :
    Calls Try.prog 7 #[.agg #[.slice a l.length c, .int .i64 r], .string n] w fun e w' => e = .returned (.bool true) ∧ Below w.heap.size w w' := by
  by_cases hn1 : (1048576 : Int) < n.size
  · clear hr hs
    go_enter Try.func7, Try.ntmps7
    go_wp2
    go_ret
    exact ⟨rfl, below_alloc1 _ _⟩
  have hn2 : (n.size : Int) ≤ 1048576 := by omega
  have HZ := mkHid (sz_any a c l r (w.alloc (.cells #[.slice a l.length c, .int .i64 r] 46)) hl hs (hr.alloc _))
  have S0 := mkHid ((mem.startR hr).var (.cells #[.slice a l.length c, .int .i64 r] 46))
  by_cases hz : szF l 1048576 < 0
  · generalize szF l 1048576 = z at *
    clear hr hs
    go_enter Try.func7, Try.ntmps7
    go_wp2_with fail
    refine HZ.out.mono ?_
    rintro e w1 ⟨rfl, hb1⟩
    have S1 := mkHid (S0.out.next hb1)
    clear hb1
    go_wp2
    go_ret
    exact ⟨rfl, S1.out.below⟩
  have hz0 : 0 ≤ szF l 1048576 := by omega
  have hl1 := rwStored.szF_len hz0
  have hs1 : Small l := rwStored.szF_small hz0
  generalize szF l 1048576 = z at *
  have HT := mkHid (fun wx (hx : Rd wx a (cs l)) => to_any a c l r wx hl1 hx)
  unfold DPost at HT
  have HEX := mkHid (fun wx a1 c1 a2 c2 (h1 : Rd wx a1 (cs l)) (h2 : Rd wx a2 (cs l)) => eq_same a1 a2 c1 c2 l r wx hl1 h1 h2)
  have HS := mkHid (fun wx a' c' (hx : Rd wx a' (cs l)) => readS_any a' c' l r n wx hl1 hs1 (by omega) hx)
  have HI := mkHid (fun wx a' c' (hx : Rd wx a' (cs l)) => readI_any a' c' l r n wx hl1 hs1 (by omega) hx)
  clear hr hs hl hs1 hz hl1 hn hn1
  generalize readD l r n = o at *
  obtain ⟨ot, oc⟩ := o
  have HE := mkHid (fun wx => eqData_same ot oc wx)
  simp only at HS HI
  go_enter Try.func7, Try.ntmps7
  go_wp2_with fail
  refine (HZ.out).mono ?_
  rintro e w1 ⟨rfl, hb1⟩
  have S1 := mkHid (S0.out.next hb1)
  clear hb1 S0 HZ
  obtain ⟨k1aD0, k1aD1⟩ := cel2 S1.out.b0
  go_wp2_with fail
  refine (HT.out _ S1.out.r0).mono ?_
  rintro e w2 ⟨a2, c2, rfl, ho2, hf2, hb2, hc2⟩
  have S2 := mkHid (S1.out.own hb2 ho2 hf2)
  clear k1aD0 k1aD1
  clear hb2 S1 ho2 hf2
  go_wp2_with fail
  refine (HS.out _ _ _ S2.out.o0.rd).mono ?_
  rintro e w3 ⟨rfl, hb3⟩
  have S3 := mkHid ((S2.out.next hb3).lessO.var (.cells #[.string ot, .int .i64 oc] 41))
  clear hb3 S2 HS
  obtain ⟨k3aD0, k3aD1⟩ := cel2 S3.out.b1
  go_wp2_with fail
  refine (HT.out _ S3.out.r0).mono ?_
  rintro e w4 ⟨a4, c4, rfl, ho4, hf4, hb4, hc4⟩
  have S4 := mkHid ((S3.out.own hb4 ho4 hf4).var (.cells #[.slice a4 l.length c4, .int .i64 r] 25))
  clear k3aD0 k3aD1
  clear hb4 S3 ho4 hf4
  go_wp2_with fail
  refine (HI.out _ _ _ S4.out.o0.rd).mono ?_
  rintro e w5 ⟨rfl, hb5⟩
  have S5 := mkHid ((S4.out.next hb5).var (.cells #[.string ot, .int .i64 oc] 41))
  clear hb5 S4 HI
  obtain ⟨k5w00, k5w01⟩ := cel2 S5.out.b2
  go_wp2_with fail
  refine (HE.out _).mono ?_
  rintro e w6 ⟨rfl, hb6⟩
  have S6 := mkHid (S5.out.next hb6)
  clear k5w00 k5w01
  clear hb6 S5 HE
  obtain ⟨k6aD0, k6aD1⟩ := cel2 S6.out.b3
  obtain ⟨k6x00, k6x01⟩ := cel2 S6.out.b1
  go_wp2_with fail
  go_region_held3 (fun w' => w'.cell? ⟨w.heap.size, 0, none⟩ = some (.slice a l.length c) ∧ w'.cell? ⟨w.heap.size, 1, none⟩ = some (.int .i64 r) ∧ w'.cell? ⟨w4.heap.size, 0, none⟩ = some (.slice a4 l.length c4) ∧ w'.cell? ⟨w4.heap.size, 1, none⟩ = some (.int .i64 r)) (go_keep)
    ((first
      | (go_at_call 20; refine Calls.mono (HT.out _ (by exact S6.out.r0)) ?_; rintro e w7 ⟨a7, c7, rfl, ho7, hf7, hb7, _⟩; have S7 := mkHid (S6.out.own (re hb7 rfl rfl rfl rfl) ho7 hf7); obtain ⟨ux00, ux01⟩ := cel2 S7.out.b1; obtain ⟨uaD0, uaD1⟩ := cel2 S7.out.b3; clear hb7 ho7 hf7)
      | (go_at_call 21; refine Calls.mono (HEX.out _ _ _ _ _ (by exact S7.out.o1.rd) (by exact S7.out.o0.rd)) ?_; rintro e w8 ⟨rfl, hb8⟩; have S8 := mkHid (S7.out.next (re hb8 rfl rfl rfl rfl)); obtain ⟨vx00, vx01⟩ := cel2 S8.out.b1; obtain ⟨vaD0, vaD1⟩ := cel2 S8.out.b3; clear hb8)))
  have S8' := mkHid S8.out.lessO
  clear k6aD0 k6aD1 k6x00 k6x01 ux00 ux01 uaD0 uaD1 vx00 vx01 vaD0 vaD1
  clear S6 S7 S8
  go_wp2
  go_ret
  exact ⟨rfl, S8'.out.below⟩
end Go.Proofs.Ythjiilbfmhnlbaa.drv
