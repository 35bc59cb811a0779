/-
  laws.FnExactDriveRight answers true at every drive, and leaves what was there as it was. No condition.
-/
import Derived.Test.YthjiilbfmhnlbaaDrvL
import Derived.Test.YthjiilbfmhnlbaaDrvIR
import Derived.Test.YthjiilbfmhnlbaaMem
namespace Go.Proofs.Ythjiilbfmhnlbaa.drv
open Go.RowKit Go.Joins
open Go.Proofs.Ythjiilbfmhnlbaa.base Go.Proofs.Ythjiilbfmhnlbaa.blk Go.Proofs.Ythjiilbfmhnlbaa.aid
open Go.Proofs.Ythjiilbfmhnlbaa.row (Rd Own OwnV)
open Go.Proofs.Ythjiilbfmhnlbaa.rwStored (cs szF)
set_option linter.unusedVariables false

set_option maxRecDepth 100000 in
set_option maxHeartbeats 2000000 in
theorem right_walk (a : Option Addr) (c : Nat) (l : List (ByteArray × ByteArray × Int)) (r : Int) (w : World) (hl : (l.length : Int) ≤ 9223372036854775807) (hs : ∀ b ∈ l, (b.1.size : Int) ≤ 9223372036854775807 ∧ (b.2.1.size : Int) ≤ 9223372036854775807) (hr : Rd w a (cs l)) :
    Calls Try.prog 4 #[.agg #[.slice a l.length c, .int .i64 r]] w fun e w' => e = .returned (.bool true) ∧ Below w.heap.size w w' := by
  have HZ := mkHid (sz_any a c l r (w.alloc (.cells #[.slice a l.length c, .int .i64 r] 46)) hl hs (hr.alloc _))
  have S0 := mkHid ((mem.startR hr).var (.cells #[.slice a l.length c, .int .i64 r] 46))
  by_cases hz : szF l 1048576 < 0
  · generalize szF l 1048576 = z at *
    clear hr hs
    go_enter Try.func4, Try.ntmps4
    go_wp2_with fail
    refine HZ.out.mono ?_
    rintro e w1 ⟨rfl, hb1⟩
    have S1 := mkHid (S0.out.next hb1)
    clear hb1
    go_wp2
    go_ret
    exact ⟨rfl, S1.out.below⟩
  · have hz0 : 0 ≤ szF l 1048576 := by omega
    have hl1 := rwStored.szF_len hz0
    have hs1 : Small l := rwStored.szF_small hz0
    generalize szF l 1048576 = z at *
    have HT := mkHid (fun wx (hx : Rd wx a (cs l)) => to_any a c l r wx hl1 hx)
    unfold DPost at HT
    have HS := mkHid (fun wx a' c' (hx : Rd wx a' (cs l)) => right_any a' c' l r wx hl1 hs1 hx)
    have HI := mkHid (fun wx a' c' (hx : Rd wx a' (cs l)) => rightI_any a' c' l r wx hl1 hs1 hx)
    have HE := mkHid (fun wx a1 c1 a2 c2 (h1 : Rd wx a1 (cs l)) (h2 : Rd wx a2 (cs l)) => eq_same a1 a2 c1 c2 l r wx hl1 h1 h2)
    clear hr hs hl hs1 hz hl1
    generalize driveB l r = b at *
    have hbb : (b != b) = false := by cases b <;> rfl
    go_enter Try.func4, Try.ntmps4
    go_wp2_with fail
    refine HZ.out.mono ?_
    rintro e w1 ⟨rfl, hb1⟩
    have S1 := mkHid (S0.out.next hb1)
    obtain ⟨c0, c1⟩ := cel2 S1.out.b0
    clear hb1 HZ S0
    go_wp2_with fail
    refine (HT.out _ S1.out.r0).mono ?_
    rintro e w2 ⟨a2, c2, rfl, ho2, hf2, hb2, _⟩
    have S2 := mkHid (S1.out.own hb2 ho2 hf2)
    clear hb2 ho2 hf2 S1 c0 c1
    go_wp2_with fail
    refine (HS.out _ _ _ S2.out.o0.rd).mono ?_
    rintro e w3 ⟨rfl, hb3⟩
    have S3 := mkHid (S2.out.next hb3).lessO
    obtain ⟨c0, c1⟩ := cel2 S3.out.b0
    clear hb3 S2 HS
    go_wp2_with fail
    refine (HT.out _ S3.out.r0).mono ?_
    rintro e w4 ⟨a4, c4, rfl, ho4, hf4, hb4, _⟩
    have S4 := mkHid ((S3.out.own hb4 ho4 hf4).var (.cells #[.slice a4 l.length c4, .int .i64 r] 25))
    clear hb4 ho4 hf4 S3 c0 c1
    go_wp2_with fail
    refine (HI.out _ _ _ S4.out.o0.rd).mono ?_
    rintro e w5 ⟨rfl, hb5⟩
    have S5 := mkHid (S4.out.next hb5)
    obtain ⟨c0, c1⟩ := cel2 S5.out.b1
    obtain ⟨d0, d1⟩ := cel2 S5.out.b0
    clear hb5 S4 HI
    go_wp2_with fail
    go_region_held3 (fun w' => w'.cell? ⟨w.heap.size, 0, none⟩ = some (.slice a l.length c) ∧ w'.cell? ⟨w.heap.size, 1, none⟩ = some (.int .i64 r) ∧ w'.cell? ⟨w4.heap.size, 0, none⟩ = some (.slice a4 l.length c4) ∧ w'.cell? ⟨w4.heap.size, 1, none⟩ = some (.int .i64 r)) (go_keep)
      ((first
        | (go_at_call 20; refine Calls.mono (HT.out _ (by exact S5.out.r0)) ?_; rintro e w6 ⟨a6, c6, rfl, ho6, hf6, hb6, _⟩; have S6 := mkHid (S5.out.own (re hb6 rfl rfl rfl rfl) ho6 hf6); obtain ⟨e0, e1⟩ := cel2 S6.out.b1; obtain ⟨f0, f1⟩ := cel2 S6.out.b0; clear hb6 ho6 hf6)
        | (go_at_call 21; refine Calls.mono (HE.out _ _ _ _ _ (by exact S6.out.o1.rd) (by exact S6.out.o0.rd)) ?_; rintro e w7 ⟨rfl, hb7⟩; have S7 := mkHid (S6.out.next (re hb7 rfl rfl rfl rfl)); obtain ⟨g0, g1⟩ := cel2 S7.out.b1; obtain ⟨h0, h1⟩ := cel2 S7.out.b0; clear hb7)))
    go_wp2
    go_ret
    exact ⟨rfl, S7.out.below⟩
end Go.Proofs.Ythjiilbfmhnlbaa.drv
