/-
  laws.FnExactHashEnd answers true at every Hash, where the program's HashEnd answers as told; nothing that was there turns. Conditions: what the program's call answers; the numbers of the rounds are there.
-/
import Derived.Test.YtkkndkikfphnbaaDoorHImpl
import Derived.Deep.RegionWith
namespace Go.Proofs.YtkkndkikfphnbaaDoor.himpl
open Go.RowKit Go.Joins
open Go.Proofs.YtkkndkikfphnbaaDoor.base Go.Proofs.YtkkndkikfphnbaaDoor.ints Go.Proofs.YtkkndkikfphnbaaDoor.blk Go.Proofs.YtkkndkikfphnbaaDoor.hashes
open Go.Proofs.YtkkndkikfphnbaaDoor.sha (hRight endH digest short moreH startL GV)
set_option linter.unusedVariables false

set_option maxRecDepth 100000 in
set_option maxHeartbeats 2000000 in
theorem HashEnd_in (I : IEnd) (a : Option Addr) (cap : Nat) (xs : List Int) (r : ByteArray) (size : Int) (w : World) (hG : GV w) (hl : xs.length + r.size ≤ 1048576) (hr : Rd w a xs) (hs0 : -9223372036854775808 ≤ size) (hs1 : size ≤ 9223372036854775807) :
    Calls Tryd.prog 6 #[sha.hash a xs.length cap r size] w fun e w' => e = .returned (.bool true) ∧ Below w.heap.size w w' := by
  have HT : Hid (∀ wx, Below w.heap.size w wx → Calls Tryd.prog 20 #[.agg #[.slice a xs.length cap, .string r, .int .i64 size]] wx fun e w' => e = .returned (.agg #[.slice (some ⟨wx.heap.size + 3, 0, none⟩) xs.length xs.length, .string r, .int .i64 size]) ∧ Own w' (wx.heap.size + 3) xs ∧ Below wx.heap.size wx w') :=
    mkHid (fun wx hb => toH_any a cap xs r size wx (by omega) (hr.below hb))
  have HI : Hid (∀ wx g, Below w.heap.size w wx → Own wx g xs → Calls Tryd.prog 15 #[.agg #[.slice (some ⟨g, 0, none⟩) xs.length xs.length, .string r, .int .i64 size]] wx fun e w' => e = .returned (.string (endH xs r size)) ∧ Below wx.heap.size wx w') :=
    mkHid (fun wx g hb hg => I g 0 xs.length xs r size wx (by omega) hg.rd (by omega) hs0 hs1 (hG.at hb))
  have HS : Hid (∀ wx g, Own wx g xs → Calls Tryd.prog 24 #[.agg #[.slice (some ⟨g, 0, none⟩) xs.length xs.length, .string r, .int .i64 size]] wx fun e w' => e = .returned (.string (endH xs r size)) ∧ Below wx.heap.size wx w') :=
    mkHid (fun wx g hg => sha.hend_any g 0 xs.length xs r size wx (by omega) hg.rd (by omega))
  have HE : Hid (∀ wx g h, Own wx g xs → Own wx h xs → Calls Tryd.prog 21 #[.agg #[.slice (some ⟨g, 0, none⟩) xs.length xs.length, .string r, .int .i64 size], .agg #[.slice (some ⟨h, 0, none⟩) xs.length xs.length, .string r, .int .i64 size]] wx fun e w' => e = .returned (.bool true) ∧ Below wx.heap.size wx w') :=
    mkHid (fun wx g h hg hh => (eqH_any _ _ xs.length xs.length xs xs r r size size wx (by omega) (by omega) hg.rd hh.rd).mono (by rintro e w' ⟨rfl, hb⟩; exact ⟨ints.ret_eq (by simp), hb⟩))
  clear I hG
  unfold sha.hash
  go_enter Tryd.func6, Tryd.ntmps6
  go_wp2_with fail
  refine (szH_any a xs.length cap r size _ _ (by omega) (by omega) (by omega) (by omega)).mono ?_
  rintro e w1 ⟨rfl, hb1⟩
  have hsz : szv 1048576 xs.length r.size = 1048576 - xs.length - r.size := by unfold szv; rw [if_neg (by omega), if_neg (by omega)]
  rw [hsz]
  have k1 := blk_below (blk_new w _ w.heap.size rfl) hb1
  have B1 := mkHid (And.intro (below_allocs (os := [_]) hb1) k1)
  have c0 : w1.cell? ⟨w.heap.size, 0, none⟩ = some (.slice a xs.length cap) := cell_of_block k1 0
  have c1 : w1.cell? ⟨w.heap.size, 1, none⟩ = some (.string r) := cell_of_block k1 1
  have c2 : w1.cell? ⟨w.heap.size, 2, none⟩ = some (.int .i64 size) := cell_of_block k1 2
  have h0 : 0 ≤ 1048576 - (xs.length : Int) - (r.size : Int) := by omega
  clear k1 hb1 hr hsz
  go_wp2_with fail
  refine (HT.out _ B1.out.1).mono ?_
  rintro e w2 ⟨rfl, ho2, hb2⟩
  have B2 := mkHid (And.intro (B1.out.1.trans (hb2.mono B1.out.1.size)) (blk_below B1.out.2 hb2))
  have O2 := mkHid ho2
  clear hb2 ho2 B1 c0 c1 c2
  go_wp2_with fail
  refine (HS.out _ _ O2.out).mono ?_
  rintro e w3 ⟨rfl, hb3⟩
  have k3 := blk_below B2.out.2 hb3
  have B3 := mkHid (And.intro (B2.out.1.trans (hb3.mono B2.out.1.size)) k3)
  have c0 : w3.cell? ⟨w.heap.size, 0, none⟩ = some (.slice a xs.length cap) := cell_of_block k3 0
  have c1 : w3.cell? ⟨w.heap.size, 1, none⟩ = some (.string r) := cell_of_block k3 1
  have c2 : w3.cell? ⟨w.heap.size, 2, none⟩ = some (.int .i64 size) := cell_of_block k3 2
  clear hb3 O2 B2 k3
  go_wp2_with fail
  refine (HT.out _ B3.out.1).mono ?_
  rintro e w4 ⟨rfl, ho4, hb4⟩
  have B4 := mkHid (And.intro (B3.out.1.trans (hb4.mono B3.out.1.size)) (And.intro (blk_below B3.out.2 hb4) ho4))
  clear hb4 ho4 B3 c0 c1 c2
  go_wp2_with fail
  refine (HI.out _ _ (B4.out.1.alloc B4.out.1.size _) (blk_old B4.out.2.2 _)).mono ?_
  rintro e w5 ⟨rfl, hb5⟩
  have k5 := blk_below (blk_old B4.out.2.1 _) hb5
  have j5 := blk_below (blk_new w4 _ w4.heap.size rfl) hb5
  have o5 : Own w5 (w3.heap.size + 3) xs := blk_below (blk_old B4.out.2.2 _) hb5
  have b5 := B4.out.1.trans ((below_allocs (os := [_]) hb5).mono B4.out.1.size)
  have hlt : w4.heap.size < w5.heap.size := (Array.getElem?_eq_some_iff.1 j5).1
  have hwlt : w.heap.size < w5.heap.size := (Array.getElem?_eq_some_iff.1 k5).1
  have B5 := mkHid (And.intro b5 (And.intro k5 (And.intro j5 o5)))
  have c0 : w5.cell? ⟨w.heap.size, 0, none⟩ = some (.slice a xs.length cap) := cell_of_block k5 0
  have c1 : w5.cell? ⟨w.heap.size, 1, none⟩ = some (.string r) := cell_of_block k5 1
  have c2 : w5.cell? ⟨w.heap.size, 2, none⟩ = some (.int .i64 size) := cell_of_block k5 2
  have d0 : w5.cell? ⟨w4.heap.size, 0, none⟩ = some (.slice (some ⟨w3.heap.size + 3, 0, none⟩) xs.length xs.length) := cell_of_block j5 0
  have d1 : w5.cell? ⟨w4.heap.size, 1, none⟩ = some (.string r) := cell_of_block j5 1
  have d2 : w5.cell? ⟨w4.heap.size, 2, none⟩ = some (.int .i64 size) := cell_of_block j5 2
  clear hb5 B4 k5 j5 o5 b5 HI HS
  generalize endH xs r size = q at *
  go_wp2_with fail
  first | go_region_with (first | (go_at_call 20; refine (HT.out _ (by repeat (first | exact B5.out.1 | apply Below.drew))).mono ?_; rintro e w6 ⟨rfl, ho6, hb6⟩; have b6 : Below w5.heap.size w5 w6 := ⟨hb6.os, hb6.tape, hb6.output, hb6.size, hb6.block⟩; have j6 := blk_below B5.out.2.2.1 b6; have O6 := mkHid (And.intro (Own.below B5.out.2.2.2 b6) ho6); have L6 := mkHid (B5.out.1.trans (b6.mono B5.out.1.size)); have e0 : w6.cell? ⟨w4.heap.size, 0, none⟩ = some (.slice (some ⟨w3.heap.size + 3, 0, none⟩) xs.length xs.length) := cell_of_block j6 0; have e1 : w6.cell? ⟨w4.heap.size, 1, none⟩ = some (.string r) := cell_of_block j6 1; have e2 : w6.cell? ⟨w4.heap.size, 2, none⟩ = some (.int .i64 size) := cell_of_block j6 2; clear hb6 b6 j6 ho6) | (go_at_call 21; refine (HE.out _ _ _ O6.out.1 O6.out.2).mono ?_; rintro e w7 ⟨rfl, hb7⟩)) | fail
  all_goals
    have L7 := mkHid (L6.out.trans (Below.mono ⟨hb7.os, hb7.tape, hb7.output, hb7.size, hb7.block⟩ L6.out.size))
    clear hb7
    go_wp2
    go_ret
    exact ⟨rfl, L7.out⟩

set_option maxRecDepth 100000 in
theorem HashEnd_walk (I : IEnd) (a : Option Addr) (cap : Nat) (xs : List Int) (r : ByteArray) (size : Int) (w : World) (hG : GV w) (hl : (xs.length : Int) ≤ 9223372036854775807) (hrl : (r.size : Int) ≤ 9223372036854775807) (hr : Rd w a xs) (hs0 : -9223372036854775808 ≤ size) (hs1 : size ≤ 9223372036854775807) :
    Calls Tryd.prog 6 #[sha.hash a xs.length cap r size] w fun e w' => e = .returned (.bool true) ∧ Below w.heap.size w w' := by
  by_cases h0 : 1048576 < xs.length + r.size
  · unfold sha.hash
    go_enter Tryd.func6, Tryd.ntmps6
    go_wp2_with fail
    refine (szH_any a xs.length cap r size _ _ hl hrl (by omega) (by omega)).mono ?_
    rintro e w1 ⟨rfl, hb1⟩
    have hsz : szv 1048576 xs.length r.size = -1 := by unfold szv; split <;> (try split) <;> omega
    rw [hsz]
    have B := mkHid (below_allocs (os := [_]) hb1)
    clear hb1 hr hl hsz
    go_wp2
    go_ret
    exact ⟨rfl, B.out⟩
  · exact HashEnd_in I a cap xs r size w hG (by omega) hr hs0 hs1

end Go.Proofs.YtkkndkikfphnbaaDoor.himpl
