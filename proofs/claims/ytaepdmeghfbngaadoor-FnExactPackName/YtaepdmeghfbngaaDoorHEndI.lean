/-
  What impl.HashEnd answers and leaves. Conditions: at most 1,048,576 numbers, which lie in memory; at most 1,048,576 bytes; the numbers of the rounds are there.
-/
import Derived.Test.YtaepdmeghfbngaaDoorHMoreI
import Derived.Test.YtaepdmeghfbngaaDoorHighI
namespace Go.Proofs.YtaepdmeghfbngaaDoor.himpl
open Go.RowKit Go.Joins
open Go.Proofs.YtaepdmeghfbngaaDoor.base Go.Proofs.YtaepdmeghfbngaaDoor.ints Go.Proofs.YtaepdmeghfbngaaDoor.blk
open Go.Proofs.YtaepdmeghfbngaaDoor.sha (hRight endH dig digL digL_next by8 tail tail_len gap GV after fn rd_fn hRight_parts rowF rowF_cell)
open Go.Proofs.YtaepdmeghfbngaaDoor.shaI (take_any after_bd st Hi high_any highL padding_any)
set_option linter.unusedVariables false

theorem high4 (x : Int) : highL x 4 4 = [by8 x 16777216, by8 x 65536, by8 x 256, by8 x 1] := rfl

/-- the boxed Hash -/
structure Eb (w : World) (box : Obj) (wr : World) : Prop where
  below : Below w.heap.size w wr
  bx : wr.heap[w.heap.size]? = some box
theorem Eb.next {w wr w' : World} {box : Obj} (h : Eb w box wr) (hb : Below wr.heap.size wr w') : Eb w box w' := ⟨h.below.trans (hb.mono h.below.size), blk_below h.bx hb⟩
theorem hi_here {base : Nat} {w wr : World} {va : Option Addr} {n vc : Nat} {acc : List UInt8} (h : Hi base w va n vc acc wr) : Hi base wr va n vc acc wr := ⟨h.own, h.len, Below.refl _ _, Nat.le_trans h.hb h.below.size⟩
theorem hi_from {base : Nat} {w wr w' : World} {va va' : Option Addr} {n n' vc vc' : Nat} {acc acc' : List UInt8} (h : Hi base w va n vc acc wr) (k : Hi base wr va' n' vc' acc' w') : Hi base w va' n' vc' acc' w' := ⟨k.own, k.len, h.below.trans k.below, h.hb⟩

set_option maxRecDepth 100000 in
set_option maxHeartbeats 1000000 in
theorem end_any : IEnd := by
  intro b0 off cap zs r size w hl hr hrs hs0 hs1 hG
  have HRt : Hid (∀ wx, Below w.heap.size w wx → Calls Tryd.prog 19 #[.agg #[.slice (some ⟨b0, off, none⟩) zs.length cap, .string r, .int .i64 size]] wx fun e w' => e = .returned (.bool (hRight zs r size)) ∧ Below wx.heap.size wx w') :=
    mkHid (fun wx hb => right_any b0 off cap zs r size wx hl (hr.below hb) hrs hs0 hs1)
  cases hR : hRight zs r size with
  | false =>
    have E : Hid (endH zs r size = ⟨#[]⟩) := mkHid (by unfold endH; rw [hR]; rfl)
    rw [E.out]
    have HQ := mkHid hR
    clear hR E hG hr
    unfold sha.hash
    go_enter Tryd.func14, Tryd.ntmps14
    go_wp2_with fail
    refine (HRt.out _ (below_alloc1 w _)).mono ?_
    rintro e w1 ⟨rfl, hb1⟩
    rw [HQ.out]
    have B := mkHid (below_allocs (os := [_]) hb1)
    clear hb1
    go_wp2
    go_ret
    exact ⟨rfl, B.out⟩
  | true =>
    obtain ⟨h8, hz0, hz1, hr64, hrl⟩ := hRight_parts hR
    obtain ⟨s, hsE⟩ : ∃ s, s = r ++ (⟨(tail size).toArray⟩ : ByteArray) := ⟨_, rfl⟩
    have htl : (⟨(tail size).toArray⟩ : ByteArray).size = gap size + 9 := by show (tail size).toArray.size = _; rw [List.size_toArray, tail_len]
    have hss : s.size = r.size + (gap size + 9) := by rw [hsE, ByteArray.size_append, htl]
    obtain ⟨n, hn⟩ : ∃ n, n = s.size / 64 := ⟨_, rfl⟩
    have hsn : s.size = 64 * n := by rw [hn, hss]; unfold gap; omega
    have hgl := sha.gap_lt size
    obtain ⟨f, hf⟩ : ∃ f, f = after (fn zs) s n := ⟨_, rfl⟩
    have HT : Hid (∀ wx, Below w.heap.size w wx → Calls Tryd.prog 20 #[.slice (some ⟨b0, off, none⟩) zs.length cap, .string s] wx fun e w' => ∃ g, e = .returned (.slice (some ⟨g, 0, none⟩) 8 8) ∧ w'.heap[g]? = some (rowF .i64 2 8 f) ∧ Below wx.heap.size wx w') :=
      mkHid (fun wx hb => by
        have h := take_any b0 off cap (fn zs) s n wx hsn (by omega) (rd_fn (hr.below hb) h8) (hG.at hb)
        rw [h8]
        refine h.mono ?_
        rintro e w' ⟨g, rfl, hg, hrow, hb'⟩
        refine ⟨g, rfl, hrow.trans (congrArg some (sha.rowF_congr (fun i hi => ?_))), hb'⟩
        unfold st
        rw [hf, after_bd (fn zs) s (fn_bd hR) n i hi])
    have HP : Hid (∀ wx, Calls Tryd.prog 21 #[.int .i64 size] wx fun e w' => e = .returned (.string ⟨(tail size).toArray⟩) ∧ Below wx.heap.size wx w') := mkHid (fun wx => padding_any size wx hz0 hz1)
    have E : Hid (endH zs r size = ⟨(digL f 8).toArray⟩) := mkHid (by unfold endH; rw [if_pos hR]; unfold dig; rw [hf, hn, hsE])
    rw [E.out]
    have HQ := mkHid hR
    have HSE := mkHid hsE.symm
    have hrt : (r.size : Int) + ((⟨(tail size).toArray⟩ : ByteArray).size : Int) ≤ 1000 := by omega
    have hrt2 : (9223372036854775807 < r.size + (⟨(tail size).toArray⟩ : ByteArray).size) = False := eq_false (by omega)
    clear hR E hG hr hsE hss hn hsn hf hr64 hrl htl hgl h8
    generalize (⟨(tail size).toArray⟩ : ByteArray) = tl at *
    unfold sha.hash
    go_enter Tryd.func14, Tryd.ntmps14
    go_wp2_with fail
    refine (HRt.out _ (below_alloc1 w _)).mono ?_
    rintro e w1 ⟨rfl, hb1⟩
    rw [HQ.out]
    have S1 : Hid (Eb w (.cells #[.slice (some ⟨b0, off, none⟩) zs.length cap, .string r, .int .i64 size] 28) w1) := mkHid ⟨below_allocs (os := [_]) hb1, blk_below (blk_new w _ _ rfl) hb1⟩
    have c0 : w1.cell? ⟨w.heap.size, 0, none⟩ = some (.slice (some ⟨b0, off, none⟩) zs.length cap) := cell_of_block S1.out.bx 0
    have c1 : w1.cell? ⟨w.heap.size, 1, none⟩ = some (.string r) := cell_of_block S1.out.bx 1
    have c2 : w1.cell? ⟨w.heap.size, 2, none⟩ = some (.int .i64 size) := cell_of_block S1.out.bx 2
    clear hb1
    go_wp2_with fail
    go_region_held3 (fun w' => w'.cell? ⟨w.heap.size, 0, none⟩ = some (.slice (some ⟨b0, off, none⟩) zs.length cap) ∧ w'.cell? ⟨w.heap.size, 1, none⟩ = some (.string r) ∧ w'.cell? ⟨w.heap.size, 2, none⟩ = some (.int .i64 size)) (go_keep)
      ((first
        | (go_at_call 21; refine Calls.mono (HP.out _) ?_; rintro e w2 ⟨rfl, hb2⟩; have S2 := mkHid (S1.out.next (re hb2 rfl rfl rfl rfl)); have a0 : w2.cell? ⟨w.heap.size, 0, none⟩ = some (.slice (some ⟨b0, off, none⟩) zs.length cap) := cell_of_block S2.out.bx 0; have a1 : w2.cell? ⟨w.heap.size, 1, none⟩ = some (.string r) := cell_of_block S2.out.bx 1; have a2 : w2.cell? ⟨w.heap.size, 2, none⟩ = some (.int .i64 size) := cell_of_block S2.out.bx 2; clear hb2)
        | (go_at_call 20; rw [HSE.out]; refine Calls.mono (HT.out _ (by first | exact S2.out.below | exact S2.out.below.drew)) ?_; rintro e w3 ⟨g, rfl, hrow, hb3⟩; have S3 := mkHid (And.intro (S2.out.next (re hb3 rfl rfl rfl rfl)) hrow); have d0 : w3.cell? ⟨w.heap.size, 0, none⟩ = some (.slice (some ⟨b0, off, none⟩) zs.length cap) := cell_of_block S3.out.1.bx 0; have d1 : w3.cell? ⟨w.heap.size, 1, none⟩ = some (.string r) := cell_of_block S3.out.1.bx 1; have d2 : w3.cell? ⟨w.heap.size, 2, none⟩ = some (.int .i64 size) := cell_of_block S3.out.1.bx 2; clear hb3 hrow)))
    clear a0 a1 a2 d0 d1 d2 c0 c1 c2 hrt hrt2 HP HT HRt HQ HSE S1 S2
    have H0 : Hid (Hi w3.heap.size w3 none 0 0 (digL f 0) w3) := mkHid ⟨⟨rfl, .inl ⟨rfl, rfl⟩⟩, rfl, Below.refl _ _, Nat.le_refl _⟩
    have hg3 : g < w3.heap.size := (Array.getElem?_eq_some_iff.1 S3.out.2).1
    go_wp2
    go_loopw [3, 19] (fun v i wr => ∃ (k m : Nat) (a : Option Addr) (c : Nat), k ≤ 8 ∧ i = .int .i64 k ∧ v = .slice a m c ∧ Hid (m = 4 * k) ∧ Hid (Hi w3.heap.size w3 a m c (digL f k) wr))
      (fun _ i _ => 8 - (intOf i).toNat)
    case atStart => exact ⟨0, 0, none, 0, by omega, rfl, rfl, mkHid rfl, H0⟩
    case round =>
      clear H0
      obtain ⟨k, m, a, c, hk, rfl, rfl, hm, hH⟩ := hrel
      by_cases hlt : k < 8
      · have hki : (k : Int) < 8 := by omega
        have hcell : wr.cell? ⟨g, k, none⟩ = some (.int .i64 (f k)) := by
          rw [hH.out.below.cell (p := ⟨g, k, none⟩) hg3]
          exact rowF_cell S3.out.2 hlt
        have HK : Hid (Calls Tryd.prog 22 #[.slice a m c, .int .i64 (f k), .int .i64 4] wr fun e w' => ∃ a' c', e = .returned (.slice a' (m + 4) c') ∧ Hi w3.heap.size w3 a' (m + 4) c' (digL f (k + 1)) w') := mkHid (by
          have h := high_any w3.heap.size a m c (digL f k) (f k) 4 wr (by omega) (by have := hm.out; omega) (hi_here hH.out)
          rw [high4, digL_next] at h
          exact h.mono (by rintro e w' ⟨a', c', rfl, h2⟩; exact ⟨a', c', rfl, hi_from hH.out h2⟩))
        generalize f k = x at *
        go_wp2_with fail
        refine HK.out.mono ?_
        rintro e w4 ⟨a', c', rfl, hE⟩
        have E4 := mkHid hE
        clear hE HK hH hcell
        go_wp2
        go_roundw
        case rel => exact ⟨k + 1, m + 4, a', c', by omega, by go_num, rfl, mkHid (by have := hm.out; omega), E4⟩
        case measure => simp [intOf]; omega
      · have hk8 : k = 8 := by omega
        have hconv := hH.out.str
        rw [hk8] at hconv
        have B := mkHid (S3.out.1.below.trans (hH.out.below.mono S3.out.1.below.size))
        clear hH
        go_wp2
        go_ret
        exact ⟨rfl, B.out⟩
end Go.Proofs.YtaepdmeghfbngaaDoor.himpl
