/-
  What impl.PlacesBytes answers and leaves. Conditions: places that lie in memory, of texts of at most 1,048,576 bytes.
-/
import Derived.Test.YtmmmadehifajlaaBtS
import Derived.Test.YtmmmadehifajlaaBldI
import Derived.Test.YtmmmadehifajlaaPlRI
namespace Go.Proofs.Ytmmmadehifajlaa.plc
open Go.RowKit Go.Joins
open Go.Proofs.Ytmmmadehifajlaa.base Go.Proofs.Ytmmmadehifajlaa.blk Go.Proofs.Ytmmmadehifajlaa.aid
open Go.Proofs.Ytmmmadehifajlaa.row (Rd Own OwnV)
open Go.Proofs.Ytmmmadehifajlaa.rwPlace (cs el)
set_option linter.unusedVariables false
set_option linter.unusedSimpArgs false

theorem bld_next {B g : Nat} {bs : List Value} {W W' : World} (h : Lib.IsBuilder 51 5 B g bs W) (hg : W.grownBy W' none) : Lib.IsBuilder 51 5 B g bs W' := by
  have aux : ∀ p, Lib.BuilderAt 51 5 B g p bs W → Lib.BuilderAt 51 5 B g p bs W' := by
    rintro p ⟨hB, v, hb, hown, hne⟩
    refine ⟨hB, v, (hg.block g (Array.getElem?_eq_some_iff.1 hb).1 (by simp)).trans hb, hown.kept hg ?_, hne⟩
    by_cases hn : v.ownBlock = none
    · exact .inl hn
    · exact .inr hn
  exact h.imp (aux _) (aux _)
/-- a builder at B that grows while the call runs -/
structure Bi (w : World) (B : Nat) (acc : List UInt8) (W : World) : Prop where
  below : Below w.heap.size w W
  le : w.heap.size ≤ B
  sz : B < W.heap.size
  bld : Lib.IsBuilder 51 5 B B (acc.map byteV) W
theorem Bi.next {w W W' : World} {B : Nat} {acc : List UInt8} (h : Bi w B acc W) (hb : Below W.heap.size W W') : Bi w B acc W' :=
  ⟨below_trans h.below hb, h.le, Nat.lt_of_lt_of_le h.sz hb.size, bld_next h.bld (below_grew hb none)⟩
theorem Bi.put {w W W' : World} {B : Nat} {acc acc' : List UInt8} (h : Bi w B acc W) (h1 : Lib.IsBuilder 51 5 B B (acc'.map byteV) W') (h2 : Below B W W') : Bi w B acc' W' :=
  ⟨h.below.trans (h2.mono h.le), h.le, Nat.lt_of_lt_of_le h.sz h2.size, h1⟩
set_option maxRecDepth 100000 in
set_option maxHeartbeats 4000000 in
theorem bytesI_any (a : Option Addr) (c : Nat) (l : List Pl) (w : World) (hl : l.length ≤ 1048576) (hs : Small l) (hr : Rd w a (cs l)) :
    Calls Try.prog 47 #[.slice a l.length c] w fun e w' => e = .returned (.string (bytesP l)) ∧ Below w.heap.size w w' := by
  have HR := mkHid (rightI_any a c l w hl hs hr)
  cases hp : placesB l with
  | false =>
    rw [hp] at HR
    have E : Hid (bytesP l = ⟨#[]⟩) := mkHid (bytesP_no hp)
    rw [E.out]
    clear hr
    go_enter Try.func47, Try.ntmps47
    go_wp2_with fail
    refine HR.out.mono ?_
    rintro e w1 ⟨rfl, hb⟩
    have B1 := mkHid hb
    clear hb
    go_wp2
    go_ret
    exact ⟨rfl, B1.out⟩
  | true =>
    rw [hp] at HR
    obtain ⟨h300, _, hpl⟩ := (placesB_iff l).1 hp
    have HP := mkHid hpl
    have hli : (l.length : Int) ≤ 300 := by omega
    have E : Hid (bytesP l = ⟨(bytesL l).toArray⟩) := mkHid (by unfold bytesP; rw [if_pos hp])
    rw [E.out]
    have HA := mkHid hr
    have HN := mkHid (fun wx => num_impl (l.length : Int) wx (by omega) (by omega))
    have hn3 := nbk.numB_len (k := (l.length : Int)) (by omega)
    have hn0 : Hid (bytesL l ≠ []) := mkHid (by
      unfold bytesL nbk.numB
      have := nbk.num_pos (2 * (l.length : Int).toNat)
      intro e
      have e2 := congrArg List.length e
      rw [List.length_append] at e2
      have e3 : ({ data := (num (2 * (l.length : Int).toNat)).toArray } : ByteArray).data.toList = num (2 * (l.length : Int).toNat) := by simp
      rw [e3] at e2
      simp only [List.length_nil] at e2
      omega)
    have HBL : Hid (bytesL l = (nbk.numB l.length).data.toList ++ recsP l) := mkHid rfl
    generalize nbk.numB (l.length : Int) = hd at *
    clear hr hp hpl
    go_enter Try.func47, Try.ntmps47
    go_wp2_with fail
    refine HR.out.mono ?_
    rintro e w1 ⟨rfl, hb⟩
    have T0 : Hid (Bi w w1.heap.size [] (w1.alloc (.cells #[.pointer none, .slice none 0 0] 51))) := mkHid ⟨hb.alloc hb.size _, hb.size, by simp, Lib.fresh_isBuilder 51 5 w1⟩
    clear hb HR
    generalize hB : w1.heap.size = B at *
    go_wp2_with fail
    refine (HN.out _).mono ?_
    rintro e w2 ⟨rfl, hb⟩
    have T1 := mkHid (T0.out.next hb)
    clear hb T0 HN
    have HW := mkHid (bld.write_any B B [] hd w2 T1.out.bld (by simp) (by omega) (Nat.le_of_lt T1.out.sz))
    go_wp2_with fail
    refine HW.out.mono ?_
    rintro e w3 ⟨rfl, hi, hb, _⟩
    have T2 : Hid (Bi w B (hd.data.toList ++ recsP (l.take 0)) w3) := mkHid (T1.out.put (by simpa [recsP] using hi) hb)
    clear hi hb HW T1 hB
    go_wp2_with fail
    go_loopw [15] (fun i wr => ∃ k : Nat, k ≤ l.length ∧ i = .int .i64 k ∧ Hid (Bi w B (hd.data.toList ++ recsP (l.take k)) wr))
      (fun i _ => l.length - (intOf i).toNat)
    case atStart => exact ⟨0, Nat.zero_le _, rfl, T2⟩
    case round =>
      obtain ⟨k, hk, rfl, T⟩ := hrel
      clear T2
      by_cases hlt : k < l.length
      · have hlti : (k : Int) < (l.length : Int) := by omega
        obtain ⟨⟨x0, x1, x2, x3, x4⟩, hx⟩ : ∃ y, l[k]? = some y := ⟨_, List.getElem?_eq_getElem hlt⟩
        obtain ⟨g1, o1, rfl, c0, c1, c2, c3, c4, l1⟩ := el (HA.out.below T.out.below) hx
        simp only at c0 c1 c2 c3 c4
        have hpx := HP.out _ (List.mem_of_getElem? hx)
        obtain ⟨p1, p2, p3, p4, p5, p6, p7, p8⟩ := plB_small hpx
        simp only at p1 p2 p3 p4 p5 p6 p7 p8
        have hrs := recsP_snoc hx
        have hrec2 := recP_size hpx
        have hn : (hd.data.toList ++ recsP (l.take k)).length ≤ 3 + 222 * k := by
          have h3 := recsP_len (l.take k) (fun p hq => HP.out p (List.mem_of_mem_take hq))
          have h4 : (l.take k).length ≤ k := by simp; omega
          rw [List.length_append, len_list]
          have h5 : 222 * (l.take k).length ≤ 222 * k := Nat.mul_le_mul_left _ h4
          omega
        have HT := mkHid (fun wx => fnExactPutText.impl_any x1 wx (by omega))
        have HN2 := mkHid (fun wx => num_impl x2 wx (by omega) (by omega))
        have HN3 := mkHid (fun wx => num_impl x3 wx (by omega) (by omega))
        have HN4 := mkHid (fun wx => num_impl x4 wx (by omega) (by omega))
        have q1 := fnExactPutText.pre_size x1.size
        have q2 := nbk.numB_len (k := x2) (by omega)
        have q3 := nbk.numB_len (k := x3) (by omega)
        have q4 := nbk.numB_len (k := x4) (by omega)
        have hWr := mkHid (fun wx (hb : Bi w B (hd.data.toList ++ recsP (l.take k)) wx) => bld.write_any B B (hd.data.toList ++ recsP (l.take k)) (recP (x0, x1, x2, x3, x4)) wx hb.bld (by omega) (by omega) (Nat.le_of_lt hb.sz))
        have hPut := mkHid (fun wx wy (hb : Bi w B (hd.data.toList ++ recsP (l.take k)) wx) (h1 : Lib.IsBuilder 51 5 B B ((hd.data.toList ++ recsP (l.take k) ++ (recP (x0, x1, x2, x3, x4)).data.toList).map byteV) wy) (h2 : Below B wx wy) => (show Bi w B (hd.data.toList ++ recsP (l.take (k + 1))) wy by rw [hrs, ← List.append_assoc]; exact hb.put h1 h2))
        have hpt : (fnExactPutText.pre x1.size ++ x1).size ≤ 200 := by rw [ByteArray.size_append]; omega
        have ER : recP (x0, x1, x2, x3, x4) = x0 ++ (fnExactPutText.pre x1.size ++ x1) ++ nbk.numB x2 ++ nbk.numB x3 ++ nbk.numB x4 := rfl
        rw [ER] at hWr hPut
        generalize fnExactPutText.pre x1.size ++ x1 = pt at *
        generalize nbk.numB x2 = n2 at *
        generalize nbk.numB x3 = n3 at *
        generalize nbk.numB x4 = n4 at *
        have a1 : (9223372036854775807 < x0.size + pt.size) = False := by simp; omega
        have a2 : (9223372036854775807 < (x0 ++ pt).size + n2.size) = False := by simp [ByteArray.size_append]; omega
        have a3 : (9223372036854775807 < (x0 ++ pt ++ n2).size + n3.size) = False := by simp [ByteArray.size_append]; omega
        have a4 : (9223372036854775807 < (x0 ++ pt ++ n2 ++ n3).size + n4.size) = False := by simp [ByteArray.size_append]; omega
        have d1 := fun wx => run_string_add_sum (P := Try.prog) wx x0 pt (by omega)
        have d2 := fun wx => run_string_add_sum (P := Try.prog) wx (x0 ++ pt) n2 (by simp [ByteArray.size_append]; omega)
        have d3 := fun wx => run_string_add_sum (P := Try.prog) wx (x0 ++ pt ++ n2) n3 (by simp [ByteArray.size_append]; omega)
        have d4 := fun wx => run_string_add_sum (P := Try.prog) wx (x0 ++ pt ++ n2 ++ n3) n4 (by simp [ByteArray.size_append]; omega)
        have hBw := T.out.sz
        have P0 := mkHid (And.intro (T.out.next (below_alloc1 wr (.cells #[.string x0, .string x1, .int .i64 x2, .int .i64 x3, .int .i64 x4] 75))) (blk_new wr (.cells #[.string x0, .string x1, .int .i64 x2, .int .i64 x3, .int .i64 x4] 75) wr.heap.size rfl))
        have HWR := mkHid hBw
        clear T hx hpx hrs hrec2 p1 p2 p3 p4 p5 p6 p7 p8 q1 q2 q3 q4 hn hpt ER
        go_wp2_with fail
        generalize wr.alloc (.cells #[.string x0, .string x1, .int .i64 x2, .int .i64 x3, .int .i64 x4] 75) = W at *
        clear c0 c1 c2 c3 c4
        obtain ⟨c0, c1, c2, c3, c4⟩ := cel5 P0.out.2
        go_region_held3 (fun w' => w'.cell? ⟨wr.heap.size, 0, none⟩ = some (.string x0) ∧ w'.cell? ⟨wr.heap.size, 1, none⟩ = some (.string x1) ∧ w'.cell? ⟨wr.heap.size, 2, none⟩ = some (.int .i64 x2) ∧ w'.cell? ⟨wr.heap.size, 3, none⟩ = some (.int .i64 x3) ∧ w'.cell? ⟨wr.heap.size, 4, none⟩ = some (.int .i64 x4)) (go_keep)
          ((first
            | (go_at_call 31; refine Calls.mono (HT.out _) ?_; rintro e w4 ⟨rfl, hb4⟩; have r4 := re (w := W) hb4 rfl rfl rfl rfl; have P4 := mkHid (And.intro (P0.out.1.next r4) (blk_below P0.out.2 r4)); obtain ⟨e0, e1, e2, e3, e4⟩ := cel5 P4.out.2; clear hb4 r4)
            | (go_at_call 30; have t := P6; clear t; refine Calls.mono (HN4.out _) ?_; rintro e w7 ⟨rfl, hb7⟩; have r7 := re (w := w6) hb7 rfl rfl rfl rfl; have P7 := mkHid (And.intro (P6.out.1.next r7) (blk_below P6.out.2 r7)); obtain ⟨j0, j1, j2, j3, j4⟩ := cel5 P7.out.2; clear hb7 r7)
            | (go_at_call 30; have t := P5; clear t; refine Calls.mono (HN3.out _) ?_; rintro e w6 ⟨rfl, hb6⟩; have r6 := re (w := w5) hb6 rfl rfl rfl rfl; have P6 := mkHid (And.intro (P5.out.1.next r6) (blk_below P5.out.2 r6)); obtain ⟨i0, i1, i2, i3, i4⟩ := cel5 P6.out.2; clear hb6 r6)
            | (go_at_call 30; have t := P4; clear t; refine Calls.mono (HN2.out _) ?_; rintro e w5 ⟨rfl, hb5⟩; have r5 := re (w := w4) hb5 rfl rfl rfl rfl; have P5 := mkHid (And.intro (P4.out.1.next r5) (blk_below P4.out.2 r5)); obtain ⟨f0, f1, f2, f3, f4⟩ := cel5 P5.out.2; clear hb5 r5)
            | (go_at_call 29; refine Calls.mono (hWr.out _ P7.out.1) ?_; rintro e w8 ⟨rfl, hi8, hb8, ho8⟩; have P8 := mkHid (hPut.out w7 w8 P7.out.1 hi8 hb8); have y := ho8 wr.heap.size _ P7.out.2 (by have := HWR.out; omega) (fun cs fr e => by cases e); obtain ⟨k0, k1, k2, k3, k4⟩ := cel5 y; clear hi8 hb8 ho8)))
        clear c0 c1 c2 c3 c4 e0 e1 e2 e3 e4 f0 f1 f2 f3 f4 i0 i1 i2 i3 i4 j0 j1 j2 j3 j4 k0 k1 k2 k3 k4 y P0 P4 P5 P6 P7 hWr hPut HN2 HN3 HN4 HT a1 a2 a3 a4 d1 d2 d3 d4 HWR hBw
        go_wp2
        go_roundw
        case rel => exact ⟨k + 1, by omega, by go_num, P8⟩
        case measure => simp [intOf]; omega
      · obtain rfl : k = l.length := by omega
        have hbl := T.out.bld
        rw [List.take_of_length_le (Nat.le_refl _), ← HBL.out] at hbl
        have HSt := mkHid (bld.str_some B B (bytesL l) wr hbl hn0.out)
        have hle := T.out.le
        have F := mkHid T.out.below
        clear T hbl
        go_wp2_with fail
        refine HSt.out.mono ?_
        rintro e w4 ⟨rfl, hb⟩
        have F2 := mkHid (F.out.trans (hb.mono hle))
        clear hb HSt
        go_wp2
        go_ret
        exact ⟨rfl, F2.out⟩
end Go.Proofs.Ytmmmadehifajlaa.plc
