/-
  What spec.PlacesBytes answers and leaves. Conditions: places that lie in memory, of texts of at most 1,048,576 bytes.
-/
import Derived.Test.YtppjbmmeacmoiabBtR
import Derived.Test.YtppjbmmeacmoiabPlRS
namespace Go.Proofs.Ytppjbmmeacmoiab.plc
open Go.RowKit Go.Joins Go.Sort
open Go.Proofs.Ytppjbmmeacmoiab.base Go.Proofs.Ytppjbmmeacmoiab.blk Go.Proofs.Ytppjbmmeacmoiab.aid
open Go.Proofs.Ytppjbmmeacmoiab.row (Rd Own OwnV appSem app_fold)
open Go.Proofs.Ytppjbmmeacmoiab.rwPlace (cs el)
set_option linter.unusedVariables false
set_option linter.unusedSimpArgs false
attribute [local go_sem ↓] app_fold conv_fold

/-- bytes that grow while the call runs -/
structure Bt (w wr : World) (g n cap : Nat) (acc : List UInt8) : Prop where
  row : BRow wr w.heap.size g n cap acc
  below : Below w.heap.size w wr
theorem Bt.next {w wr w' : World} {g n cap : Nat} {acc : List UInt8} (h : Bt w wr g n cap acc) (hb : Below wr.heap.size wr w') : Bt w w' g n cap acc := ⟨h.row.below hb, below_trans h.below hb⟩
theorem Bt.add {w wr : World} {g n cap : Nat} {acc : List UInt8} (h : Bt w wr g n cap acc) (s : ByteArray) (hn : n ≤ 1048576) (hs : s.size ≤ 1048576) :
    ∃ g' cap' w2, (appSem #[39, 9] 39 #[.slice (some ⟨g, 0, none⟩) n cap, .string s]).run Try.prog wr = .ok (.slice (some ⟨g', 0, none⟩) (n + s.size) cap') w2 ∧ Bt w w2 g' (n + s.size) cap' (acc ++ s.data.toList) := by
  obtain ⟨g', cap', w2, h1, h2, h3⟩ := brow_add wr w.heap.size g n cap acc s h.row h.below.size hn hs
  exact ⟨g', cap', w2, h1, h2, h.below.grown h3 h.below.size (fun j hj => by cases hj; exact h.row.lo)⟩
theorem bytesP_no {l : List Pl} (h : placesB l = false) : bytesP l = ⟨#[]⟩ := by unfold bytesP; rw [if_neg (by rw [h]; simp)]
set_option maxRecDepth 100000 in
set_option maxHeartbeats 4000000 in
theorem bytesS_any (a : Option Addr) (c : Nat) (l : List Pl) (w : World) (hl : l.length ≤ 1048576) (hs : Small l) (hr : Rd w a (cs l)) :
    Calls Try.prog 6 #[.slice a l.length c] w fun e w' => e = .returned (.string (bytesP l)) ∧ Below w.heap.size w w' := by
  by_cases h1 : 400 < l.length
  · have E : Hid (bytesP l = ⟨#[]⟩) := mkHid (bytesP_no (by cases hp : placesB l with | false => rfl | true => have := ((placesB_iff l).1 hp).1; omega))
    have h1i : (400 : Int) < (l.length : Int) := by omega
    rw [E.out]
    clear hr
    go_enter Try.func6, Try.ntmps6
    go_wp2
    go_ret
    exact ⟨rfl, Below.refl _ _⟩
  have h1i : (l.length : Int) ≤ 400 := by omega
  have HR := mkHid (rightS_any a c l w hl hs hr)
  cases hp : placesB l with
  | false =>
    rw [hp] at HR
    have E : Hid (bytesP l = ⟨#[]⟩) := mkHid (bytesP_no hp)
    rw [E.out]
    clear hr
    go_enter Try.func6, Try.ntmps6
    go_wp2_with fail
    refine HR.out.mono ?_
    rintro e w1 ⟨rfl, hb⟩
    have B1 := mkHid hb
    clear hb
    go_wp2
    go_ret
    exact ⟨rfl, B1.out⟩
  | true =>
    rw [hp] at HR
    obtain ⟨h300, _, hpl⟩ := (placesB_iff l).1 hp
    have HP := mkHid hpl
    have E : Hid (bytesP l = ⟨(bytesL l).toArray⟩) := mkHid (by unfold bytesP; rw [if_pos hp])
    rw [E.out]
    have HA := mkHid hr
    have HN := mkHid (fun wx => num_spec (l.length : Int) wx (by omega) (by omega))
    have hn3 := nbk.numB_len (k := (l.length : Int)) (by omega)
    have HBL : Hid (bytesL l = (nbk.numB l.length).data.toList ++ recsP l) := mkHid rfl
    generalize nbk.numB (l.length : Int) = hd at *
    clear hr hp hpl
    go_enter Try.func6, Try.ntmps6
    go_wp2_with fail
    refine HR.out.mono ?_
    rintro e w1 ⟨rfl, hb⟩
    have B1 := mkHid hb
    clear hb HR
    go_wp2_with fail
    refine (HN.out _).mono ?_
    rintro e w2 ⟨rfl, hb⟩
    have B2 := mkHid (below_trans B1.out hb)
    obtain ⟨cap0, w3, hconv, hrow, hb3⟩ := brow_new w2 hd (by omega)
    have T0 : Hid (Bt w w3 w2.heap.size hd.size cap0 (hd.data.toList ++ recsP (l.take 0))) := mkHid ⟨⟨by simp [recsP, len_list], B2.out.size, hrow.nc, hrow.cm, by simpa [recsP] using hrow.row⟩, below_trans B2.out hb3⟩
    clear hb hrow hb3 B1 B2 HN
    go_wp2_with fail
    go_loopw [3, 4] (fun v i wr => ∃ (k g n cap : Nat), k ≤ l.length ∧ i = .int .i64 k ∧ v = .slice (some ⟨g, 0, none⟩) n cap ∧ Hid (Bt w wr g n cap (hd.data.toList ++ recsP (l.take k))))
      (fun _ i _ => l.length - (intOf i).toNat)
    case atStart => exact ⟨0, _, _, _, Nat.zero_le _, rfl, rfl, T0⟩
    case round =>
      obtain ⟨k, g, n, cap, hk, rfl, rfl, T⟩ := hrel
      clear T0
      by_cases hlt : k < l.length
      · have hlti : (k : Int) < (l.length : Int) := by omega
        obtain ⟨⟨x0, x1, x2, x3, x4⟩, hx⟩ : ∃ y, l[k]? = some y := ⟨_, List.getElem?_eq_getElem hlt⟩
        obtain ⟨g1, o1, rfl, c0, c1, c2, c3, c4, l1⟩ := el HA.out hx
        simp only at c0 c1 c2 c3 c4
        have hpx := HP.out _ (List.mem_of_getElem? hx)
        obtain ⟨p1, p2, p3, p4, p5, p6, p7, p8⟩ := plB_small hpx
        simp only at p1 p2 p3 p4 p5 p6 p7 p8
        have hrs := recsP_snoc hx
        have hn : n ≤ 3 + 222 * k := by
          have h2 := T.out.row.len
          have h3 := recsP_len (l.take k) (fun p hq => HP.out p (List.mem_of_mem_take hq))
          have h4 : (l.take k).length ≤ k := by simp; omega
          rw [List.length_append, len_list] at h2
          have h5 : 222 * (l.take k).length ≤ 222 * k := Nat.mul_le_mul_left _ h4
          omega
        have hC : Hid (∀ W, Below w.heap.size w W → W.cell? ⟨g1, o1 + k * 5, none⟩ = some (.string x0) ∧ W.cell? ⟨g1, o1 + k * 5 + 1, none⟩ = some (.string x1) ∧ W.cell? ⟨g1, o1 + k * 5 + 2, none⟩ = some (.int .i64 x2) ∧ W.cell? ⟨g1, o1 + k * 5 + 3, none⟩ = some (.int .i64 x3) ∧ W.cell? ⟨g1, o1 + k * 5 + 4, none⟩ = some (.int .i64 x4)) :=
          mkHid (fun W hb => ⟨(hb.cell (p := ⟨g1, o1 + k * 5, none⟩) l1).trans c0, (hb.cell (p := ⟨g1, o1 + k * 5 + 1, none⟩) l1).trans c1, (hb.cell (p := ⟨g1, o1 + k * 5 + 2, none⟩) l1).trans c2, (hb.cell (p := ⟨g1, o1 + k * 5 + 3, none⟩) l1).trans c3, (hb.cell (p := ⟨g1, o1 + k * 5 + 4, none⟩) l1).trans c4⟩)
        have HT := mkHid (fun wx => fnExactPutText.spec_any x1 wx (by omega))
        have HN2 := mkHid (fun wx => num_spec x2 wx (by omega) (by omega))
        have HN3 := mkHid (fun wx => num_spec x3 wx (by omega) (by omega))
        have HN4 := mkHid (fun wx => num_spec x4 wx (by omega) (by omega))
        have q1 := fnExactPutText.pre_size x1.size
        have q2 := nbk.numB_len (k := x2) (by omega)
        have q3 := nbk.numB_len (k := x3) (by omega)
        have q4 := nbk.numB_len (k := x4) (by omega)
        have hrec : (recP (x0, x1, x2, x3, x4)).data.toList = x0.data.toList ++ (fnExactPutText.pre x1.size ++ x1).data.toList ++ (nbk.numB x2).data.toList ++ (nbk.numB x3).data.toList ++ (nbk.numB x4).data.toList := by unfold recP; simp only [app_list]
        have hpt : (fnExactPutText.pre x1.size ++ x1).size ≤ 200 := by rw [ByteArray.size_append]; omega
        generalize fnExactPutText.pre x1.size ++ x1 = pt at *
        generalize nbk.numB x2 = n2 at *
        generalize nbk.numB x3 = n3 at *
        generalize nbk.numB x4 = n4 at *
        have HS := mkHid (hrs.trans (by rw [hrec]))
        obtain ⟨d0, d1, d2, d3, d4⟩ := hC.out _ T.out.below
        obtain ⟨ga, ca, wa, ha, Ta⟩ := T.out.add x0 (by omega) (by omega)
        rw [p1] at ha Ta
        have T1 := mkHid Ta
        clear T Ta hx hpx hrs hrec c0 c1 c2 c3 c4
        obtain ⟨e0, e1, e2, e3, e4⟩ := hC.out _ T1.out.below
        go_wp2_with fail
        refine (HT.out _).mono ?_
        rintro e wb ⟨rfl, hb⟩
        obtain ⟨gc, cc, wc, hc, Tc⟩ := (T1.out.next hb).add pt (by omega) (by omega)
        have T2 := mkHid Tc
        clear T1 hb Tc HT d0 d1 d2 d3 d4 e0 e1 e2 e3 e4 ha
        obtain ⟨d0, d1, d2, d3, d4⟩ := hC.out _ T2.out.below
        go_wp2_with fail
        refine (HN2.out _).mono ?_
        rintro e wd ⟨rfl, hb⟩
        obtain ⟨ge, ce, we, he, Te⟩ := (T2.out.next hb).add n2 (by omega) (by omega)
        have T3 := mkHid Te
        clear T2 hb Te HN2 d0 d1 d2 d3 d4 hc
        obtain ⟨d0, d1, d2, d3, d4⟩ := hC.out _ T3.out.below
        go_wp2_with fail
        refine (HN3.out _).mono ?_
        rintro e wf ⟨rfl, hb⟩
        obtain ⟨gh, ch, wh, hh, Th⟩ := (T3.out.next hb).add n3 (by omega) (by omega)
        have T4 := mkHid Th
        clear T3 hb Th HN3 d0 d1 d2 d3 d4 he
        obtain ⟨d0, d1, d2, d3, d4⟩ := hC.out _ T4.out.below
        go_wp2_with fail
        refine (HN4.out _).mono ?_
        rintro e wi ⟨rfl, hb⟩
        obtain ⟨gj, cj, wj, hj, Tj⟩ := (T4.out.next hb).add n4 (by omega) (by omega)
        have N1 : Hid (Bt w wj gj _ cj (hd.data.toList ++ recsP (l.take (k + 1)))) := mkHid (by
          have e : hd.data.toList ++ recsP (l.take (k + 1)) = ((((hd.data.toList ++ recsP (l.take k) ++ x0.data.toList) ++ pt.data.toList) ++ n2.data.toList) ++ n3.data.toList) ++ n4.data.toList := by rw [HS.out]; simp only [List.append_assoc]
          rw [e]
          exact Tj)
        clear T4 hb Tj HN4 d0 d1 d2 d3 d4 hh
        go_wp2
        go_roundw
        case rel => exact ⟨k + 1, _, _, _, by omega, by go_num, rfl, N1⟩
        case measure => simp [intOf]; omega
      · obtain rfl : k = l.length := by omega
        have hrow := T.out.row
        rw [List.take_of_length_le (Nat.le_refl _), ← HBL.out] at hrow
        have hconv2 := brow_text hrow
        have F := mkHid T.out.below
        clear T hrow hconv
        go_wp2
        go_ret
        exact ⟨rfl, F.out⟩
end Go.Proofs.Ytppjbmmeacmoiab.plc
