/-
  What spec.l11Bytes and spec.NodesBytes answer and leave. Conditions: nodes that lie in memory, of texts of at most 1,048,576 bytes.
-/
import Derived.Test.YtmmmadehifajlaaBtS
import Derived.Test.YtmmmadehifajlaaNdN
namespace Go.Proofs.Ytmmmadehifajlaa.nod
open Go.RowKit Go.Joins Go.Sort
open Go.Proofs.Ytmmmadehifajlaa.base Go.Proofs.Ytmmmadehifajlaa.blk Go.Proofs.Ytmmmadehifajlaa.aid
open Go.Proofs.Ytmmmadehifajlaa.row (Rd Own OwnV appSem app_fold)
open Go.Proofs.Ytmmmadehifajlaa.strs (tx)
open Go.Proofs.Ytmmmadehifajlaa.plc (Bt brow_new brow_text conv_fold convSem below_trans)
set_option linter.unusedVariables false
set_option linter.unusedSimpArgs false
attribute [local go_sem ↓] app_fold plc.conv_fold

set_option maxRecDepth 100000 in
set_option maxHeartbeats 8000000 in
theorem l11S_any (a : Option Addr) (c : Nat) (ds : List Nd) (w : World) (h20 : ds.length ≤ 20) (hall : ∀ d ∈ ds, nodeB (val d) = true) (hr : RdN w a ds) :
    Calls Try.prog 34 #[.slice a ds.length c] w fun e w' => e = .returned (.string ⟨(bytesL (ds.map val)).toArray⟩) ∧ Below w.heap.size w w' := by
  have HP := mkHid hall
  have HA := mkHid hr
  have h20i : (ds.length : Int) ≤ 20 := by omega
  have HN := mkHid (fun wx => num_spec (ds.length : Int) wx (by omega) (by omega))
  have hn3 := nbk.numB_len (k := (ds.length : Int)) (by omega)
  have HBL : Hid (bytesL (ds.map val) = (nbk.numB ds.length).data.toList ++ recsN (ds.map val)) := mkHid (by unfold bytesL; rw [List.length_map])
  generalize nbk.numB (ds.length : Int) = hd at *
  clear hr hall
  go_enter Try.func34, Try.ntmps34
  go_wp2_with fail
  refine (HN.out _).mono ?_
  rintro e w2 ⟨rfl, hb⟩
  have B2 := mkHid hb
  obtain ⟨cap0, w3, hconv, hrow, hb3⟩ := brow_new w2 hd (by omega)
  have T0 : Hid (Bt w w3 w2.heap.size hd.size cap0 (hd.data.toList ++ recsN ((ds.map val).take 0))) := mkHid ⟨⟨by simp [recsN, len_list], B2.out.size, hrow.nc, hrow.cm, by simpa [recsN] using hrow.row⟩, below_trans B2.out hb3⟩
  clear hb hrow hb3 B2 HN
  go_wp2_with fail
  go_loopw [3, 4, 5, 6] (fun v i dv kv wr => ∃ (k g n cap : Nat), k ≤ ds.length ∧ i = .int .i64 k ∧ v = .slice (some ⟨g, 0, none⟩) n cap ∧ Hid (Bt w wr g n cap (hd.data.toList ++ recsN ((ds.map val).take k))))
    (fun _ i _ _ _ => ds.length - (intOf i).toNat)
  case atStart => exact ⟨0, _, _, _, Nat.zero_le _, rfl, rfl, T0⟩
  case round =>
    obtain ⟨k, g, n, cap, hk, rfl, rfl, T⟩ := hrel
    clear T0
    by_cases hlt : k < ds.length
    · have hlti : (k : Int) < (ds.length : Int) := by omega
      obtain ⟨d, hx⟩ : ∃ y, ds[k]? = some y := ⟨_, List.getElem?_eq_getElem hlt⟩
      have hpx := HP.out _ (List.mem_of_getElem? hx)
      have hrk := HA.out.each _ (List.mem_of_getElem? hx)
      obtain ⟨x0, x1, x2, da, dc, dl⟩ := d
      obtain ⟨g1, o1, rfl, c0, c1, c2, c3, l1⟩ := el HA.out.top hx
      simp only at c0 c1 c2 c3 hrk
      have hrs := recsN_snoc (val_get hx)
      have hev : val (x0, x1, x2, da, dc, dl) = (x0, x1, x2, dl) := rfl
      rw [hev] at hpx hrs
      obtain ⟨p1, p2, p3, p4, p5⟩ := nodeB_small hpx
      simp only at p1 p2 p3 p4 p5
      have hn : n ≤ 3 + 3450 * k := by
        have h2 := T.out.row.len
        have h3 := recsN_len ((ds.map val).take k) (fun p hq => by
          obtain ⟨q, hq1, hq2⟩ := List.mem_map.1 (List.mem_of_mem_take hq)
          rw [← hq2]
          exact HP.out q hq1)
        have h4 : ((ds.map val).take k).length ≤ k := by simp; omega
        rw [List.length_append, len_list] at h2
        have h5 : 3450 * ((ds.map val).take k).length ≤ 3450 * k := Nat.mul_le_mul_left _ h4
        omega
      have hC : Hid (∀ W, Below w.heap.size w W → W.cell? ⟨g1, o1 + k * 4, none⟩ = some (.string x0) ∧ W.cell? ⟨g1, o1 + k * 4 + 1, none⟩ = some (.bool x1) ∧ W.cell? ⟨g1, o1 + k * 4 + 2, none⟩ = some (.int .i64 x2) ∧ W.cell? ⟨g1, o1 + k * 4 + 3, none⟩ = some (.slice da dl.length dc)) :=
        mkHid (fun W hb => ⟨(hb.cell (p := ⟨g1, o1 + k * 4, none⟩) l1).trans c0, (hb.cell (p := ⟨g1, o1 + k * 4 + 1, none⟩) l1).trans c1, (hb.cell (p := ⟨g1, o1 + k * 4 + 2, none⟩) l1).trans c2, (hb.cell (p := ⟨g1, o1 + k * 4 + 3, none⟩) l1).trans c3⟩)
      have hK : Hid (∀ W, Below w.heap.size w W → Rd W da (tx dl)) := mkHid (fun W hb => hrk.below hb)
      have h5 := dirN_small x1
      have hrec : recN (x0, x1, x2, dl) = (fnExactPutText.pre x0.size ++ x0).data.toList ++ (nbk.numB (dirN x1)).data.toList ++ (nbk.numB x2).data.toList ++ (nbk.numB dl.length).data.toList ++ catT dl := by unfold recN headN; simp only [app_list]
      obtain ⟨dd, hdd, hcase⟩ : ∃ dd, dirN x1 = dd ∧ ((x1 = false ∧ dd = 0) ∨ (x1 = true ∧ dd = 1)) := ⟨_, rfl, by cases x1 <;> simp [dirN]⟩
      rw [hdd] at hrec h5
      have HT := mkHid (fun wx => fnExactPutText.spec_any x0 wx (by omega))
      have HN1 := mkHid (fun wx => num_spec dd wx (by omega) (by omega))
      have HN2 := mkHid (fun wx => num_spec x2 wx (by omega) (by omega))
      have HN3 := mkHid (fun wx => num_spec (dl.length : Int) wx (by omega) (by omega))
      have q1 := fnExactPutText.pre_size x0.size
      have q2 := nbk.numB_len (k := dd) (by omega)
      have q3 := nbk.numB_len (k := x2) (by omega)
      have q4 := nbk.numB_len (k := (dl.length : Int)) (by omega)
      have hpt : (fnExactPutText.pre x0.size ++ x0).size ≤ 250 := by rw [ByteArray.size_append]; omega
      have hct := catT_len dl p5
      have hdl : (dl.length : Int) ≤ 100 := by omega
      have HS := mkHid (hrs.trans (by rw [hrec]))
      have H5 := mkHid p5
      generalize fnExactPutText.pre x0.size ++ x0 = pt at *
      generalize nbk.numB dd = n1 at *
      generalize nbk.numB x2 = n2 at *
      generalize nbk.numB (dl.length : Int) = n3 at *
      obtain ⟨d0, d1, d2, d3⟩ := hC.out _ T.out.below
      clear hx hpx hrs hrec c0 c1 c2 c3 hrk hev p5 hdd
      rcases hcase with ⟨rfl, rfl⟩ | ⟨rfl, rfl⟩ <;>
      (go_wp2_with fail
       refine (HT.out _).mono ?_
       rintro e wb ⟨rfl, hb⟩
       obtain ⟨gc, cc, wc, hc, Tc⟩ := (T.out.next hb).add pt (by omega) (by omega)
       have T2 := mkHid Tc
       clear T hb Tc HT d0 d1 d2 d3
       obtain ⟨d0, d1, d2, d3⟩ := hC.out _ T2.out.below
       go_wp2_with fail
       refine (HN1.out _).mono ?_
       rintro e wd ⟨rfl, hb⟩
       obtain ⟨ge, ce, we, he, Te⟩ := (T2.out.next hb).add n1 (by omega) (by omega)
       have T3 := mkHid Te
       clear T2 hb Te HN1 d0 d1 d2 d3 hc
       obtain ⟨d0, d1, d2, d3⟩ := hC.out _ T3.out.below
       go_wp2_with fail
       refine (HN2.out _).mono ?_
       rintro e wf ⟨rfl, hb⟩
       obtain ⟨gh, ch, wh, hh, Th⟩ := (T3.out.next hb).add n2 (by omega) (by omega)
       have T4 := mkHid Th
       clear T3 hb Th HN2 d0 d1 d2 d3 he
       obtain ⟨d0, d1, d2, d3⟩ := hC.out _ T4.out.below
       go_wp2_with fail
       refine (HN3.out _).mono ?_
       rintro e wi ⟨rfl, hb⟩
       obtain ⟨gj, cj, wj, hj, Tj⟩ := (T4.out.next hb).add n3 (by omega) (by omega)
       have T5 : Hid (Bt w wj gj (n + pt.size + n1.size + n2.size + n3.size) cj (((((hd.data.toList ++ recsN ((ds.map val).take k)) ++ pt.data.toList) ++ n1.data.toList) ++ n2.data.toList ++ n3.data.toList) ++ catT (dl.take 0))) := mkHid (by simpa [catT] using Tj)
       have hnn : n + pt.size + n1.size + n2.size + n3.size ≤ 3 + 3450 * k + 259 := by omega
       generalize n + pt.size + n1.size + n2.size + n3.size = nn at *
       clear T4 hb Tj HN3 d0 d1 d2 d3 hh
       go_wp2_with fail
       clear hj
       go_loopw [3, 6] (fun v kv wr => ∃ (k2 g n cap : Nat), k2 ≤ dl.length ∧ kv = .int .i64 k2 ∧ v = .slice (some ⟨g, 0, none⟩) n cap ∧ Hid (n = nn + 32 * k2) ∧ Hid (Bt w wr g n cap (((((hd.data.toList ++ recsN ((ds.map val).take k)) ++ pt.data.toList) ++ n1.data.toList) ++ n2.data.toList ++ n3.data.toList) ++ catT (dl.take k2))))
         (fun _ i _ => dl.length - (intOf i).toNat)
       case atStart => exact ⟨0, _, _, _, Nat.zero_le _, rfl, rfl, mkHid (by omega), T5⟩
       case round =>
         obtain ⟨k2, g2, n4, cap2, hk2, rfl, rfl, hn4, U⟩ := hrel
         clear T5
         obtain ⟨d0, d1, d2, d3⟩ := hC.out _ U.out.below
         by_cases hlt2 : k2 < dl.length
         · have hlti2 : (k2 : Int) < (dl.length : Int) := by omega
           obtain ⟨t, ht⟩ : ∃ y, dl[k2]? = some y := ⟨_, List.getElem?_eq_getElem hlt2⟩
           obtain ⟨g3, o3, rfl, ct, l3⟩ := tx_el (hK.out _ U.out.below) ht
           have h32 := H5.out t (List.mem_of_getElem? ht)
           have hcs := catT_snoc ht
           obtain ⟨gk, ck, wk, hkk, Tk⟩ := U.out.add t (by have := hn4.out; omega) (by omega)
           rw [h32] at hkk
           have N1 : Hid (Bt w wk gk (n4 + 32) ck (((((hd.data.toList ++ recsN ((ds.map val).take k)) ++ pt.data.toList) ++ n1.data.toList) ++ n2.data.toList ++ n3.data.toList) ++ catT (dl.take (k2 + 1)))) := mkHid (by
             rw [hcs, ← List.append_assoc, ← h32]
             exact Tk)
           clear U Tk hcs ht h32
           go_wp2
           exact ⟨⟨k2 + 1, gk, n4 + 32, ck, by omega, by go_num, by go_num, mkHid (by have := hn4.out; omega), N1⟩, by simp [intOf]; omega⟩
         · obtain rfl : k2 = dl.length := by omega
           have N1 : Hid (Bt w _ g2 n4 cap2 (hd.data.toList ++ recsN ((ds.map val).take (k + 1)))) := mkHid (by
             have h := U.out
             rw [List.take_of_length_le (Nat.le_refl _)] at h
             rw [HS.out]
             simp only [List.append_assoc] at h ⊢
             exact h)
           clear U HS
           go_wp2
           exact ⟨⟨k + 1, g2, n4, cap2, by omega, by go_num, rfl, N1⟩, by simp [intOf]; omega⟩)
    · obtain rfl : k = ds.length := by omega
      have hrow := T.out.row
      rw [List.take_of_length_le (by simp), ← HBL.out] at hrow
      have hconv2 := brow_text hrow
      have F := mkHid T.out.below
      clear T hrow hconv
      go_wp2
      go_ret
      exact ⟨rfl, F.out⟩
set_option maxRecDepth 100000 in
set_option maxHeartbeats 1000000 in
theorem bytesS_any (a : Option Addr) (c : Nat) (ds : List Nd) (w : World) (hl : ds.length ≤ 1048576) (hs : SmallN ds) (hr : RdN w a ds) :
    Calls Try.prog 10 #[.slice a ds.length c] w fun e w' => e = .returned (.string (bytesN (ds.map val))) ∧ Below w.heap.size w w' := by
  by_cases h1 : 400 < ds.length
  · have E : Hid (bytesN (ds.map val) = ⟨#[]⟩) := mkHid (bytesN_no (by unfold nodesB; simp; omega))
    have h1i : (400 : Int) < (ds.length : Int) := by omega
    rw [E.out]
    clear hr
    go_enter Try.func10, Try.ntmps10
    go_wp2
    go_ret
    exact ⟨rfl, Below.refl _ _⟩
  have h1i : (ds.length : Int) ≤ 400 := by omega
  have HR := mkHid (rightS_any a c ds w hl hs hr)
  cases hp : nodesB (ds.map val) with
  | false =>
    rw [hp] at HR
    have E : Hid (bytesN (ds.map val) = ⟨#[]⟩) := mkHid (bytesN_no hp)
    rw [E.out]
    clear hr
    go_enter Try.func10, Try.ntmps10
    go_wp2_with fail
    refine HR.out.mono ?_
    rintro e w1 ⟨rfl, hb⟩
    have B1 := mkHid hb
    clear hb
    go_wp2
    go_ret
    exact ⟨rfl, B1.out⟩
  | true =>
    rw [hp] at HR
    obtain ⟨h20, hpl⟩ := nodesB_parts hp
    have E : Hid (bytesN (ds.map val) = ⟨(bytesL (ds.map val)).toArray⟩) := mkHid (by unfold bytesN; rw [if_pos hp])
    have HL := mkHid (fun wx (hx : RdN wx a ds) => l11S_any a c ds wx (by simpa using h20) (fun d hd => hpl _ (List.mem_map_of_mem hd)) hx)
    have HA := mkHid hr
    clear hr hp hpl
    rw [E.out]
    go_enter Try.func10, Try.ntmps10
    go_wp2_with fail
    refine HR.out.mono ?_
    rintro e w1 ⟨rfl, hb⟩
    have B1 := mkHid (And.intro hb (HA.out.below hb))
    clear hb HR HA
    go_wp2_with fail
    refine (HL.out _ B1.out.2).mono ?_
    rintro e w2 ⟨rfl, hb⟩
    have B2 := mkHid (below_trans B1.out.1 hb)
    clear hb HL B1
    go_wp2
    go_ret
    exact ⟨rfl, B2.out⟩
end Go.Proofs.Ytmmmadehifajlaa.nod
