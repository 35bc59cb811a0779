/-
  What spec.l11Bytes and spec.NodesBytes answer and leave. Conditions: nodes that lie in memory, of texts of at most 1,048,576 bytes.
  Functions of the library: that the program holds the library's texts, under its own numbers (the tables are laid by a command). No condition.
  What strings.Join answers of keys, with nothing between them. Conditions: at most 1,048,576 texts, of which each has 32 bytes, in a row with room for them.
  What impl.NodesBytes answers and leaves. Conditions: nodes that lie in memory, of texts of at most 1,048,576 bytes, in rows with room for them.
-/
import Derived.Test.YtmmmadehifajlaaBtS
import Derived.Test.YtmmmadehifajlaaZNdRA
import Derived.Test.YtmmmadehifajlaaBase
import Derived.Test.YtmmmadehifajlaaRows
import Derived.Test.YtmmmadehifajlaaNdP
import Derived.Test.YtmmmadehifajlaaBtI
import Derived.Test.YtmmmadehifajlaaZNodA
import Derived.Shelf.Strings.OnBuilder
namespace Go.Proofs.Ytmmmadehifajlaa.nod
open Go.RowKit Go.Joins Go.Sort
open Go.Proofs.Ytmmmadehifajlaa.base Go.Proofs.Ytmmmadehifajlaa.blk Go.Proofs.Ytmmmadehifajlaa.aid
open Go.Proofs.Ytmmmadehifajlaa.row (Rd Own OwnV appSem app_fold)
open Go.Proofs.Ytmmmadehifajlaa.strs (tx)
open Go.Proofs.Ytmmmadehifajlaa.plc (Bt brow_new brow_text conv_fold convSem below_trans)
set_option linter.unusedVariables false
set_option linter.unusedSimpArgs false
attribute [local go_sem ↓] app_fold plc.conv_fold

set_option maxRecDepth 100000 in
set_option maxHeartbeats 8000000 in
theorem l11S_any (a : Option Addr) (c : Nat) (ds : List Nd) (w : World) (h20 : ds.length ≤ 20) (hall : ∀ d ∈ ds, nodeB (val d) = true) (hr : RdN w a ds) :
    Calls Try.prog 34 #[.slice a ds.length c] w fun e w' => e = .returned (.string ⟨(bytesL (ds.map val)).toArray⟩) ∧ Below w.heap.size w w' := by
  have HP := mkHid hall
  have HA := mkHid hr
  have h20i : (ds.length : Int) ≤ 20 := by omega
  have HN := mkHid (fun wx => num_spec (ds.length : Int) wx (by omega) (by omega))
  have hn3 := nbk.numB_len (k := (ds.length : Int)) (by omega)
  have HBL : Hid (bytesL (ds.map val) = (nbk.numB ds.length).data.toList ++ recsN (ds.map val)) := mkHid (by unfold bytesL; rw [List.length_map])
  generalize nbk.numB (ds.length : Int) = hd at *
  clear hr hall
  go_enter Try.func34, Try.ntmps34
  go_wp2_with fail
  refine (HN.out _).mono ?_
  rintro e w2 ⟨rfl, hb⟩
  have B2 := mkHid hb
  obtain ⟨cap0, w3, hconv, hrow, hb3⟩ := brow_new w2 hd (by omega)
  have T0 : Hid (Bt w w3 w2.heap.size hd.size cap0 (hd.data.toList ++ recsN ((ds.map val).take 0))) := mkHid ⟨⟨by simp [recsN, len_list], B2.out.size, hrow.nc, hrow.cm, by simpa [recsN] using hrow.row⟩, below_trans B2.out hb3⟩
  clear hb hrow hb3 B2 HN
  go_wp2_with fail
  go_loopw [3, 4, 5, 6] (fun v i dv kv wr => ∃ (k g n cap : Nat), k ≤ ds.length ∧ i = .int .i64 k ∧ v = .slice (some ⟨g, 0, none⟩) n cap ∧ Hid (Bt w wr g n cap (hd.data.toList ++ recsN ((ds.map val).take k))))
    (fun _ i _ _ _ => ds.length - (intOf i).toNat)
  case atStart => exact ⟨0, _, _, _, Nat.zero_le _, rfl, rfl, T0⟩
  case round =>
    obtain ⟨k, g, n, cap, hk, rfl, rfl, T⟩ := hrel
    clear T0
    by_cases hlt : k < ds.length
    · have hlti : (k : Int) < (ds.length : Int) := by omega
      obtain ⟨d, hx⟩ : ∃ y, ds[k]? = some y := ⟨_, List.getElem?_eq_getElem hlt⟩
      have hpx := HP.out _ (List.mem_of_getElem? hx)
      have hrk := HA.out.each _ (List.mem_of_getElem? hx)
      obtain ⟨x0, x1, x2, da, dc, dl⟩ := d
      obtain ⟨g1, o1, rfl, c0, c1, c2, c3, l1⟩ := el HA.out.top hx
      simp only at c0 c1 c2 c3 hrk
      have hrs := recsN_snoc (val_get hx)
      have hev : val (x0, x1, x2, da, dc, dl) = (x0, x1, x2, dl) := rfl
      rw [hev] at hpx hrs
      obtain ⟨p1, p2, p3, p4, p5⟩ := nodeB_small hpx
      simp only at p1 p2 p3 p4 p5
      have hn : n ≤ 3 + 3450 * k := by
        have h2 := T.out.row.len
        have h3 := recsN_len ((ds.map val).take k) (fun p hq => by
          obtain ⟨q, hq1, hq2⟩ := List.mem_map.1 (List.mem_of_mem_take hq)
          rw [← hq2]
          exact HP.out q hq1)
        have h4 : ((ds.map val).take k).length ≤ k := by simp; omega
        rw [List.length_append, len_list] at h2
        have h5 : 3450 * ((ds.map val).take k).length ≤ 3450 * k := Nat.mul_le_mul_left _ h4
        omega
      have hC : Hid (∀ W, Below w.heap.size w W → W.cell? ⟨g1, o1 + k * 4, none⟩ = some (.string x0) ∧ W.cell? ⟨g1, o1 + k * 4 + 1, none⟩ = some (.bool x1) ∧ W.cell? ⟨g1, o1 + k * 4 + 2, none⟩ = some (.int .i64 x2) ∧ W.cell? ⟨g1, o1 + k * 4 + 3, none⟩ = some (.slice da dl.length dc)) :=
        mkHid (fun W hb => ⟨(hb.cell (p := ⟨g1, o1 + k * 4, none⟩) l1).trans c0, (hb.cell (p := ⟨g1, o1 + k * 4 + 1, none⟩) l1).trans c1, (hb.cell (p := ⟨g1, o1 + k * 4 + 2, none⟩) l1).trans c2, (hb.cell (p := ⟨g1, o1 + k * 4 + 3, none⟩) l1).trans c3⟩)
      have hK : Hid (∀ W, Below w.heap.size w W → Rd W da (tx dl)) := mkHid (fun W hb => hrk.below hb)
      have h5 := dirN_small x1
      have hrec : recN (x0, x1, x2, dl) = (fnExactPutText.pre x0.size ++ x0).data.toList ++ (nbk.numB (dirN x1)).data.toList ++ (nbk.numB x2).data.toList ++ (nbk.numB dl.length).data.toList ++ catT dl := by unfold recN headN; simp only [app_list]
      obtain ⟨dd, hdd, hcase⟩ : ∃ dd, dirN x1 = dd ∧ ((x1 = false ∧ dd = 0) ∨ (x1 = true ∧ dd = 1)) := ⟨_, rfl, by cases x1 <;> simp [dirN]⟩
      rw [hdd] at hrec h5
      have HT := mkHid (fun wx => fnExactPutText.spec_any x0 wx (by omega))
      have HN1 := mkHid (fun wx => num_spec dd wx (by omega) (by omega))
      have HN2 := mkHid (fun wx => num_spec x2 wx (by omega) (by omega))
      have HN3 := mkHid (fun wx => num_spec (dl.length : Int) wx (by omega) (by omega))
      have q1 := fnExactPutText.pre_size x0.size
      have q2 := nbk.numB_len (k := dd) (by omega)
      have q3 := nbk.numB_len (k := x2) (by omega)
      have q4 := nbk.numB_len (k := (dl.length : Int)) (by omega)
      have hpt : (fnExactPutText.pre x0.size ++ x0).size ≤ 250 := by rw [ByteArray.size_append]; omega
      have hct := catT_len dl p5
      have hdl : (dl.length : Int) ≤ 100 := by omega
      have HS := mkHid (hrs.trans (by rw [hrec]))
      have H5 := mkHid p5
      generalize fnExactPutText.pre x0.size ++ x0 = pt at *
      generalize nbk.numB dd = n1 at *
      generalize nbk.numB x2 = n2 at *
      generalize nbk.numB (dl.length : Int) = n3 at *
      obtain ⟨d0, d1, d2, d3⟩ := hC.out _ T.out.below
      clear hx hpx hrs hrec c0 c1 c2 c3 hrk hev p5 hdd
      rcases hcase with ⟨rfl, rfl⟩ | ⟨rfl, rfl⟩ <;>
      (go_wp2_with fail
       refine (HT.out _).mono ?_
       rintro e wb ⟨rfl, hb⟩
       obtain ⟨gc, cc, wc, hc, Tc⟩ := (T.out.next hb).add pt (by omega) (by omega)
       have T2 := mkHid Tc
       clear T hb Tc HT d0 d1 d2 d3
       obtain ⟨d0, d1, d2, d3⟩ := hC.out _ T2.out.below
       go_wp2_with fail
       refine (HN1.out _).mono ?_
       rintro e wd ⟨rfl, hb⟩
       obtain ⟨ge, ce, we, he, Te⟩ := (T2.out.next hb).add n1 (by omega) (by omega)
       have T3 := mkHid Te
       clear T2 hb Te HN1 d0 d1 d2 d3 hc
       obtain ⟨d0, d1, d2, d3⟩ := hC.out _ T3.out.below
       go_wp2_with fail
       refine (HN2.out _).mono ?_
       rintro e wf ⟨rfl, hb⟩
       obtain ⟨gh, ch, wh, hh, Th⟩ := (T3.out.next hb).add n2 (by omega) (by omega)
       have T4 := mkHid Th
       clear T3 hb Th HN2 d0 d1 d2 d3 he
       obtain ⟨d0, d1, d2, d3⟩ := hC.out _ T4.out.below
       go_wp2_with fail
       refine (HN3.out _).mono ?_
       rintro e wi ⟨rfl, hb⟩
       obtain ⟨gj, cj, wj, hj, Tj⟩ := (T4.out.next hb).add n3 (by omega) (by omega)
       have T5 : Hid (Bt w wj gj (n + pt.size + n1.size + n2.size + n3.size) cj (((((hd.data.toList ++ recsN ((ds.map val).take k)) ++ pt.data.toList) ++ n1.data.toList) ++ n2.data.toList ++ n3.data.toList) ++ catT (dl.take 0))) := mkHid (by simpa [catT] using Tj)
       have hnn : n + pt.size + n1.size + n2.size + n3.size ≤ 3 + 3450 * k + 259 := by omega
       generalize n + pt.size + n1.size + n2.size + n3.size = nn at *
       clear T4 hb Tj HN3 d0 d1 d2 d3 hh
       go_wp2_with fail
       clear hj
       go_loopw [3, 6] (fun v kv wr => ∃ (k2 g n cap : Nat), k2 ≤ dl.length ∧ kv = .int .i64 k2 ∧ v = .slice (some ⟨g, 0, none⟩) n cap ∧ Hid (n = nn + 32 * k2) ∧ Hid (Bt w wr g n cap (((((hd.data.toList ++ recsN ((ds.map val).take k)) ++ pt.data.toList) ++ n1.data.toList) ++ n2.data.toList ++ n3.data.toList) ++ catT (dl.take k2))))
         (fun _ i _ => dl.length - (intOf i).toNat)
       case atStart => exact ⟨0, _, _, _, Nat.zero_le _, rfl, rfl, mkHid (by omega), T5⟩
       case round =>
         obtain ⟨k2, g2, n4, cap2, hk2, rfl, rfl, hn4, U⟩ := hrel
         clear T5
         obtain ⟨d0, d1, d2, d3⟩ := hC.out _ U.out.below
         by_cases hlt2 : k2 < dl.length
         · have hlti2 : (k2 : Int) < (dl.length : Int) := by omega
           obtain ⟨t, ht⟩ : ∃ y, dl[k2]? = some y := ⟨_, List.getElem?_eq_getElem hlt2⟩
           obtain ⟨g3, o3, rfl, ct, l3⟩ := tx_el (hK.out _ U.out.below) ht
           have h32 := H5.out t (List.mem_of_getElem? ht)
           have hcs := catT_snoc ht
           obtain ⟨gk, ck, wk, hkk, Tk⟩ := U.out.add t (by have := hn4.out; omega) (by omega)
           rw [h32] at hkk
           have N1 : Hid (Bt w wk gk (n4 + 32) ck (((((hd.data.toList ++ recsN ((ds.map val).take k)) ++ pt.data.toList) ++ n1.data.toList) ++ n2.data.toList ++ n3.data.toList) ++ catT (dl.take (k2 + 1)))) := mkHid (by
             rw [hcs, ← List.append_assoc, ← h32]
             exact Tk)
           clear U Tk hcs ht h32
           go_wp2
           exact ⟨⟨k2 + 1, gk, n4 + 32, ck, by omega, by go_num, by go_num, mkHid (by have := hn4.out; omega), N1⟩, by simp [intOf]; omega⟩
         · obtain rfl : k2 = dl.length := by omega
           have N1 : Hid (Bt w _ g2 n4 cap2 (hd.data.toList ++ recsN ((ds.map val).take (k + 1)))) := mkHid (by
             have h := U.out
             rw [List.take_of_length_le (Nat.le_refl _)] at h
             rw [HS.out]
             simp only [List.append_assoc] at h ⊢
             exact h)
           clear U HS
           go_wp2
           exact ⟨⟨k + 1, g2, n4, cap2, by omega, by go_num, rfl, N1⟩, by simp [intOf]; omega⟩)
    · obtain rfl : k = ds.length := by omega
      have hrow := T.out.row
      rw [List.take_of_length_le (by simp), ← HBL.out] at hrow
      have hconv2 := brow_text hrow
      have F := mkHid T.out.below
      clear T hrow hconv
      go_wp2
      go_ret
      exact ⟨rfl, F.out⟩
set_option maxRecDepth 100000 in
set_option maxHeartbeats 1000000 in
theorem bytesS_any (a : Option Addr) (c : Nat) (ds : List Nd) (w : World) (hl : ds.length ≤ 1048576) (hs : SmallN ds) (hr : RdN w a ds) :
    Calls Try.prog 10 #[.slice a ds.length c] w fun e w' => e = .returned (.string (bytesN (ds.map val))) ∧ Below w.heap.size w w' := by
  by_cases h1 : 400 < ds.length
  · have E : Hid (bytesN (ds.map val) = ⟨#[]⟩) := mkHid (bytesN_no (by unfold nodesB; simp; omega))
    have h1i : (400 : Int) < (ds.length : Int) := by omega
    rw [E.out]
    clear hr
    go_enter Try.func10, Try.ntmps10
    go_wp2
    go_ret
    exact ⟨rfl, Below.refl _ _⟩
  have h1i : (ds.length : Int) ≤ 400 := by omega
  have HR := mkHid (rightS_any a c ds w hl hs hr)
  cases hp : nodesB (ds.map val) with
  | false =>
    rw [hp] at HR
    have E : Hid (bytesN (ds.map val) = ⟨#[]⟩) := mkHid (bytesN_no hp)
    rw [E.out]
    clear hr
    go_enter Try.func10, Try.ntmps10
    go_wp2_with fail
    refine HR.out.mono ?_
    rintro e w1 ⟨rfl, hb⟩
    have B1 := mkHid hb
    clear hb
    go_wp2
    go_ret
    exact ⟨rfl, B1.out⟩
  | true =>
    rw [hp] at HR
    obtain ⟨h20, hpl⟩ := nodesB_parts hp
    have E : Hid (bytesN (ds.map val) = ⟨(bytesL (ds.map val)).toArray⟩) := mkHid (by unfold bytesN; rw [if_pos hp])
    have HL := mkHid (fun wx (hx : RdN wx a ds) => l11S_any a c ds wx (by simpa using h20) (fun d hd => hpl _ (List.mem_map_of_mem hd)) hx)
    have HA := mkHid hr
    clear hr hp hpl
    rw [E.out]
    go_enter Try.func10, Try.ntmps10
    go_wp2_with fail
    refine HR.out.mono ?_
    rintro e w1 ⟨rfl, hb⟩
    have B1 := mkHid (And.intro hb (HA.out.below hb))
    clear hb HR HA
    go_wp2_with fail
    refine (HL.out _ B1.out.2).mono ?_
    rintro e w2 ⟨rfl, hb⟩
    have B2 := mkHid (below_trans B1.out.1 hb)
    clear hb HL B1
    go_wp2
    go_ret
    exact ⟨rfl, B2.out⟩
end Go.Proofs.Ytmmmadehifajlaa.nod
namespace Go.Proofs
open Go.Shelf
def Try.lays156_ren : Go.Shelf.Ren := ⟨fun | 156 => 32 | 165 => 63 | 166 => 29 | 169 => 33 | 240 => 61 | 241 => 88 | 276 => 87 | 277 => 99 | n => n, fun | 31 => 57 | 9 => 9 | 3 => 3 | 4 => 4 | 0 => 0 | 20 => 20 | 72 => 51 | 76 => 54 | 70 => 49 | 37 => 22 | 75 => 53 | 127 => 97 | 164 => 123 | 5 => 5 | 80 => 62 | n => n, fun | n => n⟩
theorem Try.lays156 : Go.Proofs.Lays.n156 Try.prog Try.lays156_ren := {
  mixed := by kernel_rfl
  f156 := Try.func32.trans (congrArg some (by kernel_rfl))
  f165 := Try.func63.trans (congrArg some (by kernel_rfl))
  f166 := Try.func29.trans (congrArg some (by kernel_rfl))
  f169 := Try.func33.trans (congrArg some (by kernel_rfl))
  f240 := Try.func61.trans (congrArg some (by kernel_rfl))
  f241 := Try.func88.trans (congrArg some (by kernel_rfl))
  f276 := Try.func87.trans (congrArg some (by kernel_rfl))
  f277 := Try.func99.trans (congrArg some (by kernel_rfl))
  t0 := Try.underlying0
  a0 := Try.isAgg0
  z0 := Try.sizeOf0
  v0 := Try.zeroValue0
  t3 := Try.underlying3
  a3 := Try.isAgg3
  z3 := Try.sizeOf3
  v3 := Try.zeroValue3
  t4 := Try.underlying4
  a4 := Try.isAgg4
  z4 := Try.sizeOf4
  v4 := Try.zeroValue4
  t9 := Try.underlying9
  a9 := Try.isAgg9
  z9 := Try.sizeOf9
  v9 := Try.zeroValue9
  t20 := Try.underlying20
  a20 := Try.isAgg20
  z20 := Try.sizeOf20
  v20 := Try.zeroValue20
  t31 := Try.underlying57
  a31 := Try.isAgg57
  z31 := Try.sizeOf57
  v31 := Try.zeroValue57
  t37 := Try.underlying22
  a37 := Try.isAgg22
  z37 := Try.sizeOf22
  v37 := Try.zeroValue22
  t70 := Try.underlying49
  a70 := Try.isAgg49
  z70 := Try.sizeOf49
  v70 := Try.zeroValue49
  t72 := Try.underlying51
  a72 := Try.isAgg51
  z72 := Try.sizeOf51
  v72 := Try.zeroValue51
  t75 := Try.underlying53
  a75 := Try.isAgg53
  z75 := Try.sizeOf53
  v75 := Try.zeroValue53
  t76 := Try.underlying54
  a76 := Try.isAgg54
  z76 := Try.sizeOf54
  v76 := Try.zeroValue54
  t127 := Try.underlying97
  a127 := Try.isAgg97
  z127 := Try.sizeOf97
  v127 := Try.zeroValue97
  t164 := Try.underlying123
  a164 := Try.isAgg123
  z164 := Try.sizeOf123
  v164 := Try.zeroValue123 }
end Go.Proofs
namespace Go.Proofs.Ytmmmadehifajlaa.nod
open Go.RowKit Go.Joins Go.Shelf
open Go.Proofs.Ytmmmadehifajlaa.base Go.Proofs.Ytmmmadehifajlaa.blk Go.Proofs.Ytmmmadehifajlaa.aid
open Go.Proofs.Ytmmmadehifajlaa.row (Rd)
open Go.Proofs.Ytmmmadehifajlaa.strs (tx)
set_option linter.unusedVariables false

theorem extraJ : Builder.Extra Try.prog Try.lays156_ren where
  sizeBuilder := by kernel_rfl
  liesBuilder := by kernel_rfl
  t5 := Try.underlying5
  a5 := Try.isAgg5
  z5 := Try.sizeOf5
  v5 := Try.zeroValue5
  infoByte := by kernel_rfl
  cellsByte := by kernel_rfl
  sizeByte := by kernel_rfl
  neB5 := by decide
theorem join_flat : ∀ l : List (List UInt8), Lib.join l [] = l.flatten
  | [] => rfl
  | x :: r => by
    rw [Lib.join_cons]
    simp [Lib.joinTail]
theorem join_cat (l : Tx) : Lib.join (l.map (·.data.toList)) [] = catT l := by
  rw [join_flat]
  unfold catT
  rw [List.flatMap_def]
theorem join_any (a : Option Addr) (c : Nat) (l : Tx) (w : World) (hl : l.length ≤ 1048576) (hc : l.length ≤ c) (hs : ∀ t ∈ l, t.size = 32) (hr : Rd w a (tx l)) :
    Calls Try.prog 32 #[.slice a l.length c, .string ⟨#[]⟩] w fun e w' => e = .returned (.string ⟨(catT l).toArray⟩) ∧ Below w.heap.size w w' := by
  cases l with
  | nil =>
    refine (Any.strings_Join_none Try.lays156 extraJ a c ⟨#[]⟩ w).mono ?_
    rintro e w' ⟨rfl, rfl⟩
    exact ⟨rfl, Below.refl _ _⟩
  | cons t r =>
    obtain ⟨g, off, rfl, h0, hg⟩ := tx_el hr (i := 0) (t := t) rfl
    have hcat := catT_len (t :: r) hs
    have hlen : (Lib.join ((t :: r).map (·.data.toList)) (⟨#[]⟩ : ByteArray).data.toList).length ≤ 140737488355328 := by
      have e : (⟨#[]⟩ : ByteArray).data.toList = [] := rfl
      rw [e, join_cat, hcat]
      omega
    have h := Any.strings_Join Try.lays156 extraJ g off c (t :: r) ⟨#[]⟩ w (fun j x hj => by
      obtain ⟨g2, off2, e2, hc2, _⟩ := tx_el hr hj
      simp at e2
      obtain ⟨rfl, rfl⟩ := e2
      exact hc2) hg (by omega) hc hlen
    have e : (⟨#[]⟩ : ByteArray).data.toList = [] := rfl
    rw [e, join_cat] at h
    exact h
end Go.Proofs.Ytmmmadehifajlaa.nod
namespace Go.Proofs.Ytmmmadehifajlaa.nod
open Go.RowKit Go.Joins
open Go.Proofs.Ytmmmadehifajlaa.base Go.Proofs.Ytmmmadehifajlaa.blk Go.Proofs.Ytmmmadehifajlaa.aid
open Go.Proofs.Ytmmmadehifajlaa.row (Rd Own OwnV)
open Go.Proofs.Ytmmmadehifajlaa.strs (tx)
open Go.Proofs.Ytmmmadehifajlaa.plc (Bi below_trans)
set_option linter.unusedVariables false
set_option linter.unusedSimpArgs false

set_option maxRecDepth 100000 in
set_option maxHeartbeats 8000000 in
theorem bytesI_any (a : Option Addr) (c : Nat) (ds : List Nd) (w : World) (hl : ds.length ≤ 1048576) (hs : SmallN ds) (hcap : CapN ds) (hr : RdN w a ds) :
    Calls Try.prog 9 #[.slice a ds.length c] w fun e w' => e = .returned (.string (bytesN (ds.map val))) ∧ Below w.heap.size w w' := by
  have HR := mkHid (rightI_any a c ds w hl hs hr)
  cases hp : nodesB (ds.map val) with
  | false =>
    rw [hp] at HR
    have E : Hid (bytesN (ds.map val) = ⟨#[]⟩) := mkHid (bytesN_no hp)
    rw [E.out]
    clear hr
    go_enter Try.func9, Try.ntmps9
    go_wp2_with fail
    refine HR.out.mono ?_
    rintro e w1 ⟨rfl, hb⟩
    have B1 := mkHid hb
    clear hb
    go_wp2
    go_ret
    exact ⟨rfl, B1.out⟩
  | true =>
    rw [hp] at HR
    obtain ⟨h20, hpl⟩ := nodesB_parts hp
    have h20' : ds.length ≤ 20 := by simpa using h20
    have HP := mkHid (fun d (hd : d ∈ ds) => hpl _ (List.mem_map_of_mem hd))
    have hli : (ds.length : Int) ≤ 20 := by omega
    have E : Hid (bytesN (ds.map val) = ⟨(bytesL (ds.map val)).toArray⟩) := mkHid (by unfold bytesN; rw [if_pos hp])
    rw [E.out]
    have HA := mkHid hr
    have HCap := mkHid hcap
    have HN := mkHid (fun wx => num_impl (ds.length : Int) wx (by omega) (by omega))
    have hn3 := nbk.numB_len (k := (ds.length : Int)) (by omega)
    have hn0 : Hid (bytesL (ds.map val) ≠ []) := mkHid (by
      unfold bytesL nbk.numB
      have := nbk.num_pos (2 * (((ds.map val).length : Nat) : Int).toNat)
      intro e
      have e2 := congrArg List.length e
      rw [List.length_append] at e2
      have e3 : ({ data := (num (2 * (((ds.map val).length : Nat) : Int).toNat)).toArray } : ByteArray).data.toList = num (2 * (((ds.map val).length : Nat) : Int).toNat) := by simp
      rw [e3] at e2
      simp only [List.length_nil] at e2
      omega)
    have HBL : Hid (bytesL (ds.map val) = (nbk.numB ds.length).data.toList ++ recsN (ds.map val)) := mkHid (by unfold bytesL; rw [List.length_map])
    generalize nbk.numB (ds.length : Int) = hd at *
    clear hr hp hpl h20 hcap
    go_enter Try.func9, Try.ntmps9
    go_wp2_with fail
    refine HR.out.mono ?_
    rintro e w1 ⟨rfl, hb⟩
    have T0 : Hid (Bi w w1.heap.size [] (w1.alloc (.cells #[.pointer none, .slice none 0 0] 51))) := mkHid ⟨hb.alloc hb.size _, hb.size, by simp, Lib.fresh_isBuilder 51 5 w1⟩
    clear hb HR
    generalize hB : w1.heap.size = B at *
    go_wp2_with fail
    refine (HN.out _).mono ?_
    rintro e w2 ⟨rfl, hb⟩
    have T1 := mkHid (T0.out.next hb)
    clear hb T0 HN
    have HW := mkHid (bld.write_any B B [] hd w2 T1.out.bld (by simp) (by omega) (Nat.le_of_lt T1.out.sz))
    go_wp2_with fail
    refine HW.out.mono ?_
    rintro e w3 ⟨rfl, hi, hb, _⟩
    have T2 : Hid (Bi w B (hd.data.toList ++ recsN ((ds.map val).take 0)) w3) := mkHid (T1.out.put (by simpa [recsN] using hi) hb)
    clear hi hb HW T1 hB
    go_wp2_with fail
    go_loopw [6, 16] (fun dv i wr => ∃ k : Nat, k ≤ ds.length ∧ i = .int .i64 k ∧ Hid (Bi w B (hd.data.toList ++ recsN ((ds.map val).take k)) wr))
      (fun _ i _ => ds.length - (intOf i).toNat)
    case atStart => exact ⟨0, Nat.zero_le _, rfl, T2⟩
    case round =>
      obtain ⟨k, hk, rfl, T⟩ := hrel
      clear T2
      by_cases hlt : k < ds.length
      · have hlti : (k : Int) < (ds.length : Int) := by omega
        obtain ⟨d, hx⟩ : ∃ y, ds[k]? = some y := ⟨_, List.getElem?_eq_getElem hlt⟩
        have hdm := List.mem_of_getElem? hx
        have hpx := HP.out _ hdm
        have hrk := HA.out.each _ hdm
        have hck := HCap.out _ hdm
        obtain ⟨x0, x1, x2, da, dc, dl⟩ := d
        obtain ⟨g1, o1, rfl, c0, c1, c2, c3, l1⟩ := el (HA.out.below T.out.below).top hx
        simp only at c0 c1 c2 c3 hrk hck
        have hrs := recsN_snoc (val_get hx)
        have hev : val (x0, x1, x2, da, dc, dl) = (x0, x1, x2, dl) := rfl
        rw [hev] at hpx hrs
        obtain ⟨p1, p2, p3, p4, p5⟩ := nodeB_small hpx
        simp only at p1 p2 p3 p4 p5
        have hn : (hd.data.toList ++ recsN ((ds.map val).take k)).length ≤ 3 + 3450 * k := by
          have h3 := recsN_len ((ds.map val).take k) (fun p hq => by
            obtain ⟨q, hq1, hq2⟩ := List.mem_map.1 (List.mem_of_mem_take hq)
            rw [← hq2]
            exact HP.out q hq1)
          have h4 : ((ds.map val).take k).length ≤ k := by simp; omega
          rw [List.length_append, len_list]
          have h5 : 3450 * ((ds.map val).take k).length ≤ 3450 * k := Nat.mul_le_mul_left _ h4
          omega
        have h5 := dirN_small x1
        have hhead := headN_size hpx
        have hct := catT_len dl p5
        obtain ⟨dd, hdd, hcase⟩ : ∃ dd, dirN x1 = dd ∧ ((x1 = false ∧ dd = 0) ∨ (x1 = true ∧ dd = 1)) := ⟨_, rfl, by cases x1 <;> simp [dirN]⟩
        have ER : headN (x0, x1, x2, dl) = (fnExactPutText.pre x0.size ++ x0) ++ nbk.numB dd ++ nbk.numB x2 ++ nbk.numB dl.length := by unfold headN; rw [hdd]
        rw [hdd] at h5
        have HT := mkHid (fun wx => fnExactPutText.impl_any x0 wx (by omega))
        have HN1 := mkHid (fun wx => num_impl dd wx (by omega) (by omega))
        have HN2 := mkHid (fun wx => num_impl x2 wx (by omega) (by omega))
        have HN3 := mkHid (fun wx => num_impl (dl.length : Int) wx (by omega) (by omega))
        have HJ := mkHid (fun wx (h : Rd wx da (tx dl)) => join_any da dc dl wx (by omega) hck p5 h)
        have HK := mkHid (fun W (hb : Below w.heap.size w W) => hrk.below hb)
        have q1 := fnExactPutText.pre_size x0.size
        have q2 := nbk.numB_len (k := dd) (by omega)
        have q3 := nbk.numB_len (k := x2) (by omega)
        have q4 := nbk.numB_len (k := (dl.length : Int)) (by omega)
        have hWr := mkHid (fun wx (hb : Bi w B (hd.data.toList ++ recsN ((ds.map val).take k)) wx) => bld.write_any B B (hd.data.toList ++ recsN ((ds.map val).take k)) (headN (x0, x1, x2, dl)) wx hb.bld (by omega) (by omega) (Nat.le_of_lt hb.sz))
        have hPut := mkHid (fun wx wy (hb : Bi w B (hd.data.toList ++ recsN ((ds.map val).take k)) wx) (h1 : Lib.IsBuilder 51 5 B B ((hd.data.toList ++ recsN ((ds.map val).take k) ++ (headN (x0, x1, x2, dl)).data.toList).map byteV) wy) (h2 : Below B wx wy) => hb.put h1 h2)
        have hWr2 := mkHid (fun wx (hb : Bi w B (hd.data.toList ++ recsN ((ds.map val).take k) ++ (headN (x0, x1, x2, dl)).data.toList) wx) => bld.write_any B B (hd.data.toList ++ recsN ((ds.map val).take k) ++ (headN (x0, x1, x2, dl)).data.toList) ⟨(catT dl).toArray⟩ wx hb.bld (by rw [List.length_append, len_list]; omega) (by show (catT dl).toArray.size ≤ _; rw [List.size_toArray]; omega) (Nat.le_of_lt hb.sz))
        have hPut2 := mkHid (fun wx wy (hb : Bi w B (hd.data.toList ++ recsN ((ds.map val).take k) ++ (headN (x0, x1, x2, dl)).data.toList) wx) (h1 : Lib.IsBuilder 51 5 B B ((hd.data.toList ++ recsN ((ds.map val).take k) ++ (headN (x0, x1, x2, dl)).data.toList ++ (⟨(catT dl).toArray⟩ : ByteArray).data.toList).map byteV) wy) (h2 : Below B wx wy) => (show Bi w B (hd.data.toList ++ recsN ((ds.map val).take (k + 1))) wy by
          rw [hrs]
          unfold recN
          rw [← List.append_assoc, ← List.append_assoc]
          exact hb.put h1 h2))
        have hpt : (fnExactPutText.pre x0.size ++ x0).size ≤ 250 := by rw [ByteArray.size_append]; omega
        have hdl : (dl.length : Int) ≤ 100 := by omega
        rw [ER] at hWr hPut hWr2 hPut2
        generalize (⟨(catT dl).toArray⟩ : ByteArray) = ct at *
        generalize fnExactPutText.pre x0.size ++ x0 = pt at *
        generalize nbk.numB dd = n1 at *
        generalize nbk.numB x2 = n2 at *
        generalize nbk.numB (dl.length : Int) = n3 at *
        have a1 : (9223372036854775807 < pt.size + n1.size) = False := by simp; omega
        have a2 : (9223372036854775807 < (pt ++ n1).size + n2.size) = False := by simp [ByteArray.size_append]; omega
        have a3 : (9223372036854775807 < (pt ++ n1 ++ n2).size + n3.size) = False := by simp [ByteArray.size_append]; omega
        have d1 := fun wx => run_string_add_sum (P := Try.prog) wx pt n1 (by omega)
        have d2 := fun wx => run_string_add_sum (P := Try.prog) wx (pt ++ n1) n2 (by simp [ByteArray.size_append]; omega)
        have d3 := fun wx => run_string_add_sum (P := Try.prog) wx (pt ++ n1 ++ n2) n3 (by simp [ByteArray.size_append]; omega)
        have hBw := T.out.sz
        have P0 := mkHid (And.intro (T.out.next (below_alloc1 wr (.cells #[.string x0, .bool x1, .int .i64 x2, .slice da dl.length dc] 59))) (blk_new wr (.cells #[.string x0, .bool x1, .int .i64 x2, .slice da dl.length dc] 59) wr.heap.size rfl))
        have HWR := mkHid hBw
        clear T hx hpx hrs hhead p1 p2 p3 p4 p5 q1 q2 q3 q4 hn hpt ER hct hev hdm hrk hck hdd h5
        rcases hcase with ⟨rfl, rfl⟩ | ⟨rfl, rfl⟩ <;>
        (go_wp2_with fail
         generalize wr.alloc (.cells #[.string x0, .bool _, .int .i64 x2, .slice da dl.length dc] 59) = W at *
         clear c0 c1 c2 c3
         obtain ⟨c0, c1, c2, c3⟩ := cel4 P0.out.2
         go_wp2_with fail
         go_region_held3 (fun w' => w'.cell? ⟨wr.heap.size, 0, none⟩ = some (.string x0) ∧ w'.cell? ⟨wr.heap.size, 2, none⟩ = some (.int .i64 x2) ∧ w'.cell? ⟨wr.heap.size, 3, none⟩ = some (.slice da dl.length dc)) (go_keep)
           ((first
             | (go_at_call 31; refine Calls.mono (HT.out _) ?_; rintro e w4 ⟨rfl, hb4⟩; have r4 := re (w := W) hb4 rfl rfl rfl rfl; have P4 := mkHid (And.intro (P0.out.1.next r4) (blk_below P0.out.2 r4)); obtain ⟨e0, e1, e2, e3⟩ := cel4 P4.out.2; clear hb4 r4)
             | (go_at_call 30; have t := P6; clear t; refine Calls.mono (HN3.out _) ?_; rintro e w7 ⟨rfl, hb7⟩; have r7 := re (w := w6) hb7 rfl rfl rfl rfl; have P7 := mkHid (And.intro (P6.out.1.next r7) (blk_below P6.out.2 r7)); obtain ⟨j0, j1, j2, j3⟩ := cel4 P7.out.2; clear hb7 r7)
             | (go_at_call 30; have t := P5; clear t; refine Calls.mono (HN2.out _) ?_; rintro e w6 ⟨rfl, hb6⟩; have r6 := re (w := w5) hb6 rfl rfl rfl rfl; have P6 := mkHid (And.intro (P5.out.1.next r6) (blk_below P5.out.2 r6)); obtain ⟨i0, i1, i2, i3⟩ := cel4 P6.out.2; clear hb6 r6)
             | (go_at_call 30; have t := P4; clear t; refine Calls.mono (HN1.out _) ?_; rintro e w5 ⟨rfl, hb5⟩; have r5 := re (w := w4) hb5 rfl rfl rfl rfl; have P5 := mkHid (And.intro (P4.out.1.next r5) (blk_below P4.out.2 r5)); obtain ⟨f0, f1, f2, f3⟩ := cel4 P5.out.2; clear hb5 r5)
             | (go_at_call 29; refine Calls.mono (hWr.out _ P7.out.1) ?_; rintro e w8 ⟨rfl, hi8, hb8, ho8⟩; have P8 := mkHid (hPut.out w7 w8 P7.out.1 hi8 hb8); have y := ho8 wr.heap.size _ P7.out.2 (by have := HWR.out; omega) (fun cs fr e => by cases e); obtain ⟨k0, k1, k2, k3⟩ := cel4 y; clear hi8 hb8 ho8)))
         clear c0 c1 c2 c3 e0 e1 e2 e3 f0 f1 f2 f3 i0 i1 i2 i3 j0 j1 j2 j3 P0 P4 P5 P6 P7 hWr hPut HN1 HN2 HN3 HT a1 a2 a3 d1 d2 d3 HWR hBw y
         go_wp2_with fail
         refine (HJ.out _ (HK.out _ P8.out.below)).mono ?_
         rintro e w9 ⟨rfl, hb9⟩
         have P9 := mkHid (P8.out.next hb9)
         clear P8 hb9 HJ HK k0 k1 k2 k3
         go_wp2_with fail
         refine (hWr2.out _ P9.out).mono ?_
         rintro e w10 ⟨rfl, hi10, hb10, _⟩
         have P10 := mkHid (hPut2.out w9 w10 P9.out hi10 hb10)
         clear P9 hi10 hb10 hWr2 hPut2
         go_wp2
         exact ⟨⟨k + 1, by omega, by go_num, P10⟩, by simp [intOf]; omega⟩)
      · obtain rfl : k = ds.length := by omega
        have hbl := T.out.bld
        rw [List.take_of_length_le (by simp), ← HBL.out] at hbl
        have HSt := mkHid (bld.str_some B B (bytesL (ds.map val)) wr hbl hn0.out)
        have hle := T.out.le
        have F := mkHid T.out.below
        clear T hbl
        go_wp2_with fail
        refine HSt.out.mono ?_
        rintro e w4 ⟨rfl, hb⟩
        have F2 := mkHid (F.out.trans (hb.mono hle))
        clear hb HSt
        go_wp2
        go_ret
        exact ⟨rfl, F2.out⟩
end Go.Proofs.Ytmmmadehifajlaa.nod
