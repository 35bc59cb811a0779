/-
  What spec.ArrayRight and impl.ArrayRight answer and leave. Conditions: at most 1,048,576 drives of at most 1,048,576 files each, of texts of at most 1,048,576 bytes, which lie in memory.
-/
import Derived.Test.YtlcdbkelonbcfaaArE
import Derived.Test.YtlcdbkelonbcfaaCodeBd
import Derived.Test.YtlcdbkelonbcfaaDrvR
import Derived.Test.YtlcdbkelonbcfaaDrvIR
namespace Go.Proofs.Ytlcdbkelonbcfaa.arr
open Go.RowKit Go.Joins
open Go.Proofs.Ytlcdbkelonbcfaa.base Go.Proofs.Ytlcdbkelonbcfaa.blk Go.Proofs.Ytlcdbkelonbcfaa.aid
open Go.Proofs.Ytlcdbkelonbcfaa.row (Rd Own OwnV)
open Go.Proofs.Ytlcdbkelonbcfaa.rwStored (cs)
open Go.Proofs.Ytlcdbkelonbcfaa.drv (driveB)
set_option linter.unusedVariables false
set_option linter.unusedSimpArgs false

/-- is an array right? -/
def arrB (k m : Int) (vs : List (List Fl × Int)) : Bool := code.codeB k m && (decide ((vs.length : Int) = k + m) && vs.all (fun v => driveB v.1 v.2))
/-- while the drives are gone through -/
structure Ax (w : World) (a : Option Addr) (n c : Nat) (k m : Int) (wr : World) : Prop where
  below : Below w.heap.size w wr
  b : wr.heap[w.heap.size]? = some (.cells #[.int .i64 k, .int .i64 m, .slice a n c] 30)
theorem Ax.next {w wr w' : World} {a : Option Addr} {n c : Nat} {k m : Int} (h : Ax w a n c k m wr) (hb : Below wr.heap.size wr w') : Ax w a n c k m w' :=
  ⟨h.below.trans (hb.mono h.below.size), blk_below h.b hb⟩
set_option maxRecDepth 100000 in
set_option maxHeartbeats 2000000 in
theorem arrS_any (k m : Int) (a : Option Addr) (c : Nat) (ds : List Dv) (w : World) (hl : ds.length ≤ 1048576) (hs : ∀ d ∈ ds, d.2.2.1.length ≤ 1048576) (hf : FitA ds) (hr : RdA w a ds) :
    Calls Try.prog 33 #[.agg #[.int .i64 k, .int .i64 m, .slice a ds.length c]] w fun e w' => e = .returned (.bool (arrB k m (ds.map val))) ∧ Below w.heap.size w w' := by
  have HC := mkHid (fun wx => code.specCode_any k m wx)
  have B0 := mkHid (below_alloc1 w (.cells #[.int .i64 k, .int .i64 m, .slice a ds.length c] 30))
  have b0 := mkHid (blk_new w (.cells #[.int .i64 k, .int .i64 m, .slice a ds.length c] 30) w.heap.size rfl)
  have hli : (ds.length : Int) ≤ 1048576 := by omega
  have hlv : (ds.map val).length = ds.length := by simp
  obtain ⟨c0, c1, c2⟩ := cel3 b0.out
  cases hc : code.codeB k m with
  | false =>
    have E := mkHid (show arrB k m (ds.map val) = false by unfold arrB; rw [hc]; rfl)
    rw [hc] at HC
    clear hs hf hr
    go_enter Try.func33, Try.ntmps33
    go_wp2_with fail
    refine (HC.out _).mono ?_
    rintro e w1 ⟨rfl, rfl⟩
    go_wp2
    go_ret
    exact ⟨aid.ret_eq (by rw [E.out]; rfl), B0.out⟩
  | true =>
    rw [hc] at HC
    have hkm := frm.code_bd hc
    by_cases hn : (ds.length : Int) = k + m
    · have E : Hid (arrB k m (ds.map val) = (ds.map val).all (fun v => driveB v.1 v.2)) := mkHid (by unfold arrB; rw [hc, hlv, hn]; simp)
      have A0 : Hid (Ax w a ds.length c k m (w.alloc (.cells #[.int .i64 k, .int .i64 m, .slice a ds.length c] 30))) := mkHid ⟨B0.out, b0.out⟩
      have hne : ((ds.length : Int) != k + m) = false := by simpa using hn
      clear hc hlv b0
      go_enter Try.func33, Try.ntmps33
      go_wp2_with fail
      refine (HC.out _).mono ?_
      rintro e w1 ⟨rfl, rfl⟩
      clear HC
      go_wp2
      go_loopw [3] (fun i wr => ∃ q : Nat, q ≤ ds.length ∧ i = .int .i64 q ∧ Hid (((ds.take q).map val).all (fun v => driveB v.1 v.2) = true) ∧ Hid (Ax w a ds.length c k m wr))
        (fun i _ => ds.length - (intOf i).toNat)
      case atStart => exact ⟨0, Nat.zero_le _, rfl, mkHid (by simp), A0⟩
      case round =>
        clear A0 B0 c0 c1 c2
        obtain ⟨q, hq, rfl, hall, hA⟩ := hrel
        obtain ⟨c0, c1, c2⟩ := cel3 hA.out.b
        by_cases hlt : q < ds.length
        · have hlti : (q : Int) < (ds.length : Int) := by omega
          obtain ⟨d, hx⟩ : ∃ y, ds[q]? = some y := ⟨_, List.getElem?_eq_getElem hlt⟩
          have hdm := List.mem_of_getElem? hx
          obtain ⟨da, dc, dl, dr⟩ := d
          obtain ⟨g1, o1, rfl, d0, d1, l1⟩ := el hr.top hx
          simp only at d0 d1
          have e0 := (hA.out.below.cell (p := ⟨g1, o1 + q * 2, none⟩) l1).trans d0
          have e1 := (hA.out.below.cell (p := ⟨g1, o1 + q * 2 + 1, none⟩) l1).trans d1
          have HD := mkHid (fun wx (h : Below w.heap.size w wx) => drv.right_any da dc dl dr wx (hs _ hdm) (hf _ hdm) ((hr.each _ hdm).below h))
          have ht : (ds.take (q + 1)).map val = (ds.take q).map val ++ [(dl, dr)] := by rw [List.take_add_one, hx]; simp [val]
          cases hd : driveB dl dr with
          | false =>
            have EE := mkHid (show arrB k m (ds.map val) = false by
              rw [E.out, List.all_eq_false]
              exact ⟨(dl, dr), List.mem_map.2 ⟨_, hdm, rfl⟩, by simp [hd]⟩)
            rw [hd] at HD
            clear d0 d1 hx hr hs hf hdm ht hall E
            go_wp2_with fail
            refine (HD.out _ hA.out.below).mono ?_
            rintro e w2 ⟨rfl, hb⟩
            have A2 := mkHid (hA.out.next hb)
            clear hb HD hA e0 e1
            go_wp2
            go_ret
            exact ⟨aid.ret_eq (by rw [EE.out]; rfl), A2.out.below⟩
          | true =>
            have N1 := mkHid (show ((ds.take (q + 1)).map val).all (fun v => driveB v.1 v.2) = true by rw [ht, List.all_append, hall.out]; simp [hd])
            rw [hd] at HD
            clear d0 d1 hx hr hs hf hdm ht hall E
            go_wp2_with fail
            refine (HD.out _ hA.out.below).mono ?_
            rintro e w2 ⟨rfl, hb⟩
            have A2 := mkHid (hA.out.next hb)
            clear hb HD hA e0 e1
            go_wp2
            go_roundw
            case rel => exact ⟨q + 1, by omega, by go_num, N1, A2⟩
            case measure => simp [intOf]; omega
        · obtain rfl : q = ds.length := by omega
          have EE := mkHid (show arrB k m (ds.map val) = true by rw [E.out]; have := hall.out; rw [List.take_of_length_le (Nat.le_refl _)] at this; exact this)
          clear hall E hr hs hf
          go_wp2
          go_ret
          exact ⟨aid.ret_eq (by rw [EE.out]; rfl), hA.out.below⟩
    · have E := mkHid (show arrB k m (ds.map val) = false by unfold arrB; rw [hc, hlv]; simp [hn])
      have hne : ((ds.length : Int) != k + m) = true := by simpa using hn
      clear hs hf hr hc hlv
      go_enter Try.func33, Try.ntmps33
      go_wp2_with fail
      refine (HC.out _).mono ?_
      rintro e w1 ⟨rfl, rfl⟩
      go_wp2
      go_ret
      exact ⟨aid.ret_eq (by rw [E.out]; rfl), B0.out⟩
set_option maxRecDepth 100000 in
set_option maxHeartbeats 2000000 in
theorem arrI_any (k m : Int) (a : Option Addr) (c : Nat) (ds : List Dv) (w : World) (hl : ds.length ≤ 1048576) (hs : ∀ d ∈ ds, d.2.2.1.length ≤ 1048576) (hf : FitA ds) (hr : RdA w a ds) :
    Calls Try.prog 36 #[.agg #[.int .i64 k, .int .i64 m, .slice a ds.length c]] w fun e w' => e = .returned (.bool (arrB k m (ds.map val))) ∧ Below w.heap.size w w' := by
  have HC := mkHid (fun wx => code.implCode_any k m wx)
  have B0 := mkHid (below_alloc1 w (.cells #[.int .i64 k, .int .i64 m, .slice a ds.length c] 30))
  have b0 := mkHid (blk_new w (.cells #[.int .i64 k, .int .i64 m, .slice a ds.length c] 30) w.heap.size rfl)
  have hli : (ds.length : Int) ≤ 1048576 := by omega
  have hlv : (ds.map val).length = ds.length := by simp
  obtain ⟨c0, c1, c2⟩ := cel3 b0.out
  cases hc : code.codeB k m with
  | false =>
    have E := mkHid (show arrB k m (ds.map val) = false by unfold arrB; rw [hc]; rfl)
    rw [hc] at HC
    clear hs hf hr
    go_enter Try.func36, Try.ntmps36
    go_wp2_with fail
    refine (HC.out _).mono ?_
    rintro e w1 ⟨rfl, rfl⟩
    go_wp2
    go_ret
    exact ⟨aid.ret_eq (by rw [E.out]; rfl), B0.out⟩
  | true =>
    rw [hc] at HC
    have hkm := frm.code_bd hc
    by_cases hn : (ds.length : Int) = k + m
    · have E : Hid (arrB k m (ds.map val) = (ds.map val).all (fun v => driveB v.1 v.2)) := mkHid (by unfold arrB; rw [hc, hlv, hn]; simp)
      have A0 : Hid (Ax w a ds.length c k m (w.alloc (.cells #[.int .i64 k, .int .i64 m, .slice a ds.length c] 30))) := mkHid ⟨B0.out, b0.out⟩
      have hne : ((ds.length : Int) != k + m) = false := by simpa using hn
      clear hc hlv b0
      go_enter Try.func36, Try.ntmps36
      go_wp2_with fail
      refine (HC.out _).mono ?_
      rintro e w1 ⟨rfl, rfl⟩
      clear HC
      go_wp2
      go_loopw [25] (fun i wr => ∃ q : Nat, q ≤ ds.length ∧ i = .int .i64 q ∧ Hid (((ds.take q).map val).all (fun v => driveB v.1 v.2) = true) ∧ Hid (Ax w a ds.length c k m wr))
        (fun i _ => ds.length - (intOf i).toNat)
      case atStart => exact ⟨0, Nat.zero_le _, rfl, mkHid (by simp), A0⟩
      case round =>
        clear A0 B0 c0 c1 c2
        obtain ⟨q, hq, rfl, hall, hA⟩ := hrel
        obtain ⟨c0, c1, c2⟩ := cel3 hA.out.b
        by_cases hlt : q < ds.length
        · have hlti : (q : Int) < (ds.length : Int) := by omega
          obtain ⟨d, hx⟩ : ∃ y, ds[q]? = some y := ⟨_, List.getElem?_eq_getElem hlt⟩
          have hdm := List.mem_of_getElem? hx
          obtain ⟨da, dc, dl, dr⟩ := d
          obtain ⟨g1, o1, rfl, d0, d1, l1⟩ := el hr.top hx
          simp only at d0 d1
          have e0 := (hA.out.below.cell (p := ⟨g1, o1 + q * 2, none⟩) l1).trans d0
          have e1 := (hA.out.below.cell (p := ⟨g1, o1 + q * 2 + 1, none⟩) l1).trans d1
          have HD := mkHid (fun wx (h : Below w.heap.size w wx) => drv.rightI_any da dc dl dr wx (hs _ hdm) (hf _ hdm) ((hr.each _ hdm).below h))
          have ht : (ds.take (q + 1)).map val = (ds.take q).map val ++ [(dl, dr)] := by rw [List.take_add_one, hx]; simp [val]
          cases hd : driveB dl dr with
          | false =>
            have EE := mkHid (show arrB k m (ds.map val) = false by
              rw [E.out, List.all_eq_false]
              exact ⟨(dl, dr), List.mem_map.2 ⟨_, hdm, rfl⟩, by simp [hd]⟩)
            rw [hd] at HD
            clear d0 d1 hx hr hs hf hdm ht hall E
            go_wp2_with fail
            refine (HD.out _ (hA.out.below.alloc hA.out.below.size (.cells #[.slice da dl.length dc, .int .i64 dr] 92))).mono ?_
            rintro e w2 ⟨rfl, hb⟩
            have A2 := mkHid ((hA.out.next (below_alloc1 wr (.cells #[.slice da dl.length dc, .int .i64 dr] 92))).next hb)
            clear hb HD hA e0 e1
            go_wp2
            go_ret
            exact ⟨aid.ret_eq (by rw [EE.out]; rfl), A2.out.below⟩
          | true =>
            have N1 := mkHid (show ((ds.take (q + 1)).map val).all (fun v => driveB v.1 v.2) = true by rw [ht, List.all_append, hall.out]; simp [hd])
            rw [hd] at HD
            clear d0 d1 hx hr hs hf hdm ht hall E
            go_wp2_with fail
            refine (HD.out _ (hA.out.below.alloc hA.out.below.size (.cells #[.slice da dl.length dc, .int .i64 dr] 92))).mono ?_
            rintro e w2 ⟨rfl, hb⟩
            have A2 := mkHid ((hA.out.next (below_alloc1 wr (.cells #[.slice da dl.length dc, .int .i64 dr] 92))).next hb)
            clear hb HD hA e0 e1
            go_wp2
            go_roundw
            case rel => exact ⟨q + 1, by omega, by go_num, N1, A2⟩
            case measure => simp [intOf]; omega
        · obtain rfl : q = ds.length := by omega
          have EE := mkHid (show arrB k m (ds.map val) = true by rw [E.out]; have := hall.out; rw [List.take_of_length_le (Nat.le_refl _)] at this; exact this)
          clear hall E hr hs hf
          go_wp2
          go_ret
          exact ⟨aid.ret_eq (by rw [EE.out]; rfl), hA.out.below⟩
    · have E := mkHid (show arrB k m (ds.map val) = false by unfold arrB; rw [hc, hlv]; simp [hn])
      have hne : ((ds.length : Int) != k + m) = true := by simpa using hn
      clear hs hf hr hc hlv
      go_enter Try.func36, Try.ntmps36
      go_wp2_with fail
      refine (HC.out _).mono ?_
      rintro e w1 ⟨rfl, rfl⟩
      go_wp2
      go_ret
      exact ⟨aid.ret_eq (by rw [E.out]; rfl), B0.out⟩
end Go.Proofs.Ytlcdbkelonbcfaa.arr
