/-
  What (impl.Array).named, for every name, and impl.ObjectNames answer and leave: a row of names of its own. Conditions: at most 1,048,576 drives and files in all, of texts of at most 1,048,576 bytes, which lie in memory.
-/
import Derived.Test.YtlcdbkelonbcfaaNamQ
import Derived.Test.YtlcdbkelonbcfaaDrvNm
import Derived.Test.YtlcdbkelonbcfaaObjR
namespace Go.Proofs.Ytlcdbkelonbcfaa.nms
open Go.RowKit Go.Joins Go.Sort
open Go.Proofs.Ytlcdbkelonbcfaa.base Go.Proofs.Ytlcdbkelonbcfaa.blk Go.Proofs.Ytlcdbkelonbcfaa.aid
open Go.Proofs.Ytlcdbkelonbcfaa.row (Rd Own OwnV)
open Go.Proofs.Ytlcdbkelonbcfaa.rwStored (cs)
open Go.Proofs.Ytlcdbkelonbcfaa.strs (tx strV appSem app_fold appT)
open Go.Proofs.Ytlcdbkelonbcfaa.drv (Nr NPost)
open Go.Proofs.Ytlcdbkelonbcfaa.arr (Fl Dv val dcs RdA FitA Fit some_ some_pos some_app objB arrB objI_any arrI_any)
set_option linter.unusedVariables false

theorem rawF_next (l : List Fl) (j : Nat) (f : Fl) (h : l[j]? = some f) : rawF (l.take (j + 1)) = rawF (l.take j) ++ (if objB f.1 = true then [f.1] else []) := by
  unfold rawF
  rw [List.take_add_one, h]
  cases ho : objB f.1 <;> simp [ho]
theorem rawV_next (ds : List Dv) (q : Nat) (d : Dv) (h : ds[q]? = some d) : rawV ((ds.take (q + 1)).map val) = rawV ((ds.take q).map val) ++ rawF d.2.2.1 := by
  unfold rawV
  rw [List.take_add_one, h]
  simp [val]
theorem Nr.same {w w' wx : World} {box : Obj} {B k k' : Nat} {v v' : Value} {ts ts' : List ByteArray} (h : Nr w box B v k ts wx) (hg : wx.grownBy w' v.ownBlock) (ho : w'.ownsRow B 9 1 v' k' (tx ts')) : Nr w box B v' k' ts' w' := by
  have hk := fun j hj => (h.own.lt j hj).1
  have hB := h.hB
  exact ⟨h.below.grown hg h.below.size (fun j hj => by have := hk j hj; omega), Nat.le_trans h.sz hg.size, (hg.block _ (Array.getElem?_eq_some_iff.1 h.bb).1 (fun e2 => by have := hk _ e2.symm; omega)).trans h.bb, ho, h.hB⟩
/-- what lies behind the loops: the row is sorted, and what comes again is left out -/
theorem names_raw (k m : Int) (vs : List (List Fl × Int)) (h : arrB k m vs = true) : Lib.compact (srt (rawV vs)) = (namesA k m vs).map bl := by
  unfold srt namesA
  rw [sorted_puts, if_pos h, allV_raw]
attribute [local go_sem ↓] app_fold
/-- every text begins with nothing -/
theorem all_begin (s : ByteArray) (w : World) :
    Calls Try.prog 69 #[.string s, .string ⟨#[]⟩] w fun e w' => e = .returned (.bool true) ∧ w' = w := by
  refine (arr.prefix_any s ⟨#[]⟩ w).mono ?_
  rintro e w' ⟨rfl, rfl⟩
  refine ⟨ret_eq ?_, rfl⟩
  have e : (s.extract 0 (⟨#[]⟩ : ByteArray).size).toList = [] := by
    rw [Lib.toList_data]
    have h : (s.extract 0 (⟨#[]⟩ : ByteArray).size).data.toList.length = 0 := by
      rw [Array.length_toList]
      show (s.extract 0 0).size = 0
      rw [ByteArray.size_extract]
      omega
    exact List.length_eq_zero_iff.1 h
  have e0 : (⟨#[]⟩ : ByteArray).toList = [] := by rw [Lib.toList_data]
  have ez : (⟨#[]⟩ : ByteArray).size = 0 := rfl
  rw [e, e0, ez]
  simp
set_option maxRecDepth 100000 in
set_option maxHeartbeats 4000000 in
theorem namedI_any (k m : Int) (a : Option Addr) (c : Nat) (ds : List Dv) (w : World) (hl : ds.length ≤ 1048576) (hs : some_ ds ≤ 1048576) (hd : ∀ d ∈ ds, d.2.2.1.length ≤ 1048576) (hf : FitA ds) (hr : RdA w a ds) (hb : arrB k m (ds.map val) = true) :
    Calls Try.prog 37 #[.agg #[.int .i64 k, .int .i64 m, .slice a ds.length c], .string ⟨#[]⟩] w (NPost w (namesA k m (ds.map val))) := by
  have HR := mkHid hr
  have b0 := blk_new w (.cells #[.int .i64 k, .int .i64 m, .slice a ds.length c] 30) w.heap.size rfl
  obtain ⟨c0, c1, c2⟩ := cel3 b0
  have hli : (ds.length : Int) ≤ 1048576 := by omega
  clear hr hd
  have HE := mkHid (names_raw k m (ds.map val) hb)
  have HS := mkHid (fun wx base v n ts h1 h2 => sort_own wx base v n ts h1 h2)
  have HC := mkHid (fun wx base a c n ss h1 h2 => compact_own wx base a c n ss h1 h2)
  have HO := mkHid (fun s wx (h : s.size ≤ 1048576) => objI_any s wx h)
  have HK := mkHid (fun s wx (h : s.size ≤ 1048576) => clone.clone_any s wx h)
  have HE0 := mkHid (fun s wx => all_begin s wx)
  generalize namesA k m (ds.map val) = o at *
  have N0 : Hid (Nr w (.cells #[.int .i64 k, .int .i64 m, .slice a ds.length c] 30) (w.heap.size + 1) (.slice none 0 0) 0 [] (w.alloc (.cells #[.int .i64 k, .int .i64 m, .slice a ds.length c] 30))) :=
    mkHid ⟨below_alloc1 w _, by simp, b0, World.ownsRow_nil _ _ _ _, Nat.le_refl _⟩
  clear b0 hb
  go_enter Try.func37, Try.ntmps37
  go_wp2_with fail
  go_loopw [5, 13] (fun out i wr => ∃ (q n : Nat) (ts : List ByteArray) (va : Option Addr) (vc : Nat), q ≤ ds.length ∧ i = .int .i64 q ∧ out = .slice va n vc ∧ Hid (ts.length = n ∧ ts = rawV ((ds.take q).map val) ∧ (n : Int) ≤ some_ (ds.take q)) ∧ Hid (Nr w (.cells #[.int .i64 k, .int .i64 m, .slice a ds.length c] 30) (w.heap.size + 1) (.slice va n vc) n ts wr))
    (fun _ i _ => ds.length - (intOf i).toNat)
  case atStart => exact ⟨0, 0, [], none, 0, Nat.zero_le _, rfl, rfl, mkHid ⟨rfl, rfl, by simp [some_]⟩, N0⟩
  case round =>
    clear N0 c0 c1 c2
    obtain ⟨q, n, ts, va, vc, hq, rfl, rfl, hT, hN⟩ := hrel
    by_cases hlt : q < ds.length
    · have hlti : (q : Int) < (ds.length : Int) := by omega
      obtain ⟨d, hx⟩ : ∃ y, ds[q]? = some y := ⟨_, List.getElem?_eq_getElem hlt⟩
      have hdm := List.mem_of_getElem? hx
      have hnx := rawV_next ds q d hx
      have hsn := some_next ds q d hx
      obtain ⟨da, dc, dl, dr⟩ := d
      obtain ⟨g1, o1, rfl, d0, d1, l1⟩ := arr.el HR.out.top hx
      simp only at d0 d1 hnx hsn
      have e0 := (hN.out.below.cell (p := ⟨g1, o1 + q * 2, none⟩) l1).trans d0
      have e1 := (hN.out.below.cell (p := ⟨g1, o1 + q * 2 + 1, none⟩) l1).trans d1
      have HF := mkHid (HR.out.each _ hdm)
      have HZ := mkHid (hf _ hdm)
      simp only at HF HZ
      have HX := mkHid (And.intro hnx hsn)
      have hdl : (dl.length : Int) ≤ 1048576 := by have := some_pos (ds.take q); omega
      have N1 := mkHid (hN.out.next (below_alloc1 wr (.cells #[.slice da dl.length dc, .int .i64 dr] 92)))
      clear d0 d1 hx hdm hnx hsn hN
      go_wp2_with fail
      go_loopw [5, 20] (fun out j wx => ∃ (p n : Nat) (us : List ByteArray) (ua : Option Addr) (uc : Nat), p ≤ dl.length ∧ j = .int .i64 p ∧ out = .slice ua n uc ∧ Hid (us.length = n ∧ us = rawV ((ds.take q).map val) ++ rawF (dl.take p) ∧ (n : Int) ≤ some_ (ds.take q) + p) ∧ Hid (Nr w (.cells #[.int .i64 k, .int .i64 m, .slice (some ⟨g1, o1, none⟩) ds.length c] 30) (w.heap.size + 1) (.slice ua n uc) n us wx))
        (fun _ j _ => dl.length - (intOf j).toNat)
      case atStart => exact ⟨0, n, ts, va, vc, Nat.zero_le _, rfl, rfl, mkHid ⟨hT.out.1, by rw [hT.out.2.1]; simp [rawF], by have := hT.out.2.2; omega⟩, N1⟩
      case round =>
        clear e0 e1 hT N1
        obtain ⟨p, n, us, ua, uc, hp, rfl, rfl, hU, hN⟩ := hrel
        by_cases hpt : p < dl.length
        · have hpti : (p : Int) < (dl.length : Int) := by omega
          obtain ⟨⟨x0, x1, x2⟩, hy⟩ : ∃ y, dl[p]? = some y := ⟨_, List.getElem?_eq_getElem hpt⟩
          obtain ⟨gf, of, rfl, e0, e1, e2, l2⟩ := rwStored.el (HF.out.below hN.out.below) hy
          simp only at e0 e1 e2
          have hxs : x0.size ≤ 1048576 := (HZ.out _ (List.mem_of_getElem? hy)).1
          have hst := rawF_next dl p _ hy
          simp only at hst
          have hul : n ≤ 1048576 := by have h1 := hU.out.2.2; have h2 := HX.out.2; omega
          have HO1 := mkHid (fun wx => HO.out x0 wx hxs)
          have HK1 := mkHid (fun wx => HK.out x0 wx hxs)
          cases ho : objB x0 with
          | false =>
            rw [ho] at HO1 hst
            have M1 : Hid (us.length = n ∧ us = rawV ((ds.take q).map val) ++ rawF (dl.take (p + 1)) ∧ (n : Int) ≤ some_ (ds.take q) + ((p + 1 : Nat) : Int)) := mkHid ⟨hU.out.1, by rw [hst, hU.out.2.1]; simp, by have := hU.out.2.2; omega⟩
            have N2 := mkHid (hN.out.next (below_alloc1 wr (.cells #[.string x0, .string x1, .int .i64 x2] 94)))
            clear hst hy hU hxs hN
            go_wp2_with fail
            refine (HO1.out _).mono ?_
            rintro e w1 ⟨rfl, rfl⟩
            go_wp2
            go_roundw
            case rel => exact ⟨p + 1, n, us, ua, uc, by omega, by go_num, rfl, M1, N2⟩
            case measure => simp [intOf]; omega
          | true =>
            rw [ho] at HO1 hst
            have M1 : Hid ((us ++ [x0]).length = n + 1 ∧ us ++ [x0] = rawV ((ds.take q).map val) ++ rawF (dl.take (p + 1)) ∧ ((n + 1 : Nat) : Int) ≤ some_ (ds.take q) + ((p + 1 : Nat) : Int)) := mkHid ⟨by rw [List.length_append, hU.out.1]; rfl, by rw [hst, hU.out.2.1]; simp, by have := hU.out.2.2; omega⟩
            have N2 := mkHid (hN.out.next (below_alloc1 wr (.cells #[.string x0, .string x1, .int .i64 x2] 94)))
            have hun := mkHid hU.out.1
            clear hst hy hU hxs hN
            go_wp2_with fail
            refine (HO1.out _).mono ?_
            rintro e w1 ⟨rfl, rfl⟩
            go_wp2_with fail
            refine (HE0.out _ _).mono ?_
            rintro e w1 ⟨rfl, rfl⟩
            go_wp2_with fail
            refine (HK1.out _).mono ?_
            rintro e w2 ⟨rfl, hb2⟩
            have N3 := mkHid (N2.out.next hb2)
            obtain ⟨g, c3, w3, happ, hown3, hgr⟩ := appT w2 (w.heap.size + 1) (.slice ua n uc) n us x0 hun.out N3.out.own N3.out.sz hul
            have N4 := mkHid (N3.out.app hgr hown3)
            clear hb2 hgr hown3 N2 N3 e0 e1 e2 hun
            go_wp2
            go_roundw
            case rel => exact ⟨p + 1, n + 1, us ++ [x0], _, _, by omega, by go_num, rfl, M1, N4⟩
            case measure => simp [intOf]; omega
        · obtain rfl : p = dl.length := by omega
          have M1 : Hid (us.length = n ∧ us = rawV ((ds.take (q + 1)).map val) ∧ (n : Int) ≤ some_ (ds.take (q + 1))) := mkHid ⟨hU.out.1, by rw [HX.out.1, hU.out.2.1, List.take_of_length_le (Nat.le_refl _)], by have h1 := hU.out.2.2; have h2 := HX.out.2; omega⟩
          clear hU
          go_wp2
          go_roundw
          case rel => exact ⟨q + 1, n, us, ua, uc, by omega, by go_num, rfl, M1, hN⟩
          case measure => simp [intOf]; omega
    · obtain rfl : q = ds.length := by omega
      have hn : n ≤ 1048576 := by
        have h := hT.out.2.2
        rw [List.take_of_length_le (Nat.le_refl _)] at h
        omega
      have hts : Hid (ts = rawV (ds.map val)) := mkHid (by
        have h := hT.out.2.1
        rw [List.take_of_length_le (Nat.le_refl _)] at h
        exact h)
      clear hT
      go_wp2_with fail
      refine (HS.out _ _ _ n ts hn hN.out.own).mono ?_
      rintro e w2 ⟨rfl, ho2, hg2⟩
      have B2 := mkHid (hN.out.below.grown hg2 hN.out.below.size (fun j hj => by have := (hN.out.own.lt j hj).1; have := hN.out.hB; omega))
      have O2 := mkHid ho2
      clear ho2 hg2 hN
      go_wp2_with fail
      refine (HC.out _ _ _ _ n _ hn O2.out).mono ?_
      rintro e w3 ⟨rfl, ho3, hg3⟩
      have HP : Hid (NPost w o (.returned (.slice va (Lib.compact (srt ts)).length vc)) w3) := mkHid (by
        have e1 : Lib.compact (srt ts) = o.map bl := by rw [hts.out]; exact HE.out
        rw [e1, ← tx_bl, List.length_map] at ho3
        rw [e1, List.length_map]
        obtain ⟨a', c', ea, ho, hf3⟩ := mem.own_of ho3
        cases ea
        exact ⟨va, vc, rfl, ho, fun b o s e => by have := hf3 b o s e; omega, B2.out.grown hg3 B2.out.size (fun j hj => by have := (O2.out.lt j hj).1; omega)⟩)
      clear ho3 hg3 O2
      go_wp2
      go_ret
      exact HP.out
set_option maxRecDepth 100000 in
set_option maxHeartbeats 1000000 in
theorem objNamesI_any (k m : Int) (a : Option Addr) (c : Nat) (ds : List Dv) (w : World) (hl : ds.length ≤ 1048576) (hs : some_ ds ≤ 1048576) (hd : ∀ d ∈ ds, d.2.2.1.length ≤ 1048576) (hf : FitA ds) (hr : RdA w a ds) :
    Calls Try.prog 11 #[.agg #[.int .i64 k, .int .i64 m, .slice a ds.length c]] w (NPost w (namesA k m (ds.map val))) := by
  have HB := mkHid (arrI_any k m a c ds (w.alloc (.cells #[.int .i64 k, .int .i64 m, .slice a ds.length c] 30)) hl hd hf (hr.alloc _))
  have HN := mkHid (fun wx (hb : Below w.heap.size w wx) (hB : arrB k m (ds.map val) = true) => namedI_any k m a c ds wx hl hs hd hf (hr.below hb) hB)
  have b0 := blk_new w (.cells #[.int .i64 k, .int .i64 m, .slice a ds.length c] 30) w.heap.size rfl
  clear hr hd
  cases hb : arrB k m (ds.map val) with
  | false =>
    rw [hb] at HB
    have HE : Hid (namesA k m (ds.map val) = []) := mkHid (by unfold namesA; rw [hb]; rfl)
    generalize namesA k m (ds.map val) = o at *
    go_enter Try.func11, Try.ntmps11
    go_wp2_with fail
    refine HB.out.mono ?_
    rintro e w1 ⟨rfl, hb1⟩
    have A1 := mkHid (below_allocs (os := [_]) hb1)
    clear hb1 HB b0
    go_wp2
    go_ret
    rw [HE.out]
    exact ⟨none, 0, rfl, .inl rfl, (fun b o s e => by cases e), A1.out⟩
  | true =>
    rw [hb] at HB
    generalize namesA k m (ds.map val) = o at *
    go_enter Try.func11, Try.ntmps11
    go_wp2_with fail
    refine HB.out.mono ?_
    rintro e w1 ⟨rfl, hb1⟩
    have A1 := mkHid (And.intro (below_allocs (os := [_]) hb1) (blk_below b0 hb1))
    obtain ⟨c0, c1, c2⟩ := cel3 A1.out.2
    clear hb1 HB b0
    go_wp2_with fail
    refine (HN.out _ A1.out.1 hb).mono ?_
    rintro e w2 ⟨va, vc, rfl, ho, hf2, hb2⟩
    have F := mkHid (show NPost w o (.returned (.slice va o.length vc)) w2 from ⟨va, vc, rfl, ho, fun b o s e => Nat.le_trans A1.out.1.size (hf2 b o s e), A1.out.1.trans (hb2.mono A1.out.1.size)⟩)
    clear ho hf2 hb2
    go_wp2
    go_ret
    exact F.out
end Go.Proofs.Ytlcdbkelonbcfaa.nms
