/-
  What spec.l09Names and spec.ObjectNames answer and leave. Conditions: at most 1,048,576 drives and files in all, of texts of at most 1,048,576 bytes, which lie in memory.
-/
import Derived.Test.YtlcdbkelonbcfaaNamP
import Derived.Test.YtlcdbkelonbcfaaArR
import Derived.Test.YtlcdbkelonbcfaaObjR
namespace Go.Proofs.Ytlcdbkelonbcfaa.nms
open Go.RowKit Go.Joins Go.Sort
open Go.Proofs.Ytlcdbkelonbcfaa.base Go.Proofs.Ytlcdbkelonbcfaa.blk Go.Proofs.Ytlcdbkelonbcfaa.aid
open Go.Proofs.Ytlcdbkelonbcfaa.row (Rd Own OwnV)
open Go.Proofs.Ytlcdbkelonbcfaa.rwStored (cs)
open Go.Proofs.Ytlcdbkelonbcfaa.strs (tx strV)
open Go.Proofs.Ytlcdbkelonbcfaa.arr (Fl Dv val dcs RdA Ax FitA Fit some_ some_pos some_app objB arrB objS_any arrS_any)
set_option linter.unusedVariables false

/-- one file's name, if it is an object's -/
def step (acc : List ByteArray) (f : Fl) : List ByteArray := if objB f.1 = true then put acc f.1 else acc
def allF (acc : List ByteArray) (l : List Fl) : List ByteArray := l.foldl step acc
def allV (vs : List (List Fl × Int)) : List ByteArray := vs.foldl (fun acc v => allF acc v.1) []
theorem step_len (acc : List ByteArray) (f : Fl) : (step acc f).length ≤ acc.length + 1 := by
  unfold step
  split
  · exact put_len _ _
  · omega
theorem allF_next (acc : List ByteArray) (l : List Fl) (j : Nat) (f : Fl) (h : l[j]? = some f) : allF acc (l.take (j + 1)) = step (allF acc (l.take j)) f := by
  unfold allF
  rw [List.take_add_one, h]
  simp
theorem allV_next (ds : List Dv) (q : Nat) (d : Dv) (h : ds[q]? = some d) : allV ((ds.take (q + 1)).map val) = allF (allV ((ds.take q).map val)) d.2.2.1 := by
  unfold allV
  rw [List.take_add_one, h]
  simp [val]
theorem some_next (ds : List Dv) (q : Nat) (d : Dv) (h : ds[q]? = some d) : some_ (ds.take (q + 1)) = some_ (ds.take q) + (d.2.2.1.length : Int) ∧ some_ (ds.take (q + 1)) ≤ some_ ds := by
  refine ⟨?_, ?_⟩
  · rw [List.take_add_one, h, some_app]
    simp [some_]
  · have e := some_app (ds.take (q + 1)) (ds.drop (q + 1))
    rw [List.take_append_drop] at e
    have := some_pos (ds.drop (q + 1))
    omega
/-- texts that are told so far -/
structure Nx (w : World) (va : Option Addr) (vc : Nat) (ts : List ByteArray) (wr : World) : Prop where
  rd : Rd wr va (tx ts)
  fresh : ∀ b o s, va = some ⟨b, o, s⟩ → w.heap.size ≤ b
  cap : ts.length ≤ vc
theorem Nx.next {w wr w' : World} {va : Option Addr} {vc : Nat} {ts : List ByteArray} (h : Nx w va vc ts wr) (hb : Below wr.heap.size wr w') : Nx w va vc ts w' := ⟨h.rd.below hb, h.fresh, h.cap⟩
/-- texts that can be read, fresh ones, are the answer -/
def QPost (w : World) (ts : List ByteArray) (e : Ending) (w' : World) : Prop :=
  ∃ a' c', e = .returned (.slice a' ts.length c') ∧ Rd w' a' (tx ts) ∧ (∀ b o s, a' = some ⟨b, o, s⟩ → w.heap.size ≤ b) ∧ Below w.heap.size w w'
set_option maxRecDepth 100000 in
set_option maxHeartbeats 4000000 in
theorem namesS_any (k m : Int) (a : Option Addr) (c : Nat) (ds : List Dv) (w : World) (hl : ds.length ≤ 1048576) (hs : some_ ds ≤ 1048576) (hf : FitA ds) (hr : RdA w a ds) :
    Calls Try.prog 34 #[.agg #[.int .i64 k, .int .i64 m, .slice a ds.length c]] w (QPost w (allV (ds.map val))) := by
  have HP := mkHid (fun wx va vc (ts : List ByteArray) t (h1 : ts.length ≤ 1048576) (h2 : ts.length ≤ vc) (h3 : Rd wx va (tx ts)) => putS_any va vc ts t wx h1 h2 h3)
  unfold PPost at HP
  have HO := mkHid (fun s wx (h : s.size ≤ 1048576) => objS_any s wx h)
  have HR := mkHid hr
  have hli : (ds.length : Int) ≤ 1048576 := by omega
  have A0 : Hid (Ax w a ds.length c k m ((w.alloc (.cells #[.int .i64 k, .int .i64 m, .slice a ds.length c] 30)).alloc (.cells #[] 9))) := mkHid (Ax.next ⟨below_alloc1 w _, blk_new w _ w.heap.size rfl⟩ (below_alloc1 _ _))
  have N0 : Hid (Nx w (some ⟨w.heap.size + 1, 0, none⟩) 0 [] ((w.alloc (.cells #[.int .i64 k, .int .i64 m, .slice a ds.length c] 30)).alloc (.cells #[] 9))) := mkHid ⟨Rd.nil _ _, fun b o s e => by cases e; omega, Nat.le_refl _⟩
  clear hr
  go_enter Try.func34, Try.ntmps34
  go_wp2_with fail
  generalize (w.alloc (.cells #[.int .i64 k, .int .i64 m, .slice a ds.length c] 30)).alloc (.cells #[] 9) = W at *
  go_loopw [3, 4] (fun out i wr => ∃ (q : Nat) (ts : List ByteArray) (va : Option Addr) (vc : Nat), q ≤ ds.length ∧ i = .int .i64 q ∧ out = .slice va ts.length vc ∧ Hid (ts = allV ((ds.take q).map val) ∧ (ts.length : Int) ≤ some_ (ds.take q)) ∧ Hid (Nx w va vc ts wr) ∧ Hid (Ax w a ds.length c k m wr))
    (fun _ i _ => ds.length - (intOf i).toNat)
  case atStart => exact ⟨0, [], _, 0, Nat.zero_le _, rfl, rfl, mkHid ⟨rfl, by simp [some_]⟩, N0, A0⟩
  case round =>
    clear A0 N0
    obtain ⟨q, ts, va, vc, hq, rfl, rfl, hT, hN, hA⟩ := hrel
    by_cases hlt : q < ds.length
    · have hlti : (q : Int) < (ds.length : Int) := by omega
      obtain ⟨d, hx⟩ : ∃ y, ds[q]? = some y := ⟨_, List.getElem?_eq_getElem hlt⟩
      have hdm := List.mem_of_getElem? hx
      have hnx := allV_next ds q d hx
      have hsn := some_next ds q d hx
      obtain ⟨da, dc, dl, dr⟩ := d
      obtain ⟨g1, o1, rfl, d0, d1, l1⟩ := arr.el HR.out.top hx
      simp only at d0 d1 hnx hsn
      have D0 := mkHid d0
      have HF := mkHid (HR.out.each _ hdm)
      have HZ := mkHid (hf _ hdm)
      simp only at HF HZ
      have HX := mkHid (And.intro hnx hsn)
      have hdl : (dl.length : Int) ≤ 1048576 := by have := some_pos (ds.take q); omega
      clear d0 d1 hx hdm hnx hsn
      obtain ⟨c0, c1, c2⟩ := cel3 hA.out.b
      go_wp2_with fail
      go_loopw [3, 5, 6] (fun out j nm wx => ∃ (p : Nat) (us : List ByteArray) (ua : Option Addr) (uc : Nat), p ≤ dl.length ∧ j = .int .i64 p ∧ out = .slice ua us.length uc ∧ Hid (us = allF (allV ((ds.take q).map val)) (dl.take p) ∧ (us.length : Int) ≤ some_ (ds.take q) + p) ∧ Hid (Nx w ua uc us wx) ∧ Hid (Ax w (some ⟨g1, o1, none⟩) ds.length c k m wx))
        (fun _ j _ _ => dl.length - (intOf j).toNat)
      case atStart => exact ⟨0, ts, va, vc, Nat.zero_le _, rfl, rfl, mkHid ⟨by rw [hT.out.1]; rfl, by have := hT.out.2; omega⟩, hN, hA⟩
      case round =>
        clear c0 c1 c2 hT hN hA
        obtain ⟨p, us, ua, uc, hp, rfl, rfl, hU, hN, hA⟩ := hrel
        obtain ⟨c0, c1, c2⟩ := cel3 hA.out.b
        have d0 := (hA.out.below.cell (p := ⟨g1, o1 + q * 2, none⟩) l1).trans D0.out
        by_cases hpt : p < dl.length
        · have hpti : (p : Int) < (dl.length : Int) := by omega
          obtain ⟨⟨x0, x1, x2⟩, hy⟩ : ∃ y, dl[p]? = some y := ⟨_, List.getElem?_eq_getElem hpt⟩
          obtain ⟨gf, of, rfl, e0, e1, e2, l2⟩ := rwStored.el (HF.out.below hA.out.below) hy
          simp only at e0 e1 e2
          have hxs : x0.size ≤ 1048576 := (HZ.out _ (List.mem_of_getElem? hy)).1
          have hst := allF_next (allV ((ds.take q).map val)) dl p _ hy
          have hul : us.length ≤ 1048576 := by have h1 := hU.out.2; have h2 := HX.out.2; omega
          have HO1 := mkHid (fun wx => HO.out x0 wx hxs)
          cases ho : objB x0 with
          | false =>
            rw [ho] at HO1
            have N1 : Hid (us = allF (allV ((ds.take q).map val)) (dl.take (p + 1)) ∧ (us.length : Int) ≤ some_ (ds.take q) + ((p + 1 : Nat) : Int)) := mkHid ⟨by rw [hst, hU.out.1]; unfold step; rw [if_neg (by simp [ho])], by have := hU.out.2; omega⟩
            clear hst hy e1 e2 hU hxs
            go_wp2_with fail
            refine (HO1.out _).mono ?_
            rintro e w1 ⟨rfl, rfl⟩
            go_wp2
            go_roundw
            case rel => exact ⟨p + 1, us, ua, uc, by omega, by go_num, rfl, N1, hN, hA⟩
            case measure => simp [intOf]; omega
          | true =>
            rw [ho] at HO1
            have N1 : Hid (put us x0 = allF (allV ((ds.take q).map val)) (dl.take (p + 1)) ∧ ((put us x0).length : Int) ≤ some_ (ds.take q) + ((p + 1 : Nat) : Int)) := mkHid ⟨by rw [hst, hU.out.1]; unfold step; rw [if_pos (by simp [ho])], by have := hU.out.2; have := put_len us x0; omega⟩
            clear hst hy e1 e2 hU hxs
            go_wp2_with fail
            refine (HO1.out _).mono ?_
            rintro e w1 ⟨rfl, rfl⟩
            go_wp2_with fail
            refine (HP.out _ ua uc us x0 hul hN.out.cap hN.out.rd).mono ?_
            rintro e w2 ⟨ua', uc', rfl, hr2, hf2, hb2, hc2⟩
            have A2 := mkHid (hA.out.next hb2)
            have M2 : Hid (Nx w ua' uc' (put us x0) w2) := mkHid ⟨hr2, fun b o s e => by
              rcases hf2 with h | h
              · exact hN.out.fresh b o s (h ▸ e)
              · have := h b o s e; have := hA.out.below.size; omega, hc2⟩
            generalize put us x0 = us' at *
            clear hr2 hf2 hb2 hc2 hA hN e0 d0 c0 c1 c2
            go_wp2
            go_roundw
            case rel => exact ⟨p + 1, us', ua', uc', by omega, by go_num, rfl, N1, M2, A2⟩
            case measure => simp [intOf]; omega
        · obtain rfl : p = dl.length := by omega
          have N1 : Hid (us = allV ((ds.take (q + 1)).map val) ∧ (us.length : Int) ≤ some_ (ds.take (q + 1))) := mkHid ⟨by rw [HX.out.1, hU.out.1, List.take_of_length_le (Nat.le_refl _)], by have h1 := hU.out.2; have h2 := HX.out.2; omega⟩
          clear hU
          go_wp2
          go_roundw
          case rel => exact ⟨q + 1, us, ua, uc, by omega, by go_num, rfl, N1, hN, hA⟩
          case measure => simp [intOf]; omega
    · obtain rfl : q = ds.length := by omega
      obtain ⟨c0, c1, c2⟩ := cel3 hA.out.b
      have HE : Hid (QPost w (allV (ds.map val)) (.returned (.slice va ts.length vc)) wr) := mkHid (by
        have h := hT.out.1
        rw [List.take_of_length_le (Nat.le_refl _)] at h
        rw [← h]
        exact ⟨va, vc, rfl, hN.out.rd, hN.out.fresh, hA.out.below⟩)
      clear hT hN
      go_wp2
      go_ret
      exact HE.out
/-- the names of objects, in their order -/
def namesA (k m : Int) (vs : List (List Fl × Int)) : List ByteArray := if arrB k m vs = true then allV vs else []
set_option maxRecDepth 100000 in
set_option maxHeartbeats 1000000 in
theorem objNamesS_any (k m : Int) (a : Option Addr) (c : Nat) (ds : List Dv) (w : World) (hl : ds.length ≤ 1048576) (hs : some_ ds ≤ 1048576) (hd : ∀ d ∈ ds, d.2.2.1.length ≤ 1048576) (hf : FitA ds) (hr : RdA w a ds) :
    Calls Try.prog 9 #[.agg #[.int .i64 k, .int .i64 m, .slice a ds.length c]] w (QPost w (namesA k m (ds.map val))) := by
  have HB := mkHid (arrS_any k m a c ds (w.alloc (.cells #[.int .i64 k, .int .i64 m, .slice a ds.length c] 30)) hl hd hf (hr.alloc _))
  have HN := mkHid (fun wx (hx : Below w.heap.size w wx) => namesS_any k m a c ds wx hl hs hf (hr.below hx))
  unfold QPost at HN
  have A0 : Hid (Ax w a ds.length c k m (w.alloc (.cells #[.int .i64 k, .int .i64 m, .slice a ds.length c] 30))) := mkHid ⟨below_alloc1 w _, blk_new w _ w.heap.size rfl⟩
  obtain ⟨c0, c1, c2⟩ := cel3 A0.out.b
  clear hr hf hd
  cases hb : arrB k m (ds.map val) with
  | false =>
    rw [hb] at HB
    have HE : Hid (namesA k m (ds.map val) = []) := mkHid (by unfold namesA; rw [hb]; rfl)
    generalize namesA k m (ds.map val) = o at *
    go_enter Try.func9, Try.ntmps9
    go_wp2_with fail
    refine HB.out.mono ?_
    rintro e w1 ⟨rfl, hb1⟩
    have A1 := mkHid (A0.out.next hb1)
    clear A0 hb1 HB HN c0 c1 c2
    go_wp2
    go_ret
    rw [HE.out]
    exact ⟨_, 0, rfl, Rd.nil _ _, fun b o s e => by have := A1.out.below.size; cases e; exact this, A1.out.below.alloc A1.out.below.size _⟩
  | true =>
    rw [hb] at HB
    have HE : Hid (namesA k m (ds.map val) = allV (ds.map val)) := mkHid (by unfold namesA; rw [hb]; rfl)
    generalize namesA k m (ds.map val) = o at *
    go_enter Try.func9, Try.ntmps9
    go_wp2_with fail
    refine HB.out.mono ?_
    rintro e w1 ⟨rfl, hb1⟩
    have A1 := mkHid (A0.out.next hb1)
    clear A0 hb1 HB c0 c1 c2
    obtain ⟨c0, c1, c2⟩ := cel3 A1.out.b
    go_wp2_with fail
    refine (HN.out _ A1.out.below).mono ?_
    rintro e w2 ⟨a', c', rfl, hr2, hf2, hb2⟩
    have HQ : Hid (QPost w o (.returned (.slice a' (allV (ds.map val)).length c')) w2) := mkHid (by
      rw [HE.out]
      exact ⟨a', c', rfl, hr2, fun b o s e => by have := hf2 b o s e; have := A1.out.below.size; omega, A1.out.below.trans (hb2.mono A1.out.below.size)⟩)
    clear hr2 hf2 hb2 HN HE
    go_wp2
    go_ret
    exact HQ.out
end Go.Proofs.Ytlcdbkelonbcfaa.nms
