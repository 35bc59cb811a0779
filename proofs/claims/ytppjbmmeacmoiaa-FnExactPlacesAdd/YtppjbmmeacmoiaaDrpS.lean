/-
  What spec.PlacesDrop answers and leaves. Conditions: places that lie in memory, of texts of at most 1,048,576 bytes.
-/
import Derived.Test.YtppjbmmeacmoiaaDrpI
namespace Go.Proofs.Ytppjbmmeacmoiaa.plc
open Go.RowKit Go.Joins Go.Sort
open Go.Proofs.Ytppjbmmeacmoiaa.base Go.Proofs.Ytppjbmmeacmoiaa.blk Go.Proofs.Ytppjbmmeacmoiaa.aid
open Go.Proofs.Ytppjbmmeacmoiaa.row (Rd Own OwnV appSem app_fold)
open Go.Proofs.Ytppjbmmeacmoiaa.rwPlace (cs el SPost)
set_option linter.unusedVariables false
set_option linter.unusedSimpArgs false
attribute [local go_sem ↓] app_fold

theorem empty_own (w : World) : (w.alloc (.cells #[] 37)).ownsRow w.heap.size 37 5 (.slice (some ⟨w.heap.size, 0, none⟩) 0 0) 0 (cs []) :=
  World.ownsRow_made (size := 5) w #[] 0 (Nat.le_refl _) (by unfold maxLen; omega) rfl
theorem filter_snoc (l : List Pl) (f : Pl → Bool) (k : Nat) (x : Pl) (h : l[k]? = some x) : (l.take (k + 1)).filter f = (l.take k).filter f ++ (if f x then [x] else []) := by
  rw [List.take_add_one, h]
  simp [List.filter_append, List.filter_cons]
set_option maxRecDepth 100000 in
set_option maxHeartbeats 4000000 in
theorem dropS_any (a : Option Addr) (c : Nat) (l : List Pl) (k : ByteArray) (w : World) (hl : l.length ≤ 1048576) (hs : Small l) (hk : k.size ≤ 1048576) (hr : Rd w a (cs l)) :
    Calls Try.prog 21 #[.slice a l.length c, .string k] w (SPost w (dropA l k)) := by
  have hki : (k.size : Int) ≤ 1048576 := by omega
  have HE := mkHid (empty_own w)
  have HB0 := mkHid (below_alloc1 w (.cells #[] 37))
  by_cases h1 : 400 < l.length
  · have E : Hid (dropA l k = []) := mkHid (by unfold dropA; rw [if_pos (.inr (by cases hp : placesB l with | false => rfl | true => have := ((placesB_iff l).1 hp).1; omega))])
    have h1i : (400 : Int) < (l.length : Int) := by omega
    rw [E.out]
    clear hr
    go_enter Try.func21, Try.ntmps21
    go_wp2
    go_ret
    exact spost_of HE.out HB0.out
  have h1i : (l.length : Int) ≤ 400 := by omega
  by_cases h2 : 20000 < k.size
  · have E : Hid (dropA l k = []) := mkHid (by unfold dropA; rw [if_pos (.inl h2)])
    have h2i : (20000 : Int) < (k.size : Int) := by omega
    rw [E.out]
    clear hr
    go_enter Try.func21, Try.ntmps21
    go_wp2
    go_ret
    exact spost_of HE.out HB0.out
  have h2i : (k.size : Int) ≤ 20000 := by omega
  have HR := mkHid (rightS_any a c l (w.alloc (.cells #[] 37)) hl hs (hr.alloc _))
  cases hp : placesB l with
  | false =>
    rw [hp] at HR
    have E : Hid (dropA l k = []) := mkHid (by unfold dropA; rw [if_pos (.inr hp)])
    rw [E.out]
    clear hr
    go_enter Try.func21, Try.ntmps21
    go_wp2_with fail
    refine HR.out.mono ?_
    rintro e w1 ⟨rfl, hbw⟩
    have F : Hid (SPost w [] (.returned (.slice (some ⟨w.heap.size, 0, none⟩) 0 0)) w1) := mkHid (spost_of (HE.out.kept (below_grew hbw none) (.inr (by simp [Value.ownBlock]))) (below_trans HB0.out hbw))
    clear hbw
    go_wp2
    go_ret
    exact F.out
  | true =>
    rw [hp] at HR
    have E : Hid (dropA l k = l.filter (other k)) := mkHid (by unfold dropA; rw [if_neg (by rw [hp]; simp; omega)])
    rw [E.out]
    have HRd := mkHid hr
    clear hr
    go_enter Try.func21, Try.ntmps21
    go_wp2_with fail
    refine HR.out.mono ?_
    rintro e w1 ⟨rfl, hbw⟩
    have S0 : Hid (w1.ownsRow w.heap.size 37 5 (.slice (some ⟨w.heap.size, 0, none⟩) 0 0) 0 (cs []) ∧ Below w.heap.size w w1) := mkHid ⟨HE.out.kept (below_grew hbw none) (.inr (by simp [Value.ownBlock])), below_trans HB0.out hbw⟩
    clear hbw HR HE HB0
    go_wp2_with fail
    go_loopw [5, 6] (fun v i wr => ∃ (q : Nat) (acc : List Pl) (a' : Option Addr) (c' : Nat), q ≤ l.length ∧ i = .int .i64 q ∧ v = .slice a' acc.length c' ∧ Hid (acc = (l.take q).filter (other k) ∧ wr.ownsRow w.heap.size 37 5 (.slice a' acc.length c') acc.length (cs acc) ∧ Below w.heap.size w wr))
      (fun _ i _ => l.length - (intOf i).toNat)
    case atStart => exact ⟨0, [], _, _, Nat.zero_le _, rfl, rfl, mkHid ⟨by simp, S0.out.1, S0.out.2⟩⟩
    case round =>
      obtain ⟨q, acc, a', c', hq, rfl, rfl, S⟩ := hrel
      clear S0
      by_cases hlt : q < l.length
      · have hlti : (q : Int) < (l.length : Int) := by omega
        obtain ⟨⟨x0, x1, x2, x3, x4⟩, hx⟩ : ∃ y, l[q]? = some y := ⟨_, List.getElem?_eq_getElem hlt⟩
        obtain ⟨g1, o1, rfl, e0, e1, e2, e3, e4, l1⟩ := el (HRd.out.below S.out.2.2) hx
        simp only at e0 e1 e2 e3 e4
        have hft := filter_snoc l (other k) q _ hx
        have hal : acc.length ≤ 400 := by
          have h := S.out.1
          have h3 : ((l.take q).filter (other k)).length ≤ (l.take q).length := List.length_filter_le _ _
          rw [List.length_take] at h3
          rw [h]
          omega
        have hali : (acc.length : Int) + 1 ≤ 1000 := by omega
        cases he : (x1.toList == k.toList) with
        | true =>
          have ho : other k (x0, x1, x2, x3, x4) = false := by unfold other; rw [he]; rfl
          rw [ho] at hft
          have N1 : Hid (acc = (l.take (q + 1)).filter (other k) ∧ wr.ownsRow w.heap.size 37 5 (.slice a' acc.length c') acc.length (cs acc) ∧ Below w.heap.size w wr) := mkHid ⟨by rw [hft]; simpa using S.out.1, S.out.2.1, S.out.2.2⟩
          clear S hx hft ho
          go_wp2
          go_roundw
          case rel => exact ⟨q + 1, acc, a', c', by omega, by go_num, rfl, N1⟩
          case measure => simp [intOf]; omega
        | false =>
          have ho : other k (x0, x1, x2, x3, x4) = true := by unfold other; rw [he]; rfl
          rw [ho] at hft
          have hsz := S.out.2.2.size
          obtain ⟨g, c2, w4, happ, hO4, hg4⟩ := rwPlace.app (W := wr) (base := w.heap.size) (.slice a' acc.length c') acc.length acc x0 x1 x2 x3 x4 rfl S.out.2.1 hsz (by omega)
          have hlen1 : (acc ++ [(x0, x1, x2, x3, x4)]).length = acc.length + 1 := by rw [List.length_append, List.length_singleton]
          have hB4 : Below w.heap.size w w4 := (S.out.2.2.alloc hsz (.cells #[.string x0, .string x1, .int .i64 x2, .int .i64 x3, .int .i64 x4] 37)).grown hg4 (by simp only [World.size_alloc]; omega) (fun j hj => (S.out.2.1.lt j hj).1)
          have hacc : acc ++ [(x0, x1, x2, x3, x4)] = (l.take (q + 1)).filter (other k) := by rw [hft, ← S.out.1]; rfl
          have N1 : Hid (acc ++ [(x0, x1, x2, x3, x4)] = (l.take (q + 1)).filter (other k) ∧ w4.ownsRow w.heap.size 37 5 (.slice (some ⟨g, 0, none⟩) (acc.length + 1) c2) (acc.length + 1) (cs (acc ++ [(x0, x1, x2, x3, x4)])) ∧ Below w.heap.size w w4) := mkHid ⟨hacc, hO4, hB4⟩
          rw [← hlen1] at N1
          have HLN := mkHid hlen1.symm
          clear S hx hft ho hO4 hg4 hB4 hacc hlen1
          go_wp2
          go_roundw
          case rel => exact ⟨q + 1, acc ++ [(x0, x1, x2, x3, x4)], some ⟨g, 0, none⟩, c2, by omega, by go_num, by rw [← HLN.out], N1⟩
          case measure => simp [intOf]; omega
      · obtain rfl : q = l.length := by omega
        have h := S.out
        rw [List.take_of_length_le (Nat.le_refl _)] at h
        obtain ⟨h3, h4, h5⟩ := h
        subst h3
        have F := mkHid (spost_of h4 h5)
        clear h4 h5 S
        go_wp2
        go_ret
        exact F.out
end Go.Proofs.Ytppjbmmeacmoiaa.plc
