/-
  What impl.PlacesAdd answers and leaves. Conditions: places that lie in memory, of texts of at most 1,048,576 bytes.
-/
import Derived.Test.YtppjbmmeacmoiaaAdS
import Derived.Test.YtppjbmmeacmoiaaDrpI
namespace Go.Proofs.Ytppjbmmeacmoiaa.plc
open Go.RowKit Go.Joins Go.Sort Go.Maps Go.WideShapes
open Go.Proofs.Ytppjbmmeacmoiaa.base Go.Proofs.Ytppjbmmeacmoiaa.blk Go.Proofs.Ytppjbmmeacmoiaa.aid
open Go.Proofs.Ytppjbmmeacmoiaa.row (Rd Own OwnV)
open Go.Proofs.Ytppjbmmeacmoiaa.rwPlace (cs el)
set_option linter.unusedVariables false
set_option linter.unusedSimpArgs false

/-- a map of our own has as many entries as it holds places -/
theorem size_is_len {w : World} {b n : Nat} {D : DataW Unit} {L : List Pl} (hown : w.ownsMap Try.prog 62 R b n D) (hM : HoldsM D L) : Maps.size D = L.length := by
  obtain ⟨es, rfl, hne, hkey⟩ := hown.entries lawK
  have h1 : (es.map Prod.fst).Nodup := by
    unfold List.Nodup
    rw [List.pairwise_map]
    exact hne
  have h2 : (L.map (fun p => kl (sp p))).Nodup := by
    have ha := hM.apart
    have hf := hM.fits
    clear hM
    induction L with
    | nil => exact .nil
    | cons p L ih =>
      unfold Apart at ha
      rw [List.map_cons, List.nodup_cons] at ha
      rw [List.map_cons, List.nodup_cons]
      refine ⟨fun hm => ?_, ih ha.2 (fun q hq => hf q (List.mem_cons_of_mem _ hq))⟩
      obtain ⟨q, hq, e⟩ := List.mem_map.1 hm
      have f1 := hf p (by simp)
      have f2 := hf q (List.mem_cons_of_mem _ hq)
      have := kl_inj (fit_max f2.1) (fit_max f2.2) (fit_max f1.1) (fit_max f1.2) e
      exact ha.1 (List.mem_map.2 ⟨q, hq, this⟩)
  have h3 : (es.map Prod.fst).Perm (L.map (fun p => kl (sp p))) := (List.perm_ext_iff_of_nodup h1 h2).2 (fun k => by
    constructor
    · intro hk
      obtain ⟨p, hp, rfl⟩ := List.mem_map.1 hk
      obtain ⟨q, hq, e⟩ := hM.only p.1 (by rw [has_eq, List.any_eq_true]; exact ⟨p, hp, WideAt.sameKey_self (hkey p hp)⟩)
      exact List.mem_map.2 ⟨q, hq, e.symm⟩
    · intro hk
      obtain ⟨q, hq, rfl⟩ := List.mem_map.1 hk
      have h := hM.there hq
      rw [has_eq, List.any_eq_true] at h
      obtain ⟨p, hp, e⟩ := h
      exact List.mem_map.2 ⟨p, hp, WideAt.sameKey_eq e⟩)
  have := h3.length_eq
  simpa [size_eq] using this
theorem puts_two {l m : List Pl} (h : Rising l) : (l ++ m).foldl put [] = m.foldl put l := by rw [List.foldl_append, puts_self h]
/-- the answer, a row of our own, and what is left -/
def AOwn (w : World) (r : List Pl × Int) (e : Ending) (w' : World) : Prop :=
  ∃ a' c', e = .returned (.agg #[.slice a' r.1.length c', .int .i64 r.2]) ∧ OwnV 37 w' a' (cs r.1) ∧ (∀ b o s, a' = some ⟨b, o, s⟩ → w.heap.size ≤ b) ∧ Below w.heap.size w w' ∧ r.1.length ≤ c'
theorem aown_new {w : World} {r : List Pl × Int} {k : Int} (hr : r = ([], k)) : AOwn w r (.returned (.agg #[.slice none 0 0, .int .i64 k])) (w.alloc (.cells #[.slice none 0 0, .int .i64 k] 30)) := by
  subst hr
  exact ⟨none, 0, rfl, .inl rfl, (fun _ _ _ e => by cases e), below_alloc1 _ _, Nat.le_refl _⟩
theorem aown_no {w w1 : World} {r : List Pl × Int} {k : Int} (hb : Below w.heap.size w w1) (hr : r = ([], k)) : AOwn w r (.returned (.agg #[.slice none 0 0, .int .i64 k])) ((w1.setCell ⟨w.heap.size, 0, none⟩ (.slice none 0 0)).setCell ⟨w.heap.size, 1, none⟩ (.int .i64 k)) := by
  subst hr
  exact ⟨none, 0, rfl, .inl rfl, (fun _ _ _ e => by cases e), belowS hb (Nat.le_refl _) _ _, Nat.le_refl _⟩
theorem own_v {w : World} {base n c : Nat} {a : Option Addr} {l : List Pl} (h : w.ownsRow base 37 5 (.slice a n c) n (cs l)) : OwnV 37 w a (cs l) := by
  rcases h.2 with ⟨h1, h2⟩ | ⟨g, cap, cur, h1, _⟩
  · have h3 := h.1
    rw [h2, Nat.zero_mul] at h3
    exact .inl (List.eq_nil_of_length_eq_zero h3)
  · simp at h1
    obtain ⟨rfl, _⟩ := h1
    exact .inr ⟨g, rfl, Own.owns h⟩
theorem aown_of {w w1 : World} {r : List Pl × Int} {a' : Option Addr} {n c' : Nat} {k : Int} (hb : Below w.heap.size w w1) (hn : r.1.length = n) (hk : r.2 = k) (ho : w1.ownsRow (w.heap.size + 1) 37 5 (.slice a' n c') n (cs r.1)) :
    AOwn w r (.returned (.agg #[.slice a' n c', .int .i64 k])) ((w1.setCell ⟨w.heap.size, 0, none⟩ (.slice a' n c')).setCell ⟨w.heap.size, 1, none⟩ (.int .i64 k)) := by
  subst hn hk
  have h2 := ownsRow_setCell_below (ownsRow_setCell_below ho (a := ⟨w.heap.size, 0, none⟩) (Nat.lt_succ_self _) (.slice a' r.1.length c')) (a := ⟨w.heap.size, 1, none⟩) (Nat.lt_succ_self _) (.int .i64 r.2)
  exact ⟨a', c', rfl, own_v h2, (fun b o s e => by have := (ho.lt b (by rw [e]; rfl)).1; omega), belowS hb (Nat.le_refl _) _ _, (cap_of ho).2⟩
set_option maxRecDepth 100000 in
set_option maxHeartbeats 4000000 in
theorem addI_any (a0 : Option Addr) (c0 : Nat) (l : List Pl) (a1 : Option Addr) (c1 : Nat) (m : List Pl) (w : World) (hl : l.length ≤ 1048576) (hs : Small l) (hr : Rd w a0 (cs l)) (hm : m.length ≤ 1048576) (hs1 : Small m) (hr1 : Rd w a1 (cs m)) :
    Calls Try.prog 13 #[.slice a0 l.length c0, .slice a1 m.length c1] w (AOwn w (addA l m)) := by
  have hb0 := blk_new w zeroA w.heap.size rfl
  have HB0 := mkHid (below_alloc1 w zeroA)
  unfold zeroA at hb0 HB0
  obtain ⟨z0, z1⟩ := cel2 hb0
  have uf := unfrozen hb0
  have hli : (l.length : Int) ≤ 1048576 := by omega
  have hmi : (m.length : Int) ≤ 1048576 := by omega
  by_cases h1 : 400 < l.length
  · have F : Hid (AOwn w (addA l m) _ _) := mkHid (aown_new (k := 2) (by unfold addA; rw [if_pos (.inl h1)]))
    have h1i : (400 : Int) < (l.length : Int) := by omega
    clear hr hr1 hb0 HB0 z0 z1 uf
    go_enter Try.func13, Try.ntmps13
    go_wp2
    refine bodyPost_ret (v := .agg #[.slice none 0 0, .int .i64 2]) ?_ rfl F.out
    simp [results, Try.results13, go_sem]
  have h1i : (l.length : Int) ≤ 400 := by omega
  by_cases h2 : 400 < m.length
  · have F : Hid (AOwn w (addA l m) _ _) := mkHid (aown_new (k := 2) (by unfold addA; rw [if_pos (.inr h2)]))
    have h2i : (400 : Int) < (m.length : Int) := by omega
    clear hr hr1 hb0 HB0 z0 z1 uf
    go_enter Try.func13, Try.ntmps13
    go_wp2
    refine bodyPost_ret (v := .agg #[.slice none 0 0, .int .i64 2]) ?_ rfl F.out
    simp [results, Try.results13, go_sem]
  have h2i : (m.length : Int) ≤ 400 := by omega
  have HR := mkHid (fun wx (hb : Below w.heap.size w wx) => rightI_any a0 c0 l wx hl hs (hr.below hb))
  have HR1 := mkHid (fun wx (hb : Below w.heap.size w wx) => rightI_any a1 c1 m wx hm hs1 (hr1.below hb))
  have hbk := mkHid hb0
  clear z0 z1 uf hb0
  cases hp : placesB l with
  | false =>
    rw [hp] at HR
    have HE := mkHid (show addA l m = ([], 1) by unfold addA; rw [if_neg (by omega), if_pos (.inl hp)])
    clear hr hr1 HR1
    go_enter Try.func13, Try.ntmps13
    go_wp2_with fail
    refine (HR.out _ HB0.out).mono ?_
    rintro e w1 ⟨rfl, hbw⟩
    have hb2 := blk_below hbk.out hbw
    obtain ⟨z0, z1⟩ := cel2 hb2
    have uf := unfrozen hb2
    have F : Hid (AOwn w (addA l m) _ _) := mkHid (aown_no (k := 1) (below_trans HB0.out hbw) HE.out)
    clear hbw hb2 HB0 HR HE hbk
    go_wp2
    refine bodyPost_ret (v := .agg #[.slice none 0 0, .int .i64 1]) ?_ rfl F.out
    simp [results, Try.results13, go_sem, z0, z1]
  | true =>
    rw [hp] at HR
    cases hq : placesB m with
    | false =>
      rw [hq] at HR1
      have HE := mkHid (show addA l m = ([], 1) by unfold addA; rw [if_neg (by omega), if_pos (.inr hq)])
      clear hr hr1
      go_enter Try.func13, Try.ntmps13
      go_wp2_with fail
      refine (HR.out _ HB0.out).mono ?_
      rintro e w1 ⟨rfl, hbw⟩
      have hb2 := mkHid (blk_below hbk.out hbw)
      have HB1 := mkHid (below_trans HB0.out hbw)
      clear hbw HB0 hbk
      go_wp2_with fail
      refine (HR1.out _ HB1.out).mono ?_
      rintro e w2 ⟨rfl, hbw⟩
      have hb3 := blk_below hb2.out hbw
      obtain ⟨z0, z1⟩ := cel2 hb3
      have uf := unfrozen hb3
      have F : Hid (AOwn w (addA l m) _ _) := mkHid (aown_no (k := 1) (below_trans HB1.out hbw) HE.out)
      clear hbw hb2 hb3 HB1 HR HR1 HE
      go_wp2
      refine bodyPost_ret (v := .agg #[.slice none 0 0, .int .i64 1]) ?_ rfl F.out
      simp [results, Try.results13, go_sem, z0, z1]
    | true =>
      rw [hq] at HR1
      obtain ⟨_, hris, _⟩ := (placesB_iff l).1 hp
      have hputs := puts_two (m := m) hris
      have HA3 := mkHid (show ¬ 300 < (firsts (l ++ m)).length → addA l m = ((l ++ m).foldl put [], 0) from fun h => by rw [← puts_len, hputs] at h; unfold addA; rw [if_neg (by omega), if_neg (by rw [hp, hq]; simp), if_neg h, hputs])
      have HE3 := mkHid (show 300 < (firsts (l ++ m)).length → addA l m = ([], 11) from fun h => by rw [← puts_len, hputs] at h; unfold addA; rw [if_neg (by omega), if_neg (by rw [hp, hq]; simp), if_pos h])
      have hfl : (firsts (l ++ m)).length ≤ 800 := by have := firsts_len (l ++ m); rw [List.length_append] at this; omega
      have hfit : Fits (l ++ m) := fun p hpm => by
        rcases List.mem_append.1 hpm with h | h
        · exact hs p h
        · exact hs1 p h
      have HBy := mkHid (fun wx (hb : Below w.heap.size w wx) => bySpot_any (some ⟨wx.heap.size, 0, none⟩) 2 [(a0, c0, l), (a1, c1, m)] (wx.alloc (.cells #[.slice a0 l.length c0, .slice a1 m.length c1] 25)) (by
        intro i u hi
        obtain ⟨h1, h2⟩ := cel2 (blk_new wx (.cells #[.slice a0 l.length c0, .slice a1 m.length c1] 25) wx.heap.size rfl)
        match i, hi with
        | 0, hi => simp [sv] at hi; subst hi; exact ⟨_, 0, rfl, h1⟩
        | 1, hi => simp [sv] at hi; subst hi; exact ⟨_, 0, rfl, h2⟩
        | i + 2, hi => simp at hi) (by
          intro x hx
          simp at hx
          rcases hx with rfl | rfl
          · exact (hr.below hb).alloc _
          · exact (hr1.below hb).alloc _) (by simp) (by simp [allP]; omega) (by simpa [allP] using hfit))
      have hall : allP [(a0, c0, l), (a1, c1, m)] = l ++ m := by simp [allP]
      rw [hall] at HBy
      clear hr hr1 hp hq hputs hris hfit
      go_enter Try.func13, Try.ntmps13
      go_wp2_with fail
      refine (HR.out _ HB0.out).mono ?_
      rintro e w1 ⟨rfl, hbw⟩
      have hb2 := mkHid (blk_below hbk.out hbw)
      have HB1 := mkHid (below_trans HB0.out hbw)
      clear hbw HB0 hbk HR
      go_wp2_with fail
      refine (HR1.out _ HB1.out).mono ?_
      rintro e w2 ⟨rfl, hbw⟩
      have hb3 := mkHid (blk_below hb2.out hbw)
      have HB2 := mkHid (below_trans HB1.out hbw)
      clear hbw HB1 hb2 HR1
      go_wp2_with fail
      refine (HBy.out _ HB2.out).mono ?_
      rintro e w3 ⟨b, n, D, rfl, hown, hM, hn, hbb, hbw⟩
      have hbw2 := below_trans (below_alloc1 w2 (.cells #[.slice a0 l.length c0, .slice a1 m.length c1] 25)) hbw
      have hb4 := mkHid (blk_below hb3.out hbw2)
      have HB3 := mkHid (below_trans HB2.out hbw2)
      have HO := mkHid hown
      have hsz := size_is_len hown hM
      have HRis := mkHid (rising_any b n D _ w3 hown hM (by rw [List.length_append] at hn; omega))
      clear hown hM hbw hbw2 HB2 HBy hb3 hbb
      by_cases h3 : 300 < (firsts (l ++ m)).length
      · have h3i : (300 : Int) < (Maps.size D : Int) := by omega
        obtain ⟨z0, z1⟩ := cel2 hb4.out
        have uf := unfrozen hb4.out
        have F : Hid (AOwn w (addA l m) _ _) := mkHid (aown_no (k := 11) HB3.out (HE3.out h3))
        clear HA3 HE3 HRis HB3 hb4
        go_wp2_with (first
          | (at_len; refine wpList_len_own _ rfl _ 53 rfl 62 37 Try.underlying53 _ b n _ rfl HO.out ?_)
          | fail)
        go_wp2
        refine bodyPost_ret (v := .agg #[.slice none 0 0, .int .i64 11]) ?_ rfl F.out
        simp [results, Try.results13, go_sem, z0, z1]
      · have h3i : (Maps.size D : Int) ≤ 300 := by omega
        have hE := HA3.out h3
        clear HA3 HE3
        go_wp2_with (first
          | (at_len; refine wpList_len_own _ rfl _ 53 rfl 62 37 Try.underlying53 _ b n _ rfl HO.out ?_)
          | fail)
        go_wp2_with fail
        refine HRis.out.mono ?_
        rintro e w4 ⟨v, r, rfl, hown4, hperm, hsort, hb⟩
        have er := sorted_is hperm hsort
        obtain ⟨a', c', rfl⟩ := slice_of hown4
        have hb5 := blk_below hb4.out hb
        have hsz3 := (Array.getElem?_eq_some_iff.1 hb4.out).1
        have hown5 : w4.ownsRow (w.heap.size + 1) 37 5 (.slice a' r.length c') r.length (cs r) := by
          rcases hown4.2 with ⟨h1, h2⟩ | ⟨g, cap, cur, h1, h2, h3⟩
          · exact ⟨hown4.1, .inl ⟨h1, h2⟩⟩
          · exact ⟨hown4.1, .inr ⟨g, cap, cur, h1, by omega, h3⟩⟩
        rw [← er] at hE
        have F : Hid (AOwn w (addA l m) _ _) := mkHid (aown_of (a' := a') (n := r.length) (c' := c') (k := 0) (below_trans HB3.out hb) (by rw [hE]) (by rw [hE]) (by rw [hE]; exact hown5))
        obtain ⟨z0, z1⟩ := cel2 hb5
        have uf := unfrozen hb5
        clear hown4 hown5 hperm hsort hb hb5 hE er HB3 hb4 HRis HO hsz hsz3
        go_wp2
        refine bodyPost_ret (v := .agg #[.slice a' r.length c', .int .i64 0]) ?_ rfl F.out
        simp [results, Try.results13, go_sem, z0, z1]
end Go.Proofs.Ytppjbmmeacmoiaa.plc
