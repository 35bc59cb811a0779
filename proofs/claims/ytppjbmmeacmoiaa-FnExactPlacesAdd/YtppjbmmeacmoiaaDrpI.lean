/-
  What impl.PlacesDrop answers and leaves. Conditions: places that lie in memory, of texts of at most 1,048,576 bytes.
-/
import Derived.Test.YtppjbmmeacmoiaaRisI
namespace Go.Proofs.Ytppjbmmeacmoiaa.plc
open Go.RowKit Go.Joins Go.Sort Go.Maps
open Go.Proofs.Ytppjbmmeacmoiaa.base Go.Proofs.Ytppjbmmeacmoiaa.blk Go.Proofs.Ytppjbmmeacmoiaa.aid
open Go.Proofs.Ytppjbmmeacmoiaa.row (Rd Own OwnV appSem app_fold)
open Go.Proofs.Ytppjbmmeacmoiaa.rwPlace (cs el SPost)
set_option linter.unusedVariables false
set_option linter.unusedSimpArgs false

/-- those of other packs -/
def other (k : ByteArray) (p : Pl) : Bool := !(p.2.1.toList == k.toList)
def dropA (l : List Pl) (k : ByteArray) : List Pl := if 20000 < k.size ∨ placesB l = false then [] else l.filter (other k)
def keep (left : Lit → Bool) (k : ByteArray) (p : Pl) : Bool := left (kl (sp p)) || other k p
theorem same_spot {l : List Pl} (ha : Apart l) (hf : Fits l) {p x : Pl} (hp : p ∈ l) (hx : x ∈ l) : (kl (sp p)).sameKey (kl (sp x)) = true ↔ p = x := by
  constructor
  · intro h
    have f1 := hf p hp
    have f2 := hf x hx
    exact inj_on ha hp hx (kl_inj (fit_max f1.1) (fit_max f1.2) (fit_max f2.1) (fit_max f2.2) (WideAt.sameKey_eq h))
  · rintro rfl
    exact WideAt.sameKey_self (a := kl (sp p)) (by exact trivial)
theorem keep_start {D : DataW Unit} {l : List Pl} (hM : HoldsM D l) (k : ByteArray) : l.filter (keep (Maps.has D) k) = l :=
  List.filter_eq_self.2 (fun p hp => by unfold keep; rw [hM.there hp]; rfl)
theorem keep_end {l : List Pl} {left : Lit → Bool} (hl : ∀ k, left k = false) (k : ByteArray) : l.filter (keep left k) = l.filter (other k) := by
  congr 1
  funext p
  unfold keep
  rw [hl]
  rfl
theorem keep_stay {l : List Pl} (ha : Apart l) (hf : Fits l) {left : Lit → Bool} {k : ByteArray} {x : Pl} (hx : x ∈ l) (ho : other k x = true) : l.filter (keep (fun z => left z && !z.sameKey (kl (sp x))) k) = l.filter (keep left k) := by
  apply List.filter_congr
  intro p hp
  unfold keep
  cases hs : (kl (sp p)).sameKey (kl (sp x)) with
  | true =>
    have e := (same_spot ha hf hp hx).1 hs
    subst e
    rw [ho]
    simp
  | false => simp [hs]
theorem keep_drop {D : DataW Unit} {l : List Pl} (ha : Apart l) (hf : Fits l) {left : Lit → Bool} {k : ByteArray} {x : Pl} (hM : HoldsM D (l.filter (keep left k))) (hx : x ∈ l) (hl : left (kl (sp x)) = true) (ho : other k x = false) :
    HoldsM (D.del (kl (sp x))) (l.filter (keep (fun z => left z && !z.sameKey (kl (sp x))) k)) := by
  have hxL : x ∈ l.filter (keep left k) := List.mem_filter.2 ⟨hx, by unfold keep; rw [hl]; rfl⟩
  have h := hM.del (keep (fun z => left z && !z.sameKey (kl (sp x))) k) x hxL (fun p hp => by
    obtain ⟨hp, hk⟩ := List.mem_filter.1 hp
    unfold keep at hk ⊢
    constructor
    · intro h
      rw [Bool.or_eq_false_iff] at h
      rw [h.2, Bool.or_false] at hk
      have h1 := h.1
      simp only [hk, Bool.true_and, Bool.not_eq_false'] at h1
      exact (same_spot ha hf hp hx).1 h1
    · rintro rfl
      have hs := (same_spot ha hf hp hp).2 rfl
      simp only [hs, ho]
      simp)
  rw [List.filter_filter] at h
  have e : l.filter (fun a => keep (fun z => left z && !z.sameKey (kl (sp x))) k a && keep left k a) = l.filter (keep (fun z => left z && !z.sameKey (kl (sp x))) k) := by
    apply List.filter_congr
    intro p hp
    unfold keep
    show ((left (kl (sp p)) && !(kl (sp p)).sameKey (kl (sp x)) || other k p) && (left (kl (sp p)) || other k p)) = ((left (kl (sp p)) && !(kl (sp p)).sameKey (kl (sp x))) || other k p)
    cases left (kl (sp p)) <;> cases (kl (sp p)).sameKey (kl (sp x)) <;> cases other k p <;> rfl
  rw [e] at h
  exact h
theorem rising_filter {l : List Pl} (h : Rising l) (f : Pl → Bool) : Rising (l.filter f) := by
  unfold Rising at *
  exact h.sublist List.filter_sublist
theorem sorted_perm {l r : List Pl} (h : Rising l) (hp : r.Perm l) (hs : r.Pairwise (fun a b => lessP b a = false)) : r = l := by
  have ha : Apart r := by
    unfold Apart
    exact (hp.map sp).nodup_iff.2 (rising_apart h)
  exact rising_uniq (sorted_rising ha hs) h hp
theorem spost_of {w w' : World} {v : Value} {r : List Pl} (h : w'.ownsRow w.heap.size 37 5 v r.length (cs r)) (hb : Below w.heap.size w w') : SPost w r (.returned v) w' := by
  obtain ⟨a, c, rfl⟩ := slice_of h
  refine ⟨a, c, rfl, ?_, ?_, hb, (cap_of h).2⟩
  · rcases h.2 with ⟨h1, h2⟩ | ⟨g, cap, cur, h1, _⟩
    · have h3 := h.1
      rw [h2, Nat.zero_mul] at h3
      exact .inl (List.eq_nil_of_length_eq_zero h3)
    · simp at h1
      obtain ⟨rfl, _⟩ := h1
      exact .inr ⟨g, rfl, Own.owns h⟩
  · intro b o s e
    exact (h.lt b (by rw [e]; rfl)).1
theorem spost_none {w w' : World} (hb : Below w.heap.size w w') : SPost w [] (.returned (.slice none 0 0)) w' :=
  spost_of (World.ownsRow_nil _ _ _ _) hb
/-- what holds on the way -/
structure Ds (w : World) (b r n : Nat) (l : List Pl) (k : ByteArray) (left : Lit → Bool) (cnt : Nat) (D : DataW Unit) (wr : World) : Prop where
  rg : wr.ranges Try.prog 62 R b r n D left cnt
  holds : HoldsM D (l.filter (keep left k))
  below : Below w.heap.size w wr
set_option maxRecDepth 100000 in
set_option maxHeartbeats 2000000 in
theorem dropI_any (a : Option Addr) (c : Nat) (l : List Pl) (k : ByteArray) (w : World) (hl : l.length ≤ 1048576) (hs : Small l) (hk : k.size ≤ 1048576) (hr : Rd w a (cs l)) :
    Calls Try.prog 22 #[.slice a l.length c, .string k] w (SPost w (dropA l k)) := by
  have hki : (k.size : Int) ≤ 1048576 := by omega
  by_cases h2 : 20000 < k.size
  · have E : Hid (dropA l k = []) := mkHid (by unfold dropA; rw [if_pos (.inl h2)])
    have h2i : (20000 : Int) < (k.size : Int) := by omega
    rw [E.out]
    clear hr
    go_enter Try.func22, Try.ntmps22
    go_wp2
    go_ret
    exact spost_none (Below.refl _ _)
  have h2i : (k.size : Int) ≤ 20000 := by omega
  have HR := mkHid (fun wx (hb : Below w.heap.size w wx) => rightI_any a c l wx hl hs (hr.below hb))
  cases hp : placesB l with
  | false =>
    rw [hp] at HR
    have E : Hid (dropA l k = []) := mkHid (by unfold dropA; rw [if_pos (.inr hp)])
    rw [E.out]
    clear hr
    go_enter Try.func22, Try.ntmps22
    go_wp2_with fail
    refine (HR.out _ (Below.refl _ _)).mono ?_
    rintro e w1 ⟨rfl, hbw⟩
    go_wp2
    go_ret
    exact spost_none hbw
  | true =>
    rw [hp] at HR
    obtain ⟨h300, hris, hpl⟩ := (placesB_iff l).1 hp
    have E : Hid (dropA l k = l.filter (other k)) := mkHid (by unfold dropA; rw [if_neg (by rw [hp]; simp; omega)])
    rw [E.out]
    have hap := rising_apart hris
    have hfit : Fits l := hs
    have HBy := mkHid (fun wx (hb : Below w.heap.size w wx) => bySpot_any (some ⟨wx.heap.size, 0, none⟩) 1 [(a, c, l)] (wx.alloc (.cells #[.slice a l.length c] 25)) (by
        intro i u hi
        have h1 := cel1 (blk_new wx (.cells #[.slice a l.length c] 25) wx.heap.size rfl)
        match i, hi with
        | 0, hi => simp [sv] at hi; subst hi; exact ⟨_, 0, rfl, h1⟩
        | i + 1, hi => simp at hi) (by intro x hx; simp at hx; subst hx; exact (hr.below hb).alloc _) (by simp) (by simp [allP]; omega) (by simp [allP]; exact hfit))
    have hall : allP [(a, c, l)] = l := by simp [allP]
    rw [hall, firsts_same hap] at HBy
    have HRis := mkHid hris
    clear hr E hpl
    go_enter Try.func22, Try.ntmps22
    go_wp2_with fail
    refine (HR.out _ (Below.refl _ _)).mono ?_
    rintro e w1 ⟨rfl, hbw⟩
    have B1 := mkHid hbw
    clear hbw HR
    go_wp2_with fail
    refine (HBy.out _ B1.out).mono ?_
    rintro e w2 ⟨b, n, D, rfl, hown, hM, hn, hbb, hbw⟩
    have B2 := mkHid (below_trans B1.out (below_allocs (os := [_]) hbw))
    have HO := mkHid hown
    have HM := mkHid hM
    have hwb : w.heap.size ≤ b := by have := B1.out.size; simp at hbb; omega
    clear hown hM hbw B1 HBy
    go_wp2_with (first
      | (at_range; refine wpList_range_own _ rfl _ 53 rfl 62 37 lawK Try.underlying53 _ b n _ rfl HO.out ?_; intro w0 hrg0 hg0 hs0)
      | fail)
    go_frame
    have S0 : Hid (Ds w b w2.heap.size n l k (Maps.has D) (Maps.size D) D w0) := mkHid ⟨hrg0, by rw [keep_start HM.out]; exact HM.out, below_trans B2.out ⟨hg0.os, hg0.tape, hg0.output, hg0.size, fun j hj => hg0.block j hj (by simp)⟩⟩
    have hw2 : w.heap.size ≤ w2.heap.size := B2.out.size
    clear hrg0 hg0 hs0 HO HM
    go_loopw [6] (fun p wr => ∃ (left : Lit → Bool) (cnt : Nat) (D' : DataW Unit), Hid (Ds w b w2.heap.size n l k left cnt D' wr))
      (fun _ wr => wr.rangeLeft b w2.heap.size)
    case atStart => exact ⟨_, _, _, S0⟩
    case round =>
      obtain ⟨left, cnt, D', S⟩ := hrel
      clear S0
      go_wp2_with (first
        | (at_next; refine wpList_next_pl _ rfl _ rfl b w2.heap.size n D' left cnt rfl S.out.rg _ S.out.holds ?_ ?_)
        | fail)
      · intro hl0
        have hH := S.out.holds
        rw [keep_end hl0] at hH
        have HRs := mkHid (rising_any b n D' _ wr S.out.rg.owns hH (by omega))
        clear hH
        go_wp2_with fail
        refine HRs.out.mono ?_
        rintro e w3 ⟨v, r, rfl, hown3, hperm, hsort, hb3⟩
        have er := sorted_perm (rising_filter HRis.out (other k)) hperm hsort
        subst er
        have F : Hid (SPost w (l.filter (other k)) (.returned v) w3) := mkHid (spost_of (by
          rcases hown3.2 with ⟨h1, h2⟩ | ⟨g, cap, cur, h1, h2, h3⟩
          · exact ⟨hown3.1, .inl ⟨h1, h2⟩⟩
          · exact ⟨hown3.1, .inr ⟨g, cap, cur, h1, Nat.le_trans S.out.below.size h2, h3⟩⟩) (below_trans S.out.below hb3))
        clear hown3 hperm hsort hb3 HRs S
        go_wp2
        go_ret
        exact F.out
      · intro x0 x1 x2 x3 x4 w3 cnt1 hxl hx hlx hrg1 hlt hg1 hs1 hen
        have hfx := hfit _ hxl
        simp only at hfx
        have hleft := S.out.rg.left_eq
        have hbw : Below w.heap.size w w3 := S.out.below.grown hg1 S.out.below.size (fun j hj => by cases hj; exact hw2)
        have b1 := cel2 (blk_new w3 (.cells #[.string x0, .string x1] 62) w3.heap.size rfl)
        obtain ⟨d0, d1⟩ := b1
        cases he : (x1.toList == k.toList) with
        | true =>
          have ho : other k (x0, x1, x2, x3, x4) = false := by unfold other; rw [he]; rfl
          have HD := mkHid (keep_drop hap hfit (x := (x0, x1, x2, x3, x4)) S.out.holds hxl hlx ho)
          have hrg2 := hrg1.alloc (.cells #[.string x0, .string x1] 62)
          have HB := mkHid (hbw.alloc hbw.size (.cells #[.string x0, .string x1] 62))
          clear S hrg1 hx hxl hlx hg1 hbw ho
          go_wp2_with (first
            | (at_delete; refine wpList_delete_ranges _ rfl _ _ 53 62 rfl 37 lawK Try.underlying53 _ b w2.heap.size n _ _ _ rfl hrg2 (.agg #[.string x0, .string x1]) (kl (x0, x1)) rfl (keyOf_spot (x0, x1) (fit_max hfx.1) (fit_max hfx.2)) ?_; intro w4 cnt2 hrg3 hle hturn; go_frame)
            | fail)
          rw [strike_twice] at hrg3
          have N1 : Hid (Ds w b w2.heap.size n l k (fun z => left z && !z.sameKey (kl (x0, x1))) cnt2 (D'.del (kl (x0, x1))) w4) := mkHid ⟨hrg3, HD.out, HB.out.grown hturn.grown HB.out.size (fun j hj => by cases hj; exact hwb)⟩
          have HL1 := mkHid (show w4.rangeLeft b w2.heap.size < wr.rangeLeft b w2.heap.size by rw [hrg3.left_eq, hleft]; omega)
          clear hrg2 hrg3 hturn HB HD hleft
          go_roundw
          case rel => exact ⟨_, cnt2, _, N1⟩
          case measure => exact HL1.out
        | false =>
          have ho : other k (x0, x1, x2, x3, x4) = true := by unfold other; rw [he]; rfl
          have N1 : Hid (Ds w b w2.heap.size n l k (fun z => left z && !z.sameKey (kl (x0, x1))) cnt1 D' (w3.alloc (.cells #[.string x0, .string x1] 62))) := mkHid ⟨hrg1.alloc _, by
            have e := keep_stay hap hfit (left := left) (k := k) (x := (x0, x1, x2, x3, x4)) hxl ho
            rw [e]
            exact S.out.holds, hbw.alloc hbw.size _⟩
          have HL1 := mkHid (show (w3.alloc (.cells #[.string x0, .string x1] 62)).rangeLeft b w2.heap.size < wr.rangeLeft b w2.heap.size by rw [(hrg1.alloc _).left_eq, hleft]; exact hlt)
          clear S hrg1 hx hxl hlx hg1 hbw ho hleft
          go_wp2
          go_roundw
          case rel => exact ⟨_, cnt1, _, N1⟩
          case measure => exact HL1.out
end Go.Proofs.Ytppjbmmeacmoiaa.plc
