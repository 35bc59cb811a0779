/-
  What impl.isKind answers. No condition.
  What impl.placeRight and impl.PlacesRight answer and leave. Conditions: places that lie in memory, of texts of at most 1,048,576 bytes.
  What impl.copyPlace, and the function that impl.findKey hands on answer and leave. Conditions: places that lie in memory, of texts of at most 1,048,576 bytes.
  slices.SortFunc of a row of places of our own, by impl.comparePlaces, in words of what it owns. Condition: at most 1,048,576 places.
  What impl.rising answers and leaves. Conditions: at most 1,048,576 places, of texts of at most 1,048,576 bytes.
  What impl.PlacesDrop answers and leaves. Conditions: places that lie in memory, of texts of at most 1,048,576 bytes.
  What impl.PlacesAdd answers and leaves. Conditions: places that lie in memory, of texts of at most 1,048,576 bytes.
  Facts of places in plain words: right ones are read back from their bytes; put together either way they stand at the same spots; what is found has the key; what is left has another pack. No condition.
-/
import Derived.Test.YtmoojhnblakdhaaGreatAid
import Derived.Test.YtmoojhnblakdhaaGreatZPlaA
import Derived.Test.YtmoojhnblakdhaaGreatZTxtA
import Derived.Test.YtmoojhnblakdhaaGreatSlLay
import Derived.Shelf.SlSortCmp.NoneTotal
namespace Go.Proofs.YtmoojhnblakdhaaGreat.kind
open Go.RowKit Go.Joins
open Go.Proofs.YtmoojhnblakdhaaGreat.base Go.Proofs.YtmoojhnblakdhaaGreat.blk Go.Proofs.YtmoojhnblakdhaaGreat.aid
set_option linter.unusedVariables false

def kindB (k : Int) : Bool := decide (k = 1) || decide (k = 2)
theorem kind_any (k : Int) (w : World) :
    Calls Tryz.prog 56 #[.int .i64 k] w fun e w' => e = .returned (.bool (kindB k)) ∧ w' = w := by
  by_cases h1 : k = 1
  · subst h1
    go_enter Tryz.func56, Tryz.ntmps56
    go_wp2
    go_ret
    exact ⟨rfl, rfl⟩
  by_cases h2 : k = 2
  · subst h2
    go_enter Tryz.func56, Tryz.ntmps56
    go_wp2
    go_ret
    exact ⟨rfl, rfl⟩
  have e1 : (k == 1) = false := by simpa using h1
  have e2 : (k == 2) = false := by simpa using h2
  have e : kindB k = false := by simp [kindB, h1, h2]
  rw [e]
  go_enter Tryz.func56, Tryz.ntmps56
  go_wp2
  go_ret
  exact ⟨rfl, rfl⟩
end Go.Proofs.YtmoojhnblakdhaaGreat.kind
namespace Go.Proofs.YtmoojhnblakdhaaGreat.plc
open Go.RowKit Go.Joins Go.Sort
open Go.Proofs.YtmoojhnblakdhaaGreat.base Go.Proofs.YtmoojhnblakdhaaGreat.blk Go.Proofs.YtmoojhnblakdhaaGreat.aid
open Go.Proofs.YtmoojhnblakdhaaGreat.ord
open Go.Proofs.YtmoojhnblakdhaaGreat.obj (objB objB_small)
open Go.Proofs.YtmoojhnblakdhaaGreat.row (Rd Own OwnV)
open Go.Proofs.YtmoojhnblakdhaaGreat.rwPlace (cs el)
set_option linter.unusedVariables false

set_option maxRecDepth 100000 in
set_option maxHeartbeats 1000000 in
theorem placeRight_any (x0 x1 : ByteArray) (x2 x3 x4 : Int) (w : World) (h1 : x1.size ≤ 1048576) :
    Calls Tryz.prog 31 #[.agg #[.string x0, .string x1, .int .i64 x2, .int .i64 x3, .int .i64 x4]] w fun e w' => e = .returned (.bool (plB (x0, x1, x2, x3, x4))) ∧ w' = w.alloc (.cells #[.string x0, .string x1, .int .i64 x2, .int .i64 x3, .int .i64 x4] 33) := by
  have HN := mkHid (fun wx => obj.objI_any x1 wx h1)
  have HK := mkHid (fun wx => kind.kind_any x2 wx)
  have hkb : kind.kindB x2 = (decide (x2 = 1) || decide (x2 = 2)) := rfl
  by_cases s1 : x0.size = 32
  rotate_left
  · have s1i : ((x0.size : Int) == 32) = false := by simp; omega
    have E : plB (x0, x1, x2, x3, x4) = false := by simp [plB, s1]
    rw [E]
    clear E s1 HN HK
    go_enter Tryz.func31, Tryz.ntmps31
    go_wp2_with fail
    go_ret
    exact ⟨rfl, rfl⟩
  have s1i : ((x0.size : Int) == 32) = true := by simp; omega
  cases hn : objB x1 with
  | false =>
    rw [hn] at HN
    have E : plB (x0, x1, x2, x3, x4) = false := by simp [plB, hn]
    rw [E]
    clear E s1 HK
    go_enter Tryz.func31, Tryz.ntmps31
    go_wp2_with fail
    refine (HN.out _).mono ?_
    rintro e w1 ⟨rfl, rfl⟩
    go_wp2
    go_ret
    exact ⟨rfl, rfl⟩
  | true =>
    rw [hn] at HN
    cases hk : kind.kindB x2 with
    | false =>
      rw [hk] at HK
      have E : plB (x0, x1, x2, x3, x4) = false := by unfold plB; rw [← hkb, hk]; simp
      rw [E]
      clear E s1
      go_enter Tryz.func31, Tryz.ntmps31
      go_wp2_with fail
      refine (HN.out _).mono ?_
      rintro e w1 ⟨rfl, rfl⟩
      go_wp2_with fail
      refine (HK.out _).mono ?_
      rintro e w1 ⟨rfl, rfl⟩
      go_wp2
      go_ret
      exact ⟨rfl, rfl⟩
    | true =>
      rw [hk] at HK
      by_cases u1 : x3 < 0
      · have E : plB (x0, x1, x2, x3, x4) = false := by simp [plB]; omega
        rw [E]
        clear E s1 hkb hk
        go_enter Tryz.func31, Tryz.ntmps31
        go_wp2_with fail
        refine (HN.out _).mono ?_
        rintro e w1 ⟨rfl, rfl⟩
        go_wp2_with fail
        refine (HK.out _).mono ?_
        rintro e w1 ⟨rfl, rfl⟩
        go_wp2
        go_ret
        exact ⟨rfl, rfl⟩
      have u1' : 0 ≤ x3 := by omega
      by_cases u2 : 12000 < x3
      · have E : plB (x0, x1, x2, x3, x4) = false := by simp [plB]; omega
        rw [E]
        clear E s1 hkb hk u1
        go_enter Tryz.func31, Tryz.ntmps31
        go_wp2_with fail
        refine (HN.out _).mono ?_
        rintro e w1 ⟨rfl, rfl⟩
        go_wp2_with fail
        refine (HK.out _).mono ?_
        rintro e w1 ⟨rfl, rfl⟩
        go_wp2
        go_ret
        exact ⟨rfl, rfl⟩
      have u2' : x3 ≤ 12000 := by omega
      by_cases u3 : x4 < 0
      · have E : plB (x0, x1, x2, x3, x4) = false := by simp [plB]; omega
        rw [E]
        clear E s1 hkb hk u1 u2
        go_enter Tryz.func31, Tryz.ntmps31
        go_wp2_with fail
        refine (HN.out _).mono ?_
        rintro e w1 ⟨rfl, rfl⟩
        go_wp2_with fail
        refine (HK.out _).mono ?_
        rintro e w1 ⟨rfl, rfl⟩
        go_wp2
        go_ret
        exact ⟨rfl, rfl⟩
      have u3' : 0 ≤ x4 := by omega
      by_cases u4 : 2000 < x4
      · have E : plB (x0, x1, x2, x3, x4) = false := by simp [plB]; omega
        rw [E]
        clear E s1 hkb hk u1 u2 u3
        go_enter Tryz.func31, Tryz.ntmps31
        go_wp2_with fail
        refine (HN.out _).mono ?_
        rintro e w1 ⟨rfl, rfl⟩
        go_wp2_with fail
        refine (HK.out _).mono ?_
        rintro e w1 ⟨rfl, rfl⟩
        go_wp2
        go_ret
        exact ⟨ret_eq (by simp; omega), rfl⟩
      have u4' : x4 ≤ 2000 := by omega
      have E : plB (x0, x1, x2, x3, x4) = true := plB_of s1 hn (by rw [hkb] at hk; simpa using hk) u1' u2' u3' u4'
      rw [E]
      clear E s1 hkb hk u1 u2 u3 u4
      go_enter Tryz.func31, Tryz.ntmps31
      go_wp2_with fail
      refine (HN.out _).mono ?_
      rintro e w1 ⟨rfl, rfl⟩
      go_wp2_with fail
      refine (HK.out _).mono ?_
      rintro e w1 ⟨rfl, rfl⟩
      go_wp2
      go_ret
      exact ⟨rfl, rfl⟩
theorem placeRight_grown (x0 x1 : ByteArray) (x2 x3 x4 : Int) (w : World) (h1 : x1.size ≤ 1048576) (b : Bool) (hb : plB (x0, x1, x2, x3, x4) = b) :
    Calls Tryz.prog 31 #[.agg #[.string x0, .string x1, .int .i64 x2, .int .i64 x3, .int .i64 x4]] w fun e w' => e = .returned (.bool b) ∧ ∃ q os', w' = grow (w.drewN q) os' :=
  (placeRight_any x0 x1 x2 x3 x4 w h1).mono (fun e w' h => ⟨by rw [h.1, hb], by rw [h.2]; exact alloc_grown w _⟩)
theorem cmp_grown (a b : Pl) (w : World) (r : Int) (hr : cmpP a b = r) :
    Calls Tryz.prog 32 #[.agg #[.string a.1, .string a.2.1, .int .i64 a.2.2.1, .int .i64 a.2.2.2.1, .int .i64 a.2.2.2.2], .agg #[.string b.1, .string b.2.1, .int .i64 b.2.2.1, .int .i64 b.2.2.2.1, .int .i64 b.2.2.2.2]] w fun e w' => e = .returned (.int .i64 r) ∧ ∃ q os', w' = grow (w.drewN q) os' :=
  (comparePlaces_any a b w).mono (fun e w' h => ⟨by rw [h.1, hr], by rw [h.2]; exact alloc2_grown w _ _⟩)

set_option maxRecDepth 100000 in
set_option maxHeartbeats 2000000 in
theorem rightI_any (a : Option Addr) (c : Nat) (l : List Pl) (w : World) (hl : l.length ≤ 1048576) (hs : Small l) (hr : Rd w a (cs l)) :
    Calls Tryz.prog 8 #[.slice a l.length c] w fun e w' => e = .returned (.bool (placesB l)) ∧ Below w.heap.size w w' := by
  by_cases h1 : 300 < l.length
  · have E : Hid (placesB l = false) := mkHid (by unfold placesB; simp; omega)
    have h1i : (300 : Int) < (l.length : Int) := by omega
    go_enter Tryz.func8, Tryz.ntmps8
    go_wp2_with fail
    go_ret
    exact ⟨ret_eq (by rw [E.out]; rfl), Below.refl _ _⟩
  have h1i : (l.length : Int) ≤ 300 := by omega
  have HP : Hid (placesB l = plsB none l) := mkHid (by unfold placesB; rw [decide_eq_true (by omega), Bool.true_and])
  go_enter Tryz.func8, Tryz.ntmps8
  have hmx := mixed
  go_wp2_with fail
  go_loopw [3, 4, 10] (fun i0 f i wr => ∃ k : Nat, k ≤ l.length ∧ i = .int .i64 k ∧ Hid (plsB none l = plsB (before l k) (l.drop k)) ∧ Hid (Below w.heap.size w wr))
    (fun _ _ i _ => l.length - (intOf i).toNat)
  case atStart => exact ⟨0, Nat.zero_le _, rfl, mkHid (by simp [before]), mkHid (Below.refl _ _)⟩
  case round =>
    obtain ⟨k, hk, rfl, hF, hbel⟩ := hrel
    have hr1 := hr.below hbel.out
    by_cases hlt : k < l.length
    · have hlti : (k : Int) < (l.length : Int) := by omega
      obtain ⟨⟨x0, x1, x2, x3, x4⟩, hx⟩ : ∃ y, l[k]? = some y := ⟨_, List.getElem?_eq_getElem hlt⟩
      obtain ⟨g1, o1, rfl, c0, c1, c2, c3, c4, l1⟩ := el hr1 hx
      have hst := plsB_step l k _ hx
      simp only at c0 c1 c2 c3 c4
      go_wp2_with fail
      obtain ⟨f0, f1, f2, f3, f4⟩ := cel5 (blk_new wr (.cells #[.string x0, .string x1, .int .i64 x2, .int .i64 x3, .int .i64 x4] 33) wr.heap.size rfl)
      have hwr := hbel.out.size
      have HV := mkHid (hbel.out.alloc (by omega) (.cells #[.string x0, .string x1, .int .i64 x2, .int .i64 x3, .int .i64 x4] 33))
      have hr3 := hr1.alloc (.cells #[.string x0, .string x1, .int .i64 x2, .int .i64 x3, .int .i64 x4] 33)
      have hVs : (wr.alloc (.cells #[.string x0, .string x1, .int .i64 x2, .int .i64 x3, .int .i64 x4] 33)).heap.size = wr.heap.size + 1 := by simp
      generalize wr.alloc (.cells #[.string x0, .string x1, .int .i64 x2, .int .i64 x3, .int .i64 x4] 33) = V at *
      have F0 := fun n os => cell_grown (n := n) (os := os) (by show wr.heap.size < V.heap.size; omega) f0
      have F1 := fun n os => cell_grown (n := n) (os := os) (by show wr.heap.size < V.heap.size; omega) f1
      have F2 := fun n os => cell_grown (n := n) (os := os) (by show wr.heap.size < V.heap.size; omega) f2
      have F3 := fun n os => cell_grown (n := n) (os := os) (by show wr.heap.size < V.heap.size; omega) f3
      have F4 := fun n os => cell_grown (n := n) (os := os) (by show wr.heap.size < V.heap.size; omega) f4
      have hsx := hs _ (List.mem_of_getElem? hx)
      simp only at hsx
      have HS : Hid (∀ (wx : World) (b : Bool), plB (x0, x1, x2, x3, x4) = b → Calls Tryz.prog 31 #[.agg #[.string x0, .string x1, .int .i64 x2, .int .i64 x3, .int .i64 x4]] wx fun e w' => e = .returned (.bool b) ∧ ∃ q os', w' = grow (wx.drewN q) os') := mkHid (fun wx b hb => placeRight_grown x0 x1 x2 x3 x4 wx hsx.2 b hb)
      have HBad : Hid ((plB (x0, x1, x2, x3, x4) && aft (before l k) (x0, x1, x2, x3, x4)) = false → placesB l = false) := mkHid (fun h => by rw [HP.out, hF.out, hst, h, Bool.false_and])
      have HGood : Hid ((plB (x0, x1, x2, x3, x4) && aft (before l k) (x0, x1, x2, x3, x4)) = true → plsB none l = plsB (before l (k + 1)) (l.drop (k + 1))) := mkHid (fun h => by rw [hF.out, hst, h, Bool.true_and])
      have HO := mkHid (ahead l k hlt)
      have HB2 : Hid (∀ n os, Below w.heap.size w (grow (V.drewN n) os)) := mkHid (fun n os => below_grow os HV.out (by omega))
      have HR := mkHid hr3
      clear hr1 c0 c1 c2 c3 c4 hst hF hx hr3 f0 f1 f2 f3 f4
      cases hn : plB (x0, x1, x2, x3, x4) with
      | false =>
        have E := mkHid (HBad.out (by rw [hn]; rfl))
        have HS1 := mkHid (fun wx => HS.out wx _ hn)
        clear HBad HGood HO HR HS hn
        refine wp_region_quiet_grown mixed (by kernel_rfl) ?_
        repeat (go_big_quiet_step ((go_at_call 31; refine Calls.grown_of (HS1.out _))))
        refine wpQuiet_nil ?_
        intro _ hw'
        obtain ⟨⟨nq, osq⟩, hw''⟩ := hw'
        subst hw''
        go_wp2
        go_ret
        exact ⟨ret_eq (by rw [E.out]; rfl), HB2.out _ _⟩
      | true =>
        have HS1 := mkHid (fun wx => HS.out wx _ hn)
        rw [hn, Bool.true_and] at HBad HGood
        clear HS
        rcases HO.out with ⟨k0, hb0⟩ | ⟨j, ⟨p0, p1, p2, p3, p4⟩, k1, hb0, hp⟩
        · have z1 : (0 < k) = False := by simp [k0]
          have z2 : (0 < (k : Int)) = False := by simp [k0]
          have N1 := mkHid (HGood.out (by rw [hb0]; rfl))
          clear HO HBad HGood HR hn k0 hb0
          refine wp_region_quiet_grown mixed (by kernel_rfl) ?_
          repeat (go_big_quiet_step ((go_at_call 31; refine Calls.grown_of (HS1.out _))))
          refine wpQuiet_nil ?_
          intro _ hw'
          obtain ⟨⟨nq, osq⟩, hw''⟩ := hw'
          subst hw''
          go_wp2
          go_roundw
          case rel => exact ⟨k + 1, by omega, by go_num, N1, mkHid (HB2.out _ _)⟩
          case measure => simp [intOf]; omega
        · have z1 : (0 < k) = True := by simp [k1]
          have z2 : (0 < (k : Int)) = True := by simp [k1]
          have z3 : IntKind.i64.wrap ((k : Int) - 1) = (j : Int) := by rw [show (k : Int) - 1 = (j : Int) by omega, IntKind.wrap_i64]; omega
          have z4 : (j : Int) < (l.length : Int) := by omega
          obtain ⟨g2, o2, hg2, pc0, pc1, pc2, pc3, pc4, pl⟩ := el HR.out hp
          obtain ⟨rfl, rfl⟩ : g1 = g2 ∧ o1 = o2 := by injection hg2 with e; injection e with e1 e2; exact ⟨e1, e2⟩
          simp only at pc0 pc1 pc2 pc3 pc4
          have P0 := fun n os => cell_grown (n := n) (os := os) pl pc0
          have P1 := fun n os => cell_grown (n := n) (os := os) (a := ⟨g1, o1 + j * 5 + 1, none⟩) pl pc1
          have P2 := fun n os => cell_grown (n := n) (os := os) (a := ⟨g1, o1 + j * 5 + 2, none⟩) pl pc2
          have P3 := fun n os => cell_grown (n := n) (os := os) (a := ⟨g1, o1 + j * 5 + 3, none⟩) pl pc3
          have P4 := fun n os => cell_grown (n := n) (os := os) (a := ⟨g1, o1 + j * 5 + 4, none⟩) pl pc4
          have HC1 := mkHid (fun wx => cmp_grown (p0, p1, p2, p3, p4) (x0, x1, x2, x3, x4) wx _ rfl)
          cases hless : lessP (p0, p1, p2, p3, p4) (x0, x1, x2, x3, x4) with
          | false =>
            have E := mkHid (HBad.out (by rw [hb0]; exact hless))
            have hz := (cmpP_nonneg _ _).2 hless
            have hz2 : (0 ≤ cmpP (p0, p1, p2, p3, p4) (x0, x1, x2, x3, x4)) = True := eq_true hz
            generalize cmpP (p0, p1, p2, p3, p4) (x0, x1, x2, x3, x4) = z at *
            clear HO hg2 hp k1 HR pc0 pc1 pc2 pc3 pc4 HBad HGood hn hless hb0 hz
            refine wp_region_quiet_grown mixed (by kernel_rfl) ?_
            repeat (go_big_quiet_step (first | (go_at_call 31; refine Calls.grown_of (HS1.out _)) | (go_at_call 32; refine Calls.grown_of (HC1.out _))))
            refine wpQuiet_nil ?_
            intro _ hw'
            obtain ⟨⟨nq, osq⟩, hw''⟩ := hw'
            subst hw''
            go_wp2
            go_ret
            exact ⟨ret_eq (by rw [E.out]; rfl), HB2.out _ _⟩
          | true =>
            have N1 := mkHid (HGood.out (by rw [hb0]; exact hless))
            have hz := (cmpP_neg _ _).2 hless
            have hz2 : (0 ≤ cmpP (p0, p1, p2, p3, p4) (x0, x1, x2, x3, x4)) = False := eq_false (by omega)
            generalize cmpP (p0, p1, p2, p3, p4) (x0, x1, x2, x3, x4) = z at *
            clear HO hg2 hp k1 HR pc0 pc1 pc2 pc3 pc4 HBad HGood hn hless hb0 hz
            refine wp_region_quiet_grown mixed (by kernel_rfl) ?_
            repeat (go_big_quiet_step (first | (go_at_call 31; refine Calls.grown_of (HS1.out _)) | (go_at_call 32; refine Calls.grown_of (HC1.out _))))
            refine wpQuiet_nil ?_
            intro _ hw'
            obtain ⟨⟨nq, osq⟩, hw''⟩ := hw'
            subst hw''
            go_wp2
            go_roundw
            case rel => exact ⟨k + 1, by omega, by go_num, N1, mkHid (HB2.out _ _)⟩
            case measure => simp [intOf]; omega
    · obtain rfl : k = l.length := by omega
      have E : Hid (placesB l = true) := mkHid (by rw [HP.out, hF.out, List.drop_of_length_le (Nat.le_refl _), plsB])
      clear hr1 hF
      go_wp2
      go_ret
      exact ⟨ret_eq (by rw [E.out]; rfl), hbel.out⟩
end Go.Proofs.YtmoojhnblakdhaaGreat.plc
namespace Go.Proofs.YtmoojhnblakdhaaGreat.plc
open Go.RowKit Go.Joins Go.Sort
open Go.Proofs.YtmoojhnblakdhaaGreat.base Go.Proofs.YtmoojhnblakdhaaGreat.blk Go.Proofs.YtmoojhnblakdhaaGreat.aid
open Go.Proofs.YtmoojhnblakdhaaGreat.ord
open Go.Proofs.YtmoojhnblakdhaaGreat.row (Rd Own OwnV)
open Go.Proofs.YtmoojhnblakdhaaGreat.rwPlace (cs el)
set_option linter.unusedVariables false
set_option linter.unusedSimpArgs false

set_option maxRecDepth 100000 in
set_option maxHeartbeats 1000000 in
theorem copyPlace_any (x0 x1 : ByteArray) (x2 x3 x4 : Int) (w : World) (h0 : x0.size ≤ 1048576) (h1 : x1.size ≤ 1048576) :
    Calls Tryz.prog 36 #[.agg #[.string x0, .string x1, .int .i64 x2, .int .i64 x3, .int .i64 x4]] w fun e w' => e = .returned (.agg #[.string x0, .string x1, .int .i64 x2, .int .i64 x3, .int .i64 x4]) ∧ Below w.heap.size w w' := by
  have hC0 := mkHid (fun wx => clone.clone_any x0 wx h0)
  have hC1 := mkHid (fun wx => clone.clone_any x1 wx h1)
  have b1 := mkHid (blk_old (blk_new w (.cells #[.string x0, .string x1, .int .i64 x2, .int .i64 x3, .int .i64 x4] 33) w.heap.size rfl) zeroO)
  have b2 := mkHid (blk_new (w.alloc (.cells #[.string x0, .string x1, .int .i64 x2, .int .i64 x3, .int .i64 x4] 33)) zeroO (w.heap.size + 1) (by simp))
  have HB0 := mkHid (rwPlace.below2 w (.cells #[.string x0, .string x1, .int .i64 x2, .int .i64 x3, .int .i64 x4] 33) zeroO)
  unfold zeroO at b1 b2 HB0
  go_enter Tryz.func36, Tryz.ntmps36
  go_wp2_with fail
  refine (hC0.out _).mono ?_
  rintro e w1 ⟨rfl, hb⟩
  have d1 := mkHid (blk_below b1.out hb)
  have d2 := mkHid (blk_below b2.out hb)
  have HB1 := mkHid (below_trans HB0.out hb)
  clear hb b1 b2 HB0 hC0
  obtain ⟨e0, e1, e2, e3, e4⟩ := cel5 d1.out
  have uf := unfrozen d1.out
  have D1 := mkHid (show (w1.setCell ⟨w.heap.size, 0, none⟩ (.string x0)).heap[w.heap.size]? = some (.cells #[.string x0, .string x1, .int .i64 x2, .int .i64 x3, .int .i64 x4] 33) by
    have h := heap_setCell_same w1 w.heap.size 0 _ _ (.string x0) d1.out
    simpa using h)
  have D2 := mkHid (show (w1.setCell ⟨w.heap.size, 0, none⟩ (.string x0)).heap[w.heap.size + 1]? = some (.cells #[.string ⟨#[]⟩, .string ⟨#[]⟩, .int .i64 0, .int .i64 0, .int .i64 0] 33) from blk_set d2.out _ _ (by simp))
  have HB2 := mkHid (HB1.out.setCell (p := ⟨w.heap.size, 0, none⟩) (Nat.le_refl _) (.string x0))
  clear d2 HB1
  go_wp2_with fail
  refine (hC1.out _).mono ?_
  rintro e w2 ⟨rfl, hb⟩
  clear e0 e1 e2 e3 e4 uf d1
  have d1 := mkHid (blk_below D1.out hb)
  have d2 := mkHid (blk_below D2.out hb)
  have HB3 := mkHid (below_trans HB2.out hb)
  clear hb D1 D2 HB2 hC1
  obtain ⟨e0, e1, e2, e3, e4⟩ := cel5 d1.out
  have uf := unfrozen d1.out
  obtain ⟨z0, z1, z2, z3, z4⟩ := cel5 d2.out
  have uf2 := unfrozen d2.out
  have HB4 := mkHid (HB3.out.setCell (p := ⟨w.heap.size, 1, none⟩) (Nat.le_refl _) (.string x1))
  have HB := mkHid (below5 HB4.out (g := w.heap.size + 1) (by omega) (.string x0) (.string x1) (.int .i64 x2) (.int .i64 x3) (.int .i64 x4))
  clear HB3 HB4 d1 d2
  go_wp2
  refine bodyPost_ret (v := .agg #[.string x0, .string x1, .int .i64 x2, .int .i64 x3, .int .i64 x4]) ?_ rfl ?_
  rotate_left
  · exact ⟨rfl, HB.out⟩
  · simp [results, Tryz.results36, go_sem, z0, z1, z2, z3, z4]

abbrev enc (p : Pl) : List Value := [.string p.1, .string p.2.1, .int .i64 p.2.2.1, .int .i64 p.2.2.2.1, .int .i64 p.2.2.2.2]
theorem enc_len (p : Pl) : (enc p).length = 5 := rfl
theorem enc_one (p : Pl) : ∀ v ∈ enc p, v.oneCell' = true := by
  intro v hv
  simp [enc] at hv
  rcases hv with rfl | rfl | rfl | rfl | rfl <;> rfl
/-- the function that is handed on: has it the key? -/
theorem keyIs_any (k : ByteArray) (B : Nat) (w : World) (hB : B < w.heap.size) (hcell : w.cell? ⟨B, 0, none⟩ = some (.string k)) :
    PredBelow Tryz.prog 63 #[.pointer (some ⟨B, 0, none⟩)] (fun x => .agg (enc x).toArray) (fun x : Pl => x.1.toList == k.toList) w := fun W x hb => by
  have hc : W.cell? ⟨B, 0, none⟩ = some (.string k) := (hb.cell (p := ⟨B, 0, none⟩) hB).trans hcell
  have hBW : B < W.heap.size := Nat.lt_of_lt_of_le hB hb.size
  have hne : B ≠ W.heap.size := by omega
  obtain ⟨x0, x1, x2, x3, x4⟩ := x
  show Calls Tryz.prog 63 #[.agg #[.string x0, .string x1, .int .i64 x2, .int .i64 x3, .int .i64 x4], .pointer (some ⟨B, 0, none⟩)] W _
  go_enter Tryz.func63, Tryz.ntmps63
  go_wp2
  all_goals (go_ret; exact ⟨rfl, hb.alloc hb.size _⟩)
theorem idx_is (l : List Pl) (k : ByteArray) : (findP l k = none ∧ Lib.idxBy (fun _ (y : Pl) => y.1.toList == k.toList) (l.take l.length) default = -1) ∨
    ∃ (i : Nat) (p : Pl), findP l k = some p ∧ l[i]? = some p ∧ Lib.idxBy (fun _ (y : Pl) => y.1.toList == k.toList) (l.take l.length) default = (i : Int) := by
  cases hf : findP l k with
  | none =>
    refine .inl ⟨rfl, Lib.idxBy_miss _ _ _ _ (fun j hj => ?_)⟩
    unfold findP at hf
    rw [List.find?_eq_none] at hf
    have := hf l[j] (List.getElem_mem hj)
    rw [getElem!_pos l j hj]
    simpa using this
  | some p =>
    unfold findP at hf
    rw [List.find?_eq_some_iff_getElem] at hf
    obtain ⟨hp, i, hi, he, hn⟩ := hf
    refine .inr ⟨i, p, rfl, by rw [List.getElem?_eq_getElem hi, he], Lib.idxBy_hit _ _ _ _ _ hi (Nat.le_refl _) (by rw [getElem!_pos l i hi, he]; exact hp) (fun j hj => ?_)⟩
    have := hn j hj
    rw [getElem!_pos l j (by omega)]
    simpa using this
theorem index_any (a : Option Addr) (c : Nat) (l : List Pl) (k : ByteArray) (B : Nat) (w : World) (hl : l.length ≤ 1048576) (hne : l ≠ []) (hB : B < w.heap.size) (hcell : w.cell? ⟨B, 0, none⟩ = some (.string k)) (hr : Rd w a (cs l)) :
    Calls Tryz.prog 62 #[.slice a l.length c, .func (.func 63) #[] #[.pointer (some ⟨B, 0, none⟩)]] w fun e w' =>
      e = .returned (.int .i64 (Lib.idxBy (fun _ (y : Pl) => y.1.toList == k.toList) (l.take l.length) default)) ∧ Below w.heap.size w w' := by
  have eg : ∀ args w, (callFunc 63 args).run Tryz.prog w = .ok (.enter 63 args) w := enters_of Tryz.func63 (by kernel_rfl) rfl
  obtain ⟨x, hx⟩ : ∃ x, l[0]? = some x := by
    cases l with
    | nil => exact absurd rfl hne
    | cons x r => exact ⟨x, rfl⟩
  obtain ⟨g, o, rfl, _, _, _, _, _, hg⟩ := el hr hx
  have hcon := AnyQ.slices_IndexFunc Tryz.idxPl 5 Tryz.isAgg33 Tryz.sizeOf33 enc enc_len (fun x : Pl => x.1.toList == k.toList) 63 #[.pointer (some ⟨B, 0, none⟩)] eg g o l.length c l w (keyIs_any k B w hB hcell) (Nat.le_refl _) (by omega) hg (fun j hj i v hi => by
    have hj2 : l[j]? = some l[j] := List.getElem?_eq_getElem hj
    obtain ⟨g', o', e, c0, c1, c2, c3, c4, _⟩ := el hr hj2
    simp at e
    obtain ⟨rfl, rfl⟩ := e
    rw [getElem!_pos l j hj] at hi
    generalize l[j] = y at *
    match i, hi with
    | 0, hi => simp [enc] at hi; rw [← hi]; exact c0
    | 1, hi => simp [enc] at hi; rw [← hi]; exact c1
    | 2, hi => simp [enc] at hi; rw [← hi]; exact c2
    | 3, hi => simp [enc] at hi; rw [← hi]; exact c3
    | 4, hi => simp [enc] at hi; rw [← hi]; exact c4
    | i + 5, hi => simp [enc] at hi)
  exact hcon
end Go.Proofs.YtmoojhnblakdhaaGreat.plc
namespace Go.Proofs.YtmoojhnblakdhaaGreat.plc
open Go.RowKit Go.Joins Go.Sort
open Go.Proofs.YtmoojhnblakdhaaGreat.base Go.Proofs.YtmoojhnblakdhaaGreat.blk Go.Proofs.YtmoojhnblakdhaaGreat.aid
open Go.Proofs.YtmoojhnblakdhaaGreat.row (Rd Own OwnV appSem app_fold)
open Go.Proofs.YtmoojhnblakdhaaGreat.rwPlace (cs el)
set_option linter.unusedVariables false
set_option linter.unusedSimpArgs false

theorem lt_is (x y : Pl) : ltOf cmpP x y = lessP x y := by
  unfold ltOf
  cases h : lessP x y with
  | true => exact decide_eq_true ((cmpP_neg x y).2 h)
  | false => exact decide_eq_false (by have := (cmpP_nonneg x y).2 h; omega)
theorem swo : SWO (ltOf cmpP) where
  irrefl x := by rw [lt_is]; exact lessS_irr _
  trans x y z h1 h2 := by rw [lt_is] at *; exact lessS_trans h1 h2
  ntrans x y z h1 h2 := by
    rw [lt_is] at *
    unfold lessP at *
    by_cases e : sp x = sp y
    · rw [e]; exact h2
    · have h3 := lessS_total h1 e
      cases h : lessS (sp x) (sp z) with
      | false => rfl
      | true => rw [lessS_trans h3 h] at h2; cases h2
theorem flat_is (d : Array Pl) : flatK enc 5 d = (cs d.toList).toArray := by
  refine ext_get! (by simp [rwPlace.cs_len]; omega) fun t ht => ?_
  have ht' : t < d.size * 5 := by simpa using ht
  rw [get_flatK _ _ _ t ht']
  have hi : t / 5 < d.size := by omega
  have hx : d.toList[t / 5]? = some d[t / 5] := by simp [hi]
  obtain ⟨h0, h1, h2, h3, h4⟩ := rwPlace.cs_at _ _ _ hx
  rw [getElem!_pos d (t / 5) hi]
  have hlt : t < (cs d.toList).toArray.size := by simp [rwPlace.cs_len]; omega
  rw [getElem!_pos _ t hlt]
  generalize d[t / 5] = x at *
  have key : ∀ v, (cs d.toList)[t]? = some v → (cs d.toList).toArray[t]'hlt = v := fun v hv => by
    have := (List.getElem?_eq_some_iff.1 hv).2
    simpa using this
  rcases (show t % 5 = 0 ∨ t % 5 = 1 ∨ t % 5 = 2 ∨ t % 5 = 3 ∨ t % 5 = 4 by omega) with h | h | h | h | h
  · have e : t / 5 * 5 = t := by omega
    rw [e] at h0
    rw [key _ h0, h]; rfl
  · have e : t / 5 * 5 + 1 = t := by omega
    rw [e] at h1
    rw [key _ h1, h]; rfl
  · have e : t / 5 * 5 + 2 = t := by omega
    rw [e] at h2
    rw [key _ h2, h]; rfl
  · have e : t / 5 * 5 + 3 = t := by omega
    rw [e] at h3
    rw [key _ h3, h]; rfl
  · have e : t / 5 * 5 + 4 = t := by omega
    rw [e] at h4
    rw [key _ h4, h]; rfl
theorem heap_put {w : World} {g n : Nat} {os : Array Obj} {cur : Array Value} {e : TypeId} {fr : Nat × Nat} (d : Array Value) (hb : w.heap[g]? = some (.cells cur e fr)) :
    (grow (putRow id (Sort.ahead w n) g 0 d) os).heap[g]? = some (.cells (putCells id 0 d cur) e fr) := by
  have hg : g < w.heap.size := (Array.getElem?_eq_some_iff.1 hb).1
  rw [heap_grow_old _ _ (by simpa using hg)]
  simp [putRow, mapBlock, Sort.ahead, Array.getElem?_modify, hb, onCells]
theorem grew_put {w : World} {g n : Nat} {os : Array Obj} (d : Array Value) : w.grownBy (grow (putRow id (Sort.ahead w n) g 0 d) os) (some g) := by
  refine ⟨rfl, rfl, rfl, by simp, fun k hk hne => ?_⟩
  rw [heap_grow_old _ _ (by simpa using hk)]
  have : g ≠ k := fun e => hne (by rw [e])
  simp [putRow, mapBlock, Sort.ahead, Array.getElem?_modify, this]
theorem take_put (cur : Array Value) (F : List Value) (h : F.length ≤ cur.size) : (putCells id 0 F.toArray cur).toList.take F.length = F := by
  apply List.ext_getElem?
  intro j
  by_cases hj : j < F.length
  · rw [List.getElem?_take_of_lt hj, Array.getElem?_toList]
    simp [putCells, hj, show j < cur.size by omega]
  · rw [List.getElem?_take_eq_none (by omega), List.getElem?_eq_none (by omega)]
theorem sort_own (w : World) (base : Nat) (v : Value) (r : List Pl) (hn : r.length ≤ 1048576) (hown : w.ownsRow base 33 5 v r.length (cs r)) :
    Calls Tryz.prog 67 #[v, .func (.func 32) #[] #[]] w fun e w' => e = .returned (.tuple #[]) ∧ ∃ d : List Pl, d.Perm r ∧ d.Pairwise (fun a b => lessP b a = false) ∧ w'.ownsRow base 33 5 v r.length (cs d) ∧ w.grownBy w' v.ownBlock := by
  by_cases h0 : r = []
  · subst h0
    obtain ⟨a, c, rfl⟩ := slice_of hown
    refine (AnyF.slices_SortFunc_none { Tryz.sortPl with } a c (.func (.func 32) #[] #[]) w).mono ?_
    rintro e w' ⟨rfl, rfl⟩
    exact ⟨rfl, [], List.Perm.refl _, .nil, hown, grew_refl _ _⟩
  · have hpos : 0 < r.length := by cases r with | nil => exact absurd rfl h0 | cons _ _ => simp
    obtain ⟨hlen, h2⟩ := hown
    rcases h2 with ⟨_, h2⟩ | ⟨g, cap, cur, rfl, hbase, hb, h1, h2, h3, h4⟩
    · omega
    · have hg : g < w.heap.size := (Array.getElem?_eq_some_iff.1 hb).1
      have hown : w.ownsRow base 33 5 (.slice (some ⟨g, 0, none⟩) r.length cap) r.length (cs r) := ⟨hlen, .inr ⟨g, cap, cur, rfl, hbase, hb, h1, h2, h3, h4⟩⟩
      have hO : Own 33 w g (cs r) := Own.owns hown
      have eg : ∀ args w, (callFunc 32 args).run Tryz.prog w = .ok (.enter 32 args) w := enters_of Tryz.func32 (by kernel_rfl) rfl
      have hH : HoldsK enc 5 w g 0 r.toArray := by
        unfold HoldsK
        rw [flat_is]
        intro j hj
        have hj' : j < (cs r).length := by simpa using hj
        refine ⟨?_, by rw [Nat.zero_add]; exact hO.free j⟩
        rw [Nat.zero_add, getElem!_pos _ j (by simpa using hj)]
        exact hO.cell (by simp [hj'])
      have h := AnyQ.slices_SortFunc Tryz.sortPl 5 Tryz.isAgg33 Tryz.sizeOf33 enc enc_len enc_one cmpP swo 32 #[] g 0 cap r.toArray w eg (fun m os dk hk x y => cmp_grown x y _ _ rfl) hH hg (by simp; omega)
      have hsz : r.toArray.size = r.length := by simp
      rw [hsz] at h
      refine h.mono ?_
      rintro e w' ⟨rfl, d', m, os, hp, hs, rfl⟩
      have hd : d'.size = r.length := by have := hp.1; simpa using this
      have hperm : d'.toList.Perm r := by
        have h5 := hp.2.2
        rw [← hd] at h5
        have e1 : d'.extract 0 d'.size = d' := by simp
        rw [e1] at h5
        have e2 : r.toArray.extract 0 d'.size = r.toArray := by rw [hd]; simp
        rw [e2] at h5
        simpa using h5
      refine ⟨rfl, d'.toList, hperm, ?_, ?_, ?_⟩
      · rw [List.pairwise_iff_getElem]
        intro i j hi hj hij
        have h6 := hs i j (Nat.zero_le _) hij (by simp at hj; omega)
        rw [lt_is] at h6
        rw [getElem!_pos d' i (by simpa using hi), getElem!_pos d' j (by simpa using hj)] at h6
        simpa using h6
      · unfold sortWorldK putRowK
        rw [flat_is]
        have hl5 : (cs d'.toList).length = r.length * 5 := by rw [rwPlace.cs_len]; simp [hd]; omega
        refine ⟨hl5, .inr ⟨g, cap, _, rfl, hbase, heap_put _ hb, h1, h2, by simp [putCells, h3], ?_⟩⟩
        rw [← hl5]
        exact take_put cur _ (by rw [hl5, h3]; exact Nat.mul_le_mul_right _ h1)
      · unfold sortWorldK putRowK
        exact grew_put _
end Go.Proofs.YtmoojhnblakdhaaGreat.plc
namespace Go.Proofs.YtmoojhnblakdhaaGreat.plc
open Go.RowKit Go.Joins Go.Sort Go.Maps
open Go.Proofs.YtmoojhnblakdhaaGreat.base Go.Proofs.YtmoojhnblakdhaaGreat.blk Go.Proofs.YtmoojhnblakdhaaGreat.aid
open Go.Proofs.YtmoojhnblakdhaaGreat.row (Rd Own OwnV appSem app_fold)
open Go.Proofs.YtmoojhnblakdhaaGreat.rwPlace (cs el)
set_option maxRecDepth 100000
set_option linter.unusedVariables false
set_option linter.unusedSimpArgs false
attribute [local go_sem ↓] app_fold

/-- the step of a range over a map of places -/
theorem wpList_next_pl (w : World) {ops : Array Oper} {rest : List Oper} {o : Oper} {a : Act} {Q : Exit → Act → World → Prop} (hg : o.guard = none) (it : Operand) (hop : o.op = Op.next it false) (b r n : Nat) (D : DataW Unit) (left : Lit → Bool) (cnt : Nat)
    (hit : a.eval it = .pointer (some ⟨r, 0, none⟩)) (h : w.ranges Tryz.prog 73 R b r n D left cnt) (L : List Pl) (hM : HoldsM D L)
    (hDone : (∀ k, left k = false) → wpList Tryz.prog ops Q rest (a.put o.dst (.tuple #[.bool false])) w)
    (hMore : ∀ (x0 x1 : ByteArray) (x2 x3 x4 : Int) (w' : World) (cnt' : Nat), (x0, x1, x2, x3, x4) ∈ L → left (kl (x0, x1)) = true → w'.ranges Tryz.prog 73 R b r n D (fun z => left z && !z.sameKey (kl (x0, x1))) cnt' → cnt' < cnt →
      w.grownBy w' (some r) → w'.heap.size = w.heap.size → (Instr.entry (.pointer (some ⟨r, 0, none⟩))).run Tryz.prog w' = .ok (.tuple #[.agg #[.string x0, .string x1], .agg #[.string x0, .string x1, .int .i64 x2, .int .i64 x3, .int .i64 x4]]) w' →
      wpList Tryz.prog ops Q rest (a.put o.dst (.tuple #[.bool true, .agg #[.string x0, .string x1], .agg #[.string x0, .string x1, .int .i64 x2, .int .i64 x3, .int .i64 x4]])) w') :
    wpList Tryz.prog ops Q (o :: rest) a w :=
  wpList_next_ranges w hg it hop 73 lawK R keyV plV (fun key l hk => by obtain ⟨s, hs, _⟩ := keyOf_inv hk; exact ⟨s, hs⟩) (fun v y hv => by obtain ⟨p, hp, _⟩ := R_inv hv; exact ⟨p, hp⟩) b r n D left cnt hit h (fun _ hl => hDone hl)
    (fun x c l y w' cnt' hkey hlk hv hat hrg hlt hgr hsz hen => by
      obtain ⟨s, es, rfl, hs1, hs2⟩ := keyOf_inv hkey
      have ex : x = s := by
        unfold keyV at es
        injection es with es
        simp at es
        exact Prod.ext es.1 es.2
      subst ex
      obtain ⟨p, hp, hpe⟩ := hM.only _ (has_true_of_atKey hat)
      have hf := hM.fits p hp
      have e1 : x = sp p := kl_inj hs1 hs2 (fit_max hf.1) (fit_max hf.2) hpe
      subst e1
      have e2 : dat p = y.1 := (hM.at_ p hp .nil).symm.trans (hat .nil)
      rw [R_mk] at hv
      cases hv
      have e3 := dat_inj e2
      subst e3
      obtain ⟨x0, x1, x2, x3, x4⟩ := p
      exact hMore x0 x1 x2 x3 x4 w' cnt' hp hlk hrg hlt hgr hsz hen)
/-- which have come already -/
structure Col (L : List Pl) (left : Lit → Bool) (acc : List Pl) : Prop where
  mem : ∀ p, p ∈ acc ↔ p ∈ L ∧ left (kl (sp p)) = false
  nodup : acc.Nodup
theorem Col.start {D : DataW Unit} {L : List Pl} (hM : HoldsM D L) : Col L (Maps.has D) [] :=
  ⟨fun p => ⟨fun h => (by cases h), fun h => absurd h.2 (by rw [hM.there h.1]; simp)⟩, .nil⟩
theorem Col.step {D : DataW Unit} {L : List Pl} {left : Lit → Bool} {acc : List Pl} (hM : HoldsM D L) (h : Col L left acc) {x : Pl} (hx : x ∈ L) (hl : left (kl (sp x)) = true) : Col L (fun z => left z && !z.sameKey (kl (sp x))) (acc ++ [x]) := by
  refine ⟨fun p => ?_, ?_⟩
  · rw [List.mem_append, List.mem_singleton, h.mem p]
    constructor
    · rintro (⟨h1, h2⟩ | rfl)
      · exact ⟨h1, by show (left (kl (sp p)) && _) = false; rw [h2]; rfl⟩
      · refine ⟨hx, ?_⟩
        show (left (kl (sp p)) && !(kl (sp p)).sameKey (kl (sp p))) = false
        rw [WideAt.sameKey_self (a := kl (sp p)) (by exact trivial)]
        simp
    · rintro ⟨h1, h2⟩
      have h2 : (left (kl (sp p)) && !(kl (sp p)).sameKey (kl (sp x))) = false := h2
      cases hlp : left (kl (sp p)) with
      | false => exact .inl ⟨h1, rfl⟩
      | true =>
        rw [hlp] at h2
        have hs : (kl (sp p)).sameKey (kl (sp x)) = true := by
          cases hq : (kl (sp p)).sameKey (kl (sp x)) with
          | true => rfl
          | false => rw [hq] at h2; cases h2
        have e := WideAt.sameKey_eq hs
        have f1 := hM.fits p h1
        have f2 := hM.fits x hx
        exact .inr (inj_on hM.apart h1 hx (kl_inj (fit_max f1.1) (fit_max f1.2) (fit_max f2.1) (fit_max f2.2) e))
  · rw [List.nodup_append]
    refine ⟨h.nodup, by simp, ?_⟩
    intro p hp q hq e
    simp at hq
    subst hq
    subst e
    have := ((h.mem p).1 hp).2
    rw [hl] at this
    cases this
theorem nodup_of {L : List Pl} (h : Apart L) : L.Nodup := by
  unfold Apart List.Nodup at *
  rw [List.pairwise_map] at h
  exact h.imp (fun {a b} hne e => hne (by rw [e]))
theorem Col.fin {D : DataW Unit} {L : List Pl} {left : Lit → Bool} {acc : List Pl} (hM : HoldsM D L) (h : Col L left acc) (hl : ∀ k, left k = false) : acc.Perm L :=
  (List.perm_ext_iff_of_nodup h.nodup (nodup_of hM.apart)).2 (fun p => by rw [h.mem p]; exact ⟨fun q => q.1, fun q => ⟨q, hl _⟩⟩)
/-- what holds on the way -/
structure Rs (w : World) (b n : Nat) (D : DataW Unit) (L : List Pl) (left : Lit → Bool) (cnt : Nat) (v : Value) (acc : List Pl) (wr : World) : Prop where
  rg : wr.ranges Tryz.prog 73 R b w.heap.size n D left cnt
  own : wr.ownsRow (w.heap.size + 1) 33 5 v acc.length (cs acc)
  col : Col L left acc
  few : acc.length + cnt ≤ n
  lt : w.heap.size + 1 ≤ wr.heap.size
  below : Below w.heap.size w wr
theorem Rs.next {w wr w1 : World} {b n cnt : Nat} {D : DataW Unit} {L acc : List Pl} {left : Lit → Bool} {v : Value} (h : Rs w b n D L left cnt v acc wr) (hb : Below wr.heap.size wr w1) : Rs w b n D L left cnt v acc w1 := by
  refine ⟨h.rg.kept (below_grew hb none) (by simp) (by simp), h.own.kept (below_grew hb none) ?_, h.col, h.few, Nat.le_trans h.lt hb.size, below_trans h.below hb⟩
  cases v.ownBlock with
  | none => exact .inl rfl
  | some g => exact .inr (by simp)
theorem Rs.alloc {w wr : World} {b n cnt : Nat} {D : DataW Unit} {L acc : List Pl} {left : Lit → Bool} {v : Value} (h : Rs w b n D L left cnt v acc wr) (o : Obj) : Rs w b n D L left cnt v acc (wr.alloc o) := h.next (below_alloc1 wr o)
set_option maxRecDepth 100000 in
set_option maxHeartbeats 4000000 in
theorem rising_any (b n : Nat) (D : DataW Unit) (L : List Pl) (w : World) (hown : w.ownsMap Tryz.prog 73 R b n D) (hM : HoldsM D L) (hn : n ≤ 1000000) :
    Calls Tryz.prog 41 #[.map (some b)] w fun e w' => ∃ (v : Value) (r : List Pl), e = .returned v ∧ w'.ownsRow w.heap.size 33 5 v r.length (cs r) ∧ r.Perm L ∧ r.Pairwise (fun a b => lessP b a = false) ∧ Below w.heap.size w w' := by
  have hni : (n : Int) ≤ 1000000 := by omega
  have hblt := hown.lt
  have HM := mkHid hM
  have HO := mkHid hown
  clear hM hown
  go_enter Tryz.func41, Tryz.ntmps41
  go_wp2_with (first
    | (at_range; refine wpList_range_own _ rfl _ 69 rfl 73 33 lawK Tryz.underlying69 _ b n _ rfl HO.out ?_; intro w0 hrg0 hg0 hs0)
    | fail)
  go_frame
  have S0 : Hid (Rs w b n D L (Maps.has D) (Maps.size D) (.slice none 0 0) [] w0) := mkHid ⟨hrg0, World.ownsRow_nil _ _ _ _, Col.start HM.out, by have := HO.out.size_le; simpa using this, by omega, ⟨hg0.os, hg0.tape, hg0.output, hg0.size, fun k hk => hg0.block k hk (by simp)⟩⟩
  clear hrg0 hg0 hs0
  go_loopw [3, 5] (fun v p wr => ∃ (left : Lit → Bool) (cnt : Nat) (acc : List Pl) (a : Option Addr) (c : Nat), v = .slice a acc.length c ∧ Hid (Rs w b n D L left cnt (.slice a acc.length c) acc wr))
    (fun _ _ wr => wr.rangeLeft b w.heap.size)
  case atStart => exact ⟨_, _, [], none, 0, rfl, S0⟩
  case round =>
    obtain ⟨left, cnt, acc, a, c, rfl, S⟩ := hrel
    clear S0
    go_wp2_with (first
      | (at_next; refine wpList_next_pl _ rfl _ rfl b w.heap.size n D left cnt rfl S.out.rg L HM.out ?_ ?_)
      | fail)
    · intro hl0
      have hperm := mkHid (S.out.col.fin HM.out hl0)
      have hlen : acc.length ≤ 1048576 := by have := S.out.few; omega
      have HS := mkHid (sort_own wr (w.heap.size + 1) _ acc hlen S.out.own)
      go_wp2_with fail
      refine HS.out.mono ?_
      rintro e w2 ⟨rfl, d, hd1, hd2, hd3, hd4⟩
      have F1 := mkHid (And.intro hd3 (S.out.below.grown hd4 S.out.below.size (fun j hj => by have := (S.out.own.lt j hj).1; omega)))
      have F2 := mkHid (And.intro (hd1.trans hperm.out) hd2)
      have hdl := hd1.length_eq
      have F3 : Hid (w2.ownsRow w.heap.size 33 5 (.slice a acc.length c) d.length (cs d)) := mkHid (by
        rw [hdl]
        rcases F1.out.1.2 with ⟨h1, h2⟩ | ⟨g, cap, cur, h1, h2, h3⟩
        · exact ⟨F1.out.1.1, .inl ⟨h1, h2⟩⟩
        · exact ⟨F1.out.1.1, .inr ⟨g, cap, cur, h1, by omega, h3⟩⟩)
      clear hd1 hd2 hd3 hd4 HS hperm S hdl
      go_wp2
      go_ret
      exact ⟨_, d, rfl, F3.out, F2.out.1, F2.out.2, F1.out.2⟩
    · intro x0 x1 x2 x3 x4 w1 cnt1 hx hlx hrg1 hlt hg1 hs1 hen
      have hfx := HM.out.fits _ hx
      simp only at hfx
      have hcnt := S.out.few
      have hal : (acc.length : Int) + 1 ≤ 1000000 := by omega
      have hO1 : w1.ownsRow (w.heap.size + 1) 33 5 (.slice a acc.length c) acc.length (cs acc) := S.out.own.kept hg1 (by
        cases hv : (Value.slice a acc.length c).ownBlock with
        | none => exact .inl rfl
        | some g => exact .inr (fun e => by have := (S.out.own.lt g hv).1; simp at e; omega))
      have S1 : Hid (Rs w b n D L left cnt (.slice a acc.length c) acc wr ∧ w1.ownsRow (w.heap.size + 1) 33 5 (.slice a acc.length c) acc.length (cs acc) ∧ Below w.heap.size w w1 ∧ w.heap.size + 1 ≤ w1.heap.size) := mkHid ⟨S.out, hO1, S.out.below.grown hg1 (by have := S.out.lt; omega) (fun j hj => by cases hj; exact Nat.le_refl _), by have := S.out.lt; omega⟩
      have HC := mkHid (fun wx => copyPlace_any x0 x1 x2 x3 x4 wx hfx.1 hfx.2)
      have hleft := S.out.rg.left_eq
      clear S hO1
      go_wp2_with fail
      refine (HC.out _).mono ?_
      rintro e w3 ⟨rfl, hb3⟩
      have hb : Below w1.heap.size w1 w3 := below_trans (below_alloc1 w1 _) hb3
      have hO3 := S1.out.2.1.kept (below_grew hb none) (by
        cases (Value.slice a acc.length c).ownBlock with
        | none => exact .inl rfl
        | some g => exact .inr (by simp))
      have hs3 : w.heap.size + 1 ≤ w3.heap.size := Nat.le_trans S1.out.2.2.2 hb.size
      obtain ⟨g, c', w4, happ, hO4, hg4⟩ := rwPlace.app (W := w3) (base := w.heap.size + 1) (.slice a acc.length c) acc.length acc x0 x1 x2 x3 x4 rfl hO3 hs3 (by omega)
      have hr3 := hrg1.kept (below_grew hb none) (by simp) (by simp)
      have hr4 := (hr3.alloc (.cells #[.string x0, .string x1, .int .i64 x2, .int .i64 x3, .int .i64 x4] 33)).kept hg4 (fun e => by have := (hO3.lt b e.symm).1; omega) (fun e => by have := (hO3.lt w.heap.size e.symm).1; omega)
      have hB4 := (below_trans S1.out.2.2.1 hb).alloc (by omega) (.cells #[.string x0, .string x1, .int .i64 x2, .int .i64 x3, .int .i64 x4] 33)
      have hlen1 : (acc ++ [(x0, x1, x2, x3, x4)]).length = acc.length + 1 := by rw [List.length_append, List.length_singleton]
      have hcol : Col L (fun z => left z && !z.sameKey (kl (x0, x1))) (acc ++ [(x0, x1, x2, x3, x4)]) := S1.out.1.col.step (x := (x0, x1, x2, x3, x4)) HM.out hx hlx
      have hlt4 : w.heap.size + 1 ≤ w4.heap.size := by have := hg4.size; simp only [World.size_alloc] at this; omega
      have hB5 : Below w.heap.size w w4 := hB4.grown hg4 (by simp only [World.size_alloc]; omega) (fun j hj => by have := (hO3.lt j hj).1; omega)
      have hfew : acc.length + 1 + cnt1 ≤ n := by omega
      have N1 : Hid (Rs w b n D L (fun z => left z && !z.sameKey (kl (x0, x1))) cnt1 (.slice (some ⟨g, 0, none⟩) (acc.length + 1) c') (acc ++ [(x0, x1, x2, x3, x4)]) w4) := mkHid ⟨hr4, by rw [hlen1]; exact hO4, hcol, by rw [hlen1]; exact hfew, hlt4, hB5⟩
      clear hcol hlt4 hB5 hfew
      rw [← hlen1] at N1
      have HLN := mkHid hlen1.symm
      clear hlen1
      have HL1 := mkHid (show w4.rangeLeft b w.heap.size < wr.rangeLeft b w.heap.size by rw [hr4.left_eq, hleft]; exact hlt)
      clear S1 hrg1 hr3 hr4 hO3 hO4 hg4 hB4 hb hb3 HC hx hlx hen hg1 hleft
      go_wp2
      go_roundw
      case rel => exact ⟨_, cnt1, acc ++ [(x0, x1, x2, x3, x4)], some ⟨g, 0, none⟩, c', by rw [← HLN.out], N1⟩
      case measure => exact HL1.out
end Go.Proofs.YtmoojhnblakdhaaGreat.plc
namespace Go.Proofs.YtmoojhnblakdhaaGreat.plc
open Go.RowKit Go.Joins Go.Sort Go.Maps
open Go.Proofs.YtmoojhnblakdhaaGreat.base Go.Proofs.YtmoojhnblakdhaaGreat.blk Go.Proofs.YtmoojhnblakdhaaGreat.aid
open Go.Proofs.YtmoojhnblakdhaaGreat.row (Rd Own OwnV appSem app_fold)
open Go.Proofs.YtmoojhnblakdhaaGreat.rwPlace (cs el SPost)
set_option linter.unusedVariables false
set_option linter.unusedSimpArgs false

/-- those of other packs -/
def other (k : ByteArray) (p : Pl) : Bool := !(p.2.1.toList == k.toList)
def dropA (l : List Pl) (k : ByteArray) : List Pl := if 20000 < k.size ∨ placesB l = false then [] else l.filter (other k)
def keep (left : Lit → Bool) (k : ByteArray) (p : Pl) : Bool := left (kl (sp p)) || other k p
theorem same_spot {l : List Pl} (ha : Apart l) (hf : Fits l) {p x : Pl} (hp : p ∈ l) (hx : x ∈ l) : (kl (sp p)).sameKey (kl (sp x)) = true ↔ p = x := by
  constructor
  · intro h
    have f1 := hf p hp
    have f2 := hf x hx
    exact inj_on ha hp hx (kl_inj (fit_max f1.1) (fit_max f1.2) (fit_max f2.1) (fit_max f2.2) (WideAt.sameKey_eq h))
  · rintro rfl
    exact WideAt.sameKey_self (a := kl (sp p)) (by exact trivial)
theorem keep_start {D : DataW Unit} {l : List Pl} (hM : HoldsM D l) (k : ByteArray) : l.filter (keep (Maps.has D) k) = l :=
  List.filter_eq_self.2 (fun p hp => by unfold keep; rw [hM.there hp]; rfl)
theorem keep_end {l : List Pl} {left : Lit → Bool} (hl : ∀ k, left k = false) (k : ByteArray) : l.filter (keep left k) = l.filter (other k) := by
  congr 1
  funext p
  unfold keep
  rw [hl]
  rfl
theorem keep_stay {l : List Pl} (ha : Apart l) (hf : Fits l) {left : Lit → Bool} {k : ByteArray} {x : Pl} (hx : x ∈ l) (ho : other k x = true) : l.filter (keep (fun z => left z && !z.sameKey (kl (sp x))) k) = l.filter (keep left k) := by
  apply List.filter_congr
  intro p hp
  unfold keep
  cases hs : (kl (sp p)).sameKey (kl (sp x)) with
  | true =>
    have e := (same_spot ha hf hp hx).1 hs
    subst e
    rw [ho]
    simp
  | false => simp [hs]
theorem keep_drop {D : DataW Unit} {l : List Pl} (ha : Apart l) (hf : Fits l) {left : Lit → Bool} {k : ByteArray} {x : Pl} (hM : HoldsM D (l.filter (keep left k))) (hx : x ∈ l) (hl : left (kl (sp x)) = true) (ho : other k x = false) :
    HoldsM (D.del (kl (sp x))) (l.filter (keep (fun z => left z && !z.sameKey (kl (sp x))) k)) := by
  have hxL : x ∈ l.filter (keep left k) := List.mem_filter.2 ⟨hx, by unfold keep; rw [hl]; rfl⟩
  have h := hM.del (keep (fun z => left z && !z.sameKey (kl (sp x))) k) x hxL (fun p hp => by
    obtain ⟨hp, hk⟩ := List.mem_filter.1 hp
    unfold keep at hk ⊢
    constructor
    · intro h
      rw [Bool.or_eq_false_iff] at h
      rw [h.2, Bool.or_false] at hk
      have h1 := h.1
      simp only [hk, Bool.true_and, Bool.not_eq_false'] at h1
      exact (same_spot ha hf hp hx).1 h1
    · rintro rfl
      have hs := (same_spot ha hf hp hp).2 rfl
      simp only [hs, ho]
      simp)
  rw [List.filter_filter] at h
  have e : l.filter (fun a => keep (fun z => left z && !z.sameKey (kl (sp x))) k a && keep left k a) = l.filter (keep (fun z => left z && !z.sameKey (kl (sp x))) k) := by
    apply List.filter_congr
    intro p hp
    unfold keep
    show ((left (kl (sp p)) && !(kl (sp p)).sameKey (kl (sp x)) || other k p) && (left (kl (sp p)) || other k p)) = ((left (kl (sp p)) && !(kl (sp p)).sameKey (kl (sp x))) || other k p)
    cases left (kl (sp p)) <;> cases (kl (sp p)).sameKey (kl (sp x)) <;> cases other k p <;> rfl
  rw [e] at h
  exact h
theorem rising_filter {l : List Pl} (h : Rising l) (f : Pl → Bool) : Rising (l.filter f) := by
  unfold Rising at *
  exact h.sublist List.filter_sublist
theorem sorted_perm {l r : List Pl} (h : Rising l) (hp : r.Perm l) (hs : r.Pairwise (fun a b => lessP b a = false)) : r = l := by
  have ha : Apart r := by
    unfold Apart
    exact (hp.map sp).nodup_iff.2 (rising_apart h)
  exact rising_uniq (sorted_rising ha hs) h hp
theorem spost_of {w w' : World} {v : Value} {r : List Pl} (h : w'.ownsRow w.heap.size 33 5 v r.length (cs r)) (hb : Below w.heap.size w w') : SPost w r (.returned v) w' := by
  obtain ⟨a, c, rfl⟩ := slice_of h
  refine ⟨a, c, rfl, ?_, ?_, hb, (cap_of h).2⟩
  · rcases h.2 with ⟨h1, h2⟩ | ⟨g, cap, cur, h1, _⟩
    · have h3 := h.1
      rw [h2, Nat.zero_mul] at h3
      exact .inl (List.eq_nil_of_length_eq_zero h3)
    · simp at h1
      obtain ⟨rfl, _⟩ := h1
      exact .inr ⟨g, rfl, Own.owns h⟩
  · intro b o s e
    exact (h.lt b (by rw [e]; rfl)).1
theorem spost_none {w w' : World} (hb : Below w.heap.size w w') : SPost w [] (.returned (.slice none 0 0)) w' :=
  spost_of (World.ownsRow_nil _ _ _ _) hb
/-- what holds on the way -/
structure Ds (w : World) (b r n : Nat) (l : List Pl) (k : ByteArray) (left : Lit → Bool) (cnt : Nat) (D : DataW Unit) (wr : World) : Prop where
  rg : wr.ranges Tryz.prog 73 R b r n D left cnt
  holds : HoldsM D (l.filter (keep left k))
  below : Below w.heap.size w wr
set_option maxRecDepth 100000 in
set_option maxHeartbeats 2000000 in
theorem dropI_any (a : Option Addr) (c : Nat) (l : List Pl) (k : ByteArray) (w : World) (hl : l.length ≤ 1048576) (hs : Small l) (hk : k.size ≤ 1048576) (hr : Rd w a (cs l)) :
    Calls Tryz.prog 15 #[.slice a l.length c, .string k] w (SPost w (dropA l k)) := by
  have hki : (k.size : Int) ≤ 1048576 := by omega
  by_cases h2 : 20000 < k.size
  · have E : Hid (dropA l k = []) := mkHid (by unfold dropA; rw [if_pos (.inl h2)])
    have h2i : (20000 : Int) < (k.size : Int) := by omega
    rw [E.out]
    clear hr
    go_enter Tryz.func15, Tryz.ntmps15
    go_wp2
    go_ret
    exact spost_none (Below.refl _ _)
  have h2i : (k.size : Int) ≤ 20000 := by omega
  have HR := mkHid (fun wx (hb : Below w.heap.size w wx) => rightI_any a c l wx hl hs (hr.below hb))
  cases hp : placesB l with
  | false =>
    rw [hp] at HR
    have E : Hid (dropA l k = []) := mkHid (by unfold dropA; rw [if_pos (.inr hp)])
    rw [E.out]
    clear hr
    go_enter Tryz.func15, Tryz.ntmps15
    go_wp2_with fail
    refine (HR.out _ (Below.refl _ _)).mono ?_
    rintro e w1 ⟨rfl, hbw⟩
    go_wp2
    go_ret
    exact spost_none hbw
  | true =>
    rw [hp] at HR
    obtain ⟨h300, hris, hpl⟩ := (placesB_iff l).1 hp
    have E : Hid (dropA l k = l.filter (other k)) := mkHid (by unfold dropA; rw [if_neg (by rw [hp]; simp; omega)])
    rw [E.out]
    have hap := rising_apart hris
    have hfit : Fits l := hs
    have HBy := mkHid (fun wx (hb : Below w.heap.size w wx) => bySpot_any (some ⟨wx.heap.size, 0, none⟩) 1 [(a, c, l)] (wx.alloc (.cells #[.slice a l.length c] 23)) (by
        intro i u hi
        have h1 := cel1 (blk_new wx (.cells #[.slice a l.length c] 23) wx.heap.size rfl)
        match i, hi with
        | 0, hi => simp [sv] at hi; subst hi; exact ⟨_, 0, rfl, h1⟩
        | i + 1, hi => simp at hi) (by intro x hx; simp at hx; subst hx; exact (hr.below hb).alloc _) (by simp) (by simp [allP]; omega) (by simp [allP]; exact hfit))
    have hall : allP [(a, c, l)] = l := by simp [allP]
    rw [hall, firsts_same hap] at HBy
    have HRis := mkHid hris
    clear hr E hpl
    go_enter Tryz.func15, Tryz.ntmps15
    go_wp2_with fail
    refine (HR.out _ (Below.refl _ _)).mono ?_
    rintro e w1 ⟨rfl, hbw⟩
    have B1 := mkHid hbw
    clear hbw HR
    go_wp2_with fail
    refine (HBy.out _ B1.out).mono ?_
    rintro e w2 ⟨b, n, D, rfl, hown, hM, hn, hbb, hbw⟩
    have B2 := mkHid (below_trans B1.out (below_allocs (os := [_]) hbw))
    have HO := mkHid hown
    have HM := mkHid hM
    have hwb : w.heap.size ≤ b := by have := B1.out.size; simp at hbb; omega
    clear hown hM hbw B1 HBy
    go_wp2_with (first
      | (at_range; refine wpList_range_own _ rfl _ 69 rfl 73 33 lawK Tryz.underlying69 _ b n _ rfl HO.out ?_; intro w0 hrg0 hg0 hs0)
      | fail)
    go_frame
    have S0 : Hid (Ds w b w2.heap.size n l k (Maps.has D) (Maps.size D) D w0) := mkHid ⟨hrg0, by rw [keep_start HM.out]; exact HM.out, below_trans B2.out ⟨hg0.os, hg0.tape, hg0.output, hg0.size, fun j hj => hg0.block j hj (by simp)⟩⟩
    have hw2 : w.heap.size ≤ w2.heap.size := B2.out.size
    clear hrg0 hg0 hs0 HO HM
    go_loopw [6] (fun p wr => ∃ (left : Lit → Bool) (cnt : Nat) (D' : DataW Unit), Hid (Ds w b w2.heap.size n l k left cnt D' wr))
      (fun _ wr => wr.rangeLeft b w2.heap.size)
    case atStart => exact ⟨_, _, _, S0⟩
    case round =>
      obtain ⟨left, cnt, D', S⟩ := hrel
      clear S0
      go_wp2_with (first
        | (at_next; refine wpList_next_pl _ rfl _ rfl b w2.heap.size n D' left cnt rfl S.out.rg _ S.out.holds ?_ ?_)
        | fail)
      · intro hl0
        have hH := S.out.holds
        rw [keep_end hl0] at hH
        have HRs := mkHid (rising_any b n D' _ wr S.out.rg.owns hH (by omega))
        clear hH
        go_wp2_with fail
        refine HRs.out.mono ?_
        rintro e w3 ⟨v, r, rfl, hown3, hperm, hsort, hb3⟩
        have er := sorted_perm (rising_filter HRis.out (other k)) hperm hsort
        subst er
        have F : Hid (SPost w (l.filter (other k)) (.returned v) w3) := mkHid (spost_of (by
          rcases hown3.2 with ⟨h1, h2⟩ | ⟨g, cap, cur, h1, h2, h3⟩
          · exact ⟨hown3.1, .inl ⟨h1, h2⟩⟩
          · exact ⟨hown3.1, .inr ⟨g, cap, cur, h1, Nat.le_trans S.out.below.size h2, h3⟩⟩) (below_trans S.out.below hb3))
        clear hown3 hperm hsort hb3 HRs S
        go_wp2
        go_ret
        exact F.out
      · intro x0 x1 x2 x3 x4 w3 cnt1 hxl hx hlx hrg1 hlt hg1 hs1 hen
        have hfx := hfit _ hxl
        simp only at hfx
        have hleft := S.out.rg.left_eq
        have hbw : Below w.heap.size w w3 := S.out.below.grown hg1 S.out.below.size (fun j hj => by cases hj; exact hw2)
        have b1 := cel2 (blk_new w3 (.cells #[.string x0, .string x1] 73) w3.heap.size rfl)
        obtain ⟨d0, d1⟩ := b1
        cases he : (x1.toList == k.toList) with
        | true =>
          have ho : other k (x0, x1, x2, x3, x4) = false := by unfold other; rw [he]; rfl
          have HD := mkHid (keep_drop hap hfit (x := (x0, x1, x2, x3, x4)) S.out.holds hxl hlx ho)
          have hrg2 := hrg1.alloc (.cells #[.string x0, .string x1] 73)
          have HB := mkHid (hbw.alloc hbw.size (.cells #[.string x0, .string x1] 73))
          clear S hrg1 hx hxl hlx hg1 hbw ho
          go_wp2_with (first
            | (at_delete; refine wpList_delete_ranges _ rfl _ _ 69 73 rfl 33 lawK Tryz.underlying69 _ b w2.heap.size n _ _ _ rfl hrg2 (.agg #[.string x0, .string x1]) (kl (x0, x1)) rfl (keyOf_spot (x0, x1) (fit_max hfx.1) (fit_max hfx.2)) ?_; intro w4 cnt2 hrg3 hle hturn; go_frame)
            | fail)
          rw [strike_twice] at hrg3
          have N1 : Hid (Ds w b w2.heap.size n l k (fun z => left z && !z.sameKey (kl (x0, x1))) cnt2 (D'.del (kl (x0, x1))) w4) := mkHid ⟨hrg3, HD.out, HB.out.grown hturn.grown HB.out.size (fun j hj => by cases hj; exact hwb)⟩
          have HL1 := mkHid (show w4.rangeLeft b w2.heap.size < wr.rangeLeft b w2.heap.size by rw [hrg3.left_eq, hleft]; omega)
          clear hrg2 hrg3 hturn HB HD hleft
          go_roundw
          case rel => exact ⟨_, cnt2, _, N1⟩
          case measure => exact HL1.out
        | false =>
          have ho : other k (x0, x1, x2, x3, x4) = true := by unfold other; rw [he]; rfl
          have N1 : Hid (Ds w b w2.heap.size n l k (fun z => left z && !z.sameKey (kl (x0, x1))) cnt1 D' (w3.alloc (.cells #[.string x0, .string x1] 73))) := mkHid ⟨hrg1.alloc _, by
            have e := keep_stay hap hfit (left := left) (k := k) (x := (x0, x1, x2, x3, x4)) hxl ho
            rw [e]
            exact S.out.holds, hbw.alloc hbw.size _⟩
          have HL1 := mkHid (show (w3.alloc (.cells #[.string x0, .string x1] 73)).rangeLeft b w2.heap.size < wr.rangeLeft b w2.heap.size by rw [(hrg1.alloc _).left_eq, hleft]; exact hlt)
          clear S hrg1 hx hxl hlx hg1 hbw ho hleft
          go_wp2
          go_roundw
          case rel => exact ⟨_, cnt1, _, N1⟩
          case measure => exact HL1.out
end Go.Proofs.YtmoojhnblakdhaaGreat.plc
namespace Go.Proofs.YtmoojhnblakdhaaGreat.plc
open Go.RowKit Go.Joins Go.Sort Go.Maps Go.WideShapes
open Go.Proofs.YtmoojhnblakdhaaGreat.base Go.Proofs.YtmoojhnblakdhaaGreat.blk Go.Proofs.YtmoojhnblakdhaaGreat.aid
open Go.Proofs.YtmoojhnblakdhaaGreat.row (Rd Own OwnV)
open Go.Proofs.YtmoojhnblakdhaaGreat.rwPlace (cs el)
set_option linter.unusedVariables false
set_option linter.unusedSimpArgs false

/-- a map of our own has as many entries as it holds places -/
theorem size_is_len {w : World} {b n : Nat} {D : DataW Unit} {L : List Pl} (hown : w.ownsMap Tryz.prog 73 R b n D) (hM : HoldsM D L) : Maps.size D = L.length := by
  obtain ⟨es, rfl, hne, hkey⟩ := hown.entries lawK
  have h1 : (es.map Prod.fst).Nodup := by
    unfold List.Nodup
    rw [List.pairwise_map]
    exact hne
  have h2 : (L.map (fun p => kl (sp p))).Nodup := by
    have ha := hM.apart
    have hf := hM.fits
    clear hM
    induction L with
    | nil => exact .nil
    | cons p L ih =>
      unfold Apart at ha
      rw [List.map_cons, List.nodup_cons] at ha
      rw [List.map_cons, List.nodup_cons]
      refine ⟨fun hm => ?_, ih ha.2 (fun q hq => hf q (List.mem_cons_of_mem _ hq))⟩
      obtain ⟨q, hq, e⟩ := List.mem_map.1 hm
      have f1 := hf p (by simp)
      have f2 := hf q (List.mem_cons_of_mem _ hq)
      have := kl_inj (fit_max f2.1) (fit_max f2.2) (fit_max f1.1) (fit_max f1.2) e
      exact ha.1 (List.mem_map.2 ⟨q, hq, this⟩)
  have h3 : (es.map Prod.fst).Perm (L.map (fun p => kl (sp p))) := (List.perm_ext_iff_of_nodup h1 h2).2 (fun k => by
    constructor
    · intro hk
      obtain ⟨p, hp, rfl⟩ := List.mem_map.1 hk
      obtain ⟨q, hq, e⟩ := hM.only p.1 (by rw [has_eq, List.any_eq_true]; exact ⟨p, hp, WideAt.sameKey_self (hkey p hp)⟩)
      exact List.mem_map.2 ⟨q, hq, e.symm⟩
    · intro hk
      obtain ⟨q, hq, rfl⟩ := List.mem_map.1 hk
      have h := hM.there hq
      rw [has_eq, List.any_eq_true] at h
      obtain ⟨p, hp, e⟩ := h
      exact List.mem_map.2 ⟨p, hp, WideAt.sameKey_eq e⟩)
  have := h3.length_eq
  simpa [size_eq] using this
theorem puts_two {l m : List Pl} (h : Rising l) : (l ++ m).foldl put [] = m.foldl put l := by rw [List.foldl_append, puts_self h]
set_option maxRecDepth 100000 in
set_option maxHeartbeats 4000000 in
theorem addI_any (a0 : Option Addr) (c0 : Nat) (l : List Pl) (a1 : Option Addr) (c1 : Nat) (m : List Pl) (w : World) (hl : l.length ≤ 1048576) (hs : Small l) (hr : Rd w a0 (cs l)) (hm : m.length ≤ 1048576) (hs1 : Small m) (hr1 : Rd w a1 (cs m)) :
    Calls Tryz.prog 14 #[.slice a0 l.length c0, .slice a1 m.length c1] w (AOwn w (addA l m)) := by
  have hb0 := blk_new w zeroA w.heap.size rfl
  have HB0 := mkHid (below_alloc1 w zeroA)
  unfold zeroA at hb0 HB0
  obtain ⟨z0, z1⟩ := cel2 hb0
  have uf := unfrozen hb0
  have hli : (l.length : Int) ≤ 1048576 := by omega
  have hmi : (m.length : Int) ≤ 1048576 := by omega
  by_cases h1 : 400 < l.length
  · have F : Hid (AOwn w (addA l m) _ _) := mkHid (aown_new (k := 2) (by unfold addA; rw [if_pos (.inl h1)]))
    have h1i : (400 : Int) < (l.length : Int) := by omega
    clear hr hr1 hb0 HB0 z0 z1 uf
    go_enter Tryz.func14, Tryz.ntmps14
    go_wp2
    refine bodyPost_ret (v := .agg #[.slice none 0 0, .int .i64 2]) ?_ rfl F.out
    simp [results, Tryz.results14, go_sem]
  have h1i : (l.length : Int) ≤ 400 := by omega
  by_cases h2 : 400 < m.length
  · have F : Hid (AOwn w (addA l m) _ _) := mkHid (aown_new (k := 2) (by unfold addA; rw [if_pos (.inr h2)]))
    have h2i : (400 : Int) < (m.length : Int) := by omega
    clear hr hr1 hb0 HB0 z0 z1 uf
    go_enter Tryz.func14, Tryz.ntmps14
    go_wp2
    refine bodyPost_ret (v := .agg #[.slice none 0 0, .int .i64 2]) ?_ rfl F.out
    simp [results, Tryz.results14, go_sem]
  have h2i : (m.length : Int) ≤ 400 := by omega
  have HR := mkHid (fun wx (hb : Below w.heap.size w wx) => rightI_any a0 c0 l wx hl hs (hr.below hb))
  have HR1 := mkHid (fun wx (hb : Below w.heap.size w wx) => rightI_any a1 c1 m wx hm hs1 (hr1.below hb))
  have hbk := mkHid hb0
  clear z0 z1 uf hb0
  cases hp : placesB l with
  | false =>
    rw [hp] at HR
    have HE := mkHid (show addA l m = ([], 1) by unfold addA; rw [if_neg (by omega), if_pos (.inl hp)])
    clear hr hr1 HR1
    go_enter Tryz.func14, Tryz.ntmps14
    go_wp2_with fail
    refine (HR.out _ HB0.out).mono ?_
    rintro e w1 ⟨rfl, hbw⟩
    have hb2 := blk_below hbk.out hbw
    obtain ⟨z0, z1⟩ := cel2 hb2
    have uf := unfrozen hb2
    have F : Hid (AOwn w (addA l m) _ _) := mkHid (aown_no (k := 1) (below_trans HB0.out hbw) HE.out)
    clear hbw hb2 HB0 HR HE hbk
    go_wp2
    refine bodyPost_ret (v := .agg #[.slice none 0 0, .int .i64 1]) ?_ rfl F.out
    simp [results, Tryz.results14, go_sem, z0, z1]
  | true =>
    rw [hp] at HR
    cases hq : placesB m with
    | false =>
      rw [hq] at HR1
      have HE := mkHid (show addA l m = ([], 1) by unfold addA; rw [if_neg (by omega), if_pos (.inr hq)])
      clear hr hr1
      go_enter Tryz.func14, Tryz.ntmps14
      go_wp2_with fail
      refine (HR.out _ HB0.out).mono ?_
      rintro e w1 ⟨rfl, hbw⟩
      have hb2 := mkHid (blk_below hbk.out hbw)
      have HB1 := mkHid (below_trans HB0.out hbw)
      clear hbw HB0 hbk
      go_wp2_with fail
      refine (HR1.out _ HB1.out).mono ?_
      rintro e w2 ⟨rfl, hbw⟩
      have hb3 := blk_below hb2.out hbw
      obtain ⟨z0, z1⟩ := cel2 hb3
      have uf := unfrozen hb3
      have F : Hid (AOwn w (addA l m) _ _) := mkHid (aown_no (k := 1) (below_trans HB1.out hbw) HE.out)
      clear hbw hb2 hb3 HB1 HR HR1 HE
      go_wp2
      refine bodyPost_ret (v := .agg #[.slice none 0 0, .int .i64 1]) ?_ rfl F.out
      simp [results, Tryz.results14, go_sem, z0, z1]
    | true =>
      rw [hq] at HR1
      obtain ⟨_, hris, _⟩ := (placesB_iff l).1 hp
      have hputs := puts_two (m := m) hris
      have HA3 := mkHid (show ¬ 300 < (firsts (l ++ m)).length → addA l m = ((l ++ m).foldl put [], 0) from fun h => by rw [← puts_len, hputs] at h; unfold addA; rw [if_neg (by omega), if_neg (by rw [hp, hq]; simp), if_neg h, hputs])
      have HE3 := mkHid (show 300 < (firsts (l ++ m)).length → addA l m = ([], 11) from fun h => by rw [← puts_len, hputs] at h; unfold addA; rw [if_neg (by omega), if_neg (by rw [hp, hq]; simp), if_pos h])
      have hfl : (firsts (l ++ m)).length ≤ 800 := by have := firsts_len (l ++ m); rw [List.length_append] at this; omega
      have hfit : Fits (l ++ m) := fun p hpm => by
        rcases List.mem_append.1 hpm with h | h
        · exact hs p h
        · exact hs1 p h
      have HBy := mkHid (fun wx (hb : Below w.heap.size w wx) => bySpot_any (some ⟨wx.heap.size, 0, none⟩) 2 [(a0, c0, l), (a1, c1, m)] (wx.alloc (.cells #[.slice a0 l.length c0, .slice a1 m.length c1] 23)) (by
        intro i u hi
        obtain ⟨h1, h2⟩ := cel2 (blk_new wx (.cells #[.slice a0 l.length c0, .slice a1 m.length c1] 23) wx.heap.size rfl)
        match i, hi with
        | 0, hi => simp [sv] at hi; subst hi; exact ⟨_, 0, rfl, h1⟩
        | 1, hi => simp [sv] at hi; subst hi; exact ⟨_, 0, rfl, h2⟩
        | i + 2, hi => simp at hi) (by
          intro x hx
          simp at hx
          rcases hx with rfl | rfl
          · exact (hr.below hb).alloc _
          · exact (hr1.below hb).alloc _) (by simp) (by simp [allP]; omega) (by simpa [allP] using hfit))
      have hall : allP [(a0, c0, l), (a1, c1, m)] = l ++ m := by simp [allP]
      rw [hall] at HBy
      clear hr hr1 hp hq hputs hris hfit
      go_enter Tryz.func14, Tryz.ntmps14
      go_wp2_with fail
      refine (HR.out _ HB0.out).mono ?_
      rintro e w1 ⟨rfl, hbw⟩
      have hb2 := mkHid (blk_below hbk.out hbw)
      have HB1 := mkHid (below_trans HB0.out hbw)
      clear hbw HB0 hbk HR
      go_wp2_with fail
      refine (HR1.out _ HB1.out).mono ?_
      rintro e w2 ⟨rfl, hbw⟩
      have hb3 := mkHid (blk_below hb2.out hbw)
      have HB2 := mkHid (below_trans HB1.out hbw)
      clear hbw HB1 hb2 HR1
      go_wp2_with fail
      refine (HBy.out _ HB2.out).mono ?_
      rintro e w3 ⟨b, n, D, rfl, hown, hM, hn, hbb, hbw⟩
      have hbw2 := below_trans (below_alloc1 w2 (.cells #[.slice a0 l.length c0, .slice a1 m.length c1] 23)) hbw
      have hb4 := mkHid (blk_below hb3.out hbw2)
      have HB3 := mkHid (below_trans HB2.out hbw2)
      have HO := mkHid hown
      have hsz := size_is_len hown hM
      have HRis := mkHid (rising_any b n D _ w3 hown hM (by rw [List.length_append] at hn; omega))
      clear hown hM hbw hbw2 HB2 HBy hb3 hbb
      by_cases h3 : 300 < (firsts (l ++ m)).length
      · have h3i : (300 : Int) < (Maps.size D : Int) := by omega
        obtain ⟨z0, z1⟩ := cel2 hb4.out
        have uf := unfrozen hb4.out
        have F : Hid (AOwn w (addA l m) _ _) := mkHid (aown_no (k := 11) HB3.out (HE3.out h3))
        clear HA3 HE3 HRis HB3 hb4
        go_wp2_with (first
          | (at_len; refine wpList_len_own _ rfl _ 69 rfl 73 33 Tryz.underlying69 _ b n _ rfl HO.out ?_)
          | fail)
        go_wp2
        refine bodyPost_ret (v := .agg #[.slice none 0 0, .int .i64 11]) ?_ rfl F.out
        simp [results, Tryz.results14, go_sem, z0, z1]
      · have h3i : (Maps.size D : Int) ≤ 300 := by omega
        have hE := HA3.out h3
        clear HA3 HE3
        go_wp2_with (first
          | (at_len; refine wpList_len_own _ rfl _ 69 rfl 73 33 Tryz.underlying69 _ b n _ rfl HO.out ?_)
          | fail)
        go_wp2_with fail
        refine HRis.out.mono ?_
        rintro e w4 ⟨v, r, rfl, hown4, hperm, hsort, hb⟩
        have er := sorted_is hperm hsort
        obtain ⟨a', c', rfl⟩ := slice_of hown4
        have hb5 := blk_below hb4.out hb
        have hsz3 := (Array.getElem?_eq_some_iff.1 hb4.out).1
        have hown5 : w4.ownsRow (w.heap.size + 1) 33 5 (.slice a' r.length c') r.length (cs r) := by
          rcases hown4.2 with ⟨h1, h2⟩ | ⟨g, cap, cur, h1, h2, h3⟩
          · exact ⟨hown4.1, .inl ⟨h1, h2⟩⟩
          · exact ⟨hown4.1, .inr ⟨g, cap, cur, h1, by omega, h3⟩⟩
        rw [← er] at hE
        have F : Hid (AOwn w (addA l m) _ _) := mkHid (aown_of (a' := a') (n := r.length) (c' := c') (k := 0) (below_trans HB3.out hb) (by rw [hE]) (by rw [hE]) (by rw [hE]; exact hown5))
        obtain ⟨z0, z1⟩ := cel2 hb5
        have uf := unfrozen hb5
        clear hown4 hown5 hperm hsort hb hb5 hE er HB3 hb4 HRis HO hsz hsz3
        go_wp2
        refine bodyPost_ret (v := .agg #[.slice a' r.length c', .int .i64 0]) ?_ rfl F.out
        simp [results, Tryz.results14, go_sem, z0, z1]
end Go.Proofs.YtmoojhnblakdhaaGreat.plc
namespace Go.Proofs.YtmoojhnblakdhaaGreat.plc
open Go.RowKit Go.Joins
open Go.Proofs.YtmoojhnblakdhaaGreat.base Go.Proofs.YtmoojhnblakdhaaGreat.blk Go.Proofs.YtmoojhnblakdhaaGreat.aid
open Go.Proofs.YtmoojhnblakdhaaGreat.ord
open Go.Proofs.YtmoojhnblakdhaaGreat.rbk (byt_back drop_more txt_back num_back)
set_option linter.unusedVariables false
set_option linter.unusedSimpArgs false

theorem placeS_back {s : ByteArray} {a : Nat} {p : Pl} {rest : List UInt8} (hs : s.size ≤ 20000) (hp : plB p = true) (h : s.data.toList.drop a = (recP p).data.toList ++ rest) : placeS s (a, false) = (p, (a + (recP p).data.toList.length, false)) := by
  obtain ⟨h1, h2, h3, h4, h5, h6, h7, h8⟩ := plB_small hp
  have e : (recP p).data.toList = p.1.data.toList ++ ((fnExactPutText.pre p.2.1.size ++ p.2.1).data.toList ++ ((nbk.numB p.2.2.1).data.toList ++ ((nbk.numB p.2.2.2.1).data.toList ++ (nbk.numB p.2.2.2.2).data.toList))) := by
    unfold recP
    simp only [app_list, List.append_assoc]
  rw [e] at h ⊢
  simp only [List.append_assoc] at h
  have k1 := byt_back (s := s) (a := a) h1 h
  have d1 := drop_more h
  rw [len_list, h1] at d1
  have k2 := txt_back hs d1
  have d2 := drop_more d1
  have k3 := num_back hs h3 (by omega) d2
  have d3 := drop_more d2
  have k4 := num_back hs h5 (by omega) d3
  have d4 := drop_more d3
  have k5 := num_back hs h7 (by omega) d4
  unfold placeS
  rw [k1]
  simp only
  rw [k2]
  simp only
  rw [k3]
  simp only
  rw [k4]
  simp only
  rw [k5]
  simp only [List.length_append, len_list, h1, Prod.mk.injEq, and_true, true_and]
  omega
theorem runS_back {s : ByteArray} (hs : s.size ≤ 20000) : ∀ (m : List Pl) (a : Nat) (acc : List Pl), (∀ p ∈ m, plB p = true) → s.data.toList.drop a = recsP m → runS s m.length (a, false) acc = (acc ++ m, (a + (recsP m).length, false))
  | [], a, acc, _, _ => by simp [runS, recsP]
  | p :: m, a, acc, hp, h => by
    have e : recsP (p :: m) = (recP p).data.toList ++ recsP m := by simp [recsP]
    rw [e] at h
    have h1 := placeS_back hs (hp p (by simp)) h
    have h2 := runS_back hs m (a + (recP p).data.toList.length) (acc ++ [p]) (fun q hq => hp q (List.mem_cons_of_mem _ hq)) (drop_more h)
    rw [List.length_cons, runS_step, h1]
    simp only
    rw [h2, e, List.length_append, List.append_assoc, Nat.add_assoc]
    rfl
/-- right places are read back from their bytes -/
theorem read_back {l : List Pl} (hp : placesB l = true) (hs : (bytesP l).size ≤ 20000) : readA (bytesP l) = (l, 0) := by
  obtain ⟨h300, _, hpl⟩ := (placesB_iff l).1 hp
  have e : bytesP l = ⟨(bytesL l).toArray⟩ := by unfold bytesP; rw [if_pos hp]
  have el : (bytesP l).data.toList = (nbk.numB l.length).data.toList ++ recsP l := by rw [e]; simp [bytesL]
  have hz : (bytesP l).size = (nbk.numB l.length).data.toList.length + (recsP l).length := by rw [← len_list, el, List.length_append]
  have hz2 := hz
  rw [len_list (nbk.numB l.length)] at hz2
  generalize bytesP l = s at *
  have h0 : s.data.toList.drop 0 = (nbk.numB l.length).data.toList ++ recsP l := by rw [List.drop_zero]; exact el
  have hn := num_back hs (by omega) (by omega) h0
  have hr := runS_back hs l (0 + (nbk.numB l.length).data.toList.length) [] hpl (drop_more h0)
  unfold readA
  rw [if_neg (by omega), hn]
  simp only
  have d1 : decide ((l.length : Int) < 0) = false := by rw [decide_eq_false_iff_not]; omega
  have d2 : decide (300 < (l.length : Int)) = false := by rw [decide_eq_false_iff_not]; omega
  rw [d1, d2, Int.toNat_natCast]
  simp only [Bool.or_false]
  rw [hr]
  unfold fin
  rw [if_neg]
  · rfl
  · simp only [List.nil_append, hp]
    simp
    omega
theorem mem_fst1 (x : ByteArray × ByteArray) : ∀ (L acc : List Pl), x ∈ (L.foldl fst1 acc).map sp ↔ x ∈ acc.map sp ∨ x ∈ L.map sp
  | [], acc => by simp
  | y :: L, acc => by
    rw [List.foldl_cons, mem_fst1 x L (fst1 acc y), List.map_cons, List.mem_cons]
    by_cases h : sp y ∈ acc.map sp
    · rw [fst1_yes h]
      constructor
      · rintro (q | q)
        · exact .inl q
        · exact .inr (.inr q)
      · rintro (q | rfl | q)
        · exact .inl q
        · exact .inl h
        · exact .inr q
    · rw [fst1_no h, List.map_append, List.mem_append]
      simp only [List.map_cons, List.map_nil, List.mem_singleton, or_assoc]
theorem spots_is {l m : List Pl} (hl : Rising l) : Rising (m.foldl put l) ∧ ∀ x, x ∈ (m.foldl put l).map sp ↔ x ∈ l.map sp ∨ x ∈ m.map sp := by
  obtain ⟨h1, h2⟩ := puts_is (l ++ m) [] [] .nil (List.Perm.refl _)
  rw [puts_two hl] at h1 h2
  refine ⟨h1, fun x => ?_⟩
  rw [(h2.map sp).mem_iff, mem_fst1 x (l ++ m) [], List.map_append, List.mem_append]
  simp
theorem spots_same {a b : List Pl} (ha : Rising a) (hb : Rising b) (h : ∀ x, x ∈ a.map sp ↔ x ∈ b.map sp) : a.map sp = b.map sp := by
  unfold Rising at ha hb
  exact uniq (lt := fun x y => lessS x y = true) (fun x h => by rw [lessS_irr] at h; cases h) (fun x y h1 h2 => lessS_asy h1 h2) _ _ (List.pairwise_map.2 ha) (List.pairwise_map.2 hb) h
theorem puts_in : ∀ (m l : List Pl) (g : Pl), g ∈ m.foldl put l → g ∈ l ∨ g ∈ m
  | [], l, g, h => .inl h
  | x :: m, l, g, h => by
    have aux : ∀ (l : List Pl), g ∈ put l x → g = x ∨ g ∈ l := fun l hg => by
      have aux2 : ∀ k, g ∈ l.take k ++ [x] ++ l.drop k → g = x ∨ g ∈ l := fun k h => by
        rcases List.mem_append.1 h with h | h
        · rcases List.mem_append.1 h with h | h
          · exact .inr (List.mem_of_mem_take h)
          · exact .inl (by simpa using h)
        · exact .inr (List.mem_of_mem_drop h)
      unfold put at hg
      split at hg
      · split at hg
        · exact aux2 _ hg
        · exact .inr hg
      · exact aux2 _ hg
    rcases puts_in m (put l x) g h with h | h
    · rcases aux l h with rfl | h
      · exact .inr (by simp)
      · exact .inl h
    · exact .inr (List.mem_cons_of_mem _ h)
/-- put together either way: one code, the same spots, right ones -/
theorem add_sym (l m : List Pl) : (addA l m).2 = (addA m l).2 ∧ (addA l m).1.map sp = (addA m l).1.map sp ∧ ((addA l m).2 = 0 → placesB (addA l m).1 = true) := by
  unfold addA
  by_cases h1 : 400 < l.length ∨ 400 < m.length
  · have h1' : 400 < m.length ∨ 400 < l.length := h1.symm
    rw [if_pos h1, if_pos h1']
    exact ⟨rfl, rfl, fun h => by cases h⟩
  · have h1' : ¬ (400 < m.length ∨ 400 < l.length) := fun h => h1 h.symm
    rw [if_neg h1, if_neg h1']
    by_cases h2 : placesB l = false ∨ placesB m = false
    · have h2' : placesB m = false ∨ placesB l = false := h2.symm
      rw [if_pos h2, if_pos h2']
      exact ⟨rfl, rfl, fun h => by cases h⟩
    · have h2' : ¬ (placesB m = false ∨ placesB l = false) := fun h => h2 h.symm
      rw [if_neg h2, if_neg h2']
      have hl : placesB l = true := by cases h : placesB l with | true => rfl | false => exact absurd (.inl h) h2
      have hm : placesB m = true := by cases h : placesB m with | true => rfl | false => exact absurd (.inr h) h2
      obtain ⟨_, rl, pl⟩ := (placesB_iff l).1 hl
      obtain ⟨_, rm, pm⟩ := (placesB_iff m).1 hm
      obtain ⟨ra, sa⟩ := spots_is (m := m) rl
      obtain ⟨rb, sb⟩ := spots_is (m := l) rm
      have he := spots_same ra rb (fun x => by rw [sa, sb]; exact or_comm)
      have hlen : (m.foldl put l).length = (l.foldl put m).length := by
        have := congrArg List.length he
        simpa using this
      by_cases h3 : 300 < (m.foldl put l).length
      · have h3' : 300 < (l.foldl put m).length := by omega
        rw [if_pos h3, if_pos h3']
        exact ⟨rfl, rfl, fun h => by cases h⟩
      · have h3' : ¬ 300 < (l.foldl put m).length := by omega
        rw [if_neg h3, if_neg h3']
        refine ⟨rfl, he, fun _ => (placesB_iff _).2 ⟨by simp only; omega, ra, fun p hp => ?_⟩⟩
        rcases puts_in m l p hp with hp | hp
        · exact pl p hp
        · exact pm p hp
theorem find_key {l : List Pl} {k : ByteArray} (h : (findA l k).2 = 0) : ((findA l k).1.1.toList == k.toList) = true := by
  unfold findA at *
  split at h
  · cases h
  split at h
  · cases h
  rename_i h1 h2
  rw [if_neg h1, if_neg h2]
  split at h
  · cases h
  · rename_i p hp
    unfold findP at hp
    have := List.find?_some hp
    exact this
theorem drop_other {l : List Pl} {k : ByteArray} {p : Pl} (h : p ∈ dropA l k) : (p.2.1.toList == k.toList) = false := by
  unfold dropA at h
  split at h
  · cases h
  · have := (List.mem_filter.1 h).2
    unfold other at this
    simpa using this
theorem drop_len (l : List Pl) (k : ByteArray) : (dropA l k).length ≤ l.length := by
  unfold dropA
  split
  · simp
  · exact List.length_filter_le _ _
end Go.Proofs.YtmoojhnblakdhaaGreat.plc
