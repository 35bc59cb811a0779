/-
  What impl.placeRight and impl.PlacesRight answer and leave. Conditions: places that lie in memory, of texts of at most 1,048,576 bytes.
-/
import Derived.Test.YtlcdbkelonbcfaaPlRS
import Derived.Test.YtlcdbkelonbcfaaKindI
namespace Go.Proofs.Ytlcdbkelonbcfaa.plc
open Go.RowKit Go.Joins Go.Sort
open Go.Proofs.Ytlcdbkelonbcfaa.base Go.Proofs.Ytlcdbkelonbcfaa.blk Go.Proofs.Ytlcdbkelonbcfaa.aid
open Go.Proofs.Ytlcdbkelonbcfaa.ord
open Go.Proofs.Ytlcdbkelonbcfaa.obj (objB objB_small)
open Go.Proofs.Ytlcdbkelonbcfaa.row (Rd Own OwnV)
open Go.Proofs.Ytlcdbkelonbcfaa.rwPlace (cs el)
set_option linter.unusedVariables false

set_option maxRecDepth 100000 in
set_option maxHeartbeats 1000000 in
theorem placeRight_any (x0 x1 : ByteArray) (x2 x3 x4 : Int) (w : World) (h1 : x1.size ≤ 1048576) :
    Calls Try.prog 76 #[.agg #[.string x0, .string x1, .int .i64 x2, .int .i64 x3, .int .i64 x4]] w fun e w' => e = .returned (.bool (plB (x0, x1, x2, x3, x4))) ∧ w' = w.alloc (.cells #[.string x0, .string x1, .int .i64 x2, .int .i64 x3, .int .i64 x4] 40) := by
  have HN := mkHid (fun wx => obj.objI_any x1 wx h1)
  have HK := mkHid (fun wx => kind.kind_any x2 wx)
  have hkb : kind.kindB x2 = (decide (x2 = 1) || decide (x2 = 2)) := rfl
  by_cases s1 : x0.size = 32
  rotate_left
  · have s1i : ((x0.size : Int) == 32) = false := by simp; omega
    have E : plB (x0, x1, x2, x3, x4) = false := by simp [plB, s1]
    rw [E]
    clear E s1 HN HK
    go_enter Try.func76, Try.ntmps76
    go_wp2_with fail
    go_ret
    exact ⟨rfl, rfl⟩
  have s1i : ((x0.size : Int) == 32) = true := by simp; omega
  cases hn : objB x1 with
  | false =>
    rw [hn] at HN
    have E : plB (x0, x1, x2, x3, x4) = false := by simp [plB, hn]
    rw [E]
    clear E s1 HK
    go_enter Try.func76, Try.ntmps76
    go_wp2_with fail
    refine (HN.out _).mono ?_
    rintro e w1 ⟨rfl, rfl⟩
    go_wp2
    go_ret
    exact ⟨rfl, rfl⟩
  | true =>
    rw [hn] at HN
    cases hk : kind.kindB x2 with
    | false =>
      rw [hk] at HK
      have E : plB (x0, x1, x2, x3, x4) = false := by unfold plB; rw [← hkb, hk]; simp
      rw [E]
      clear E s1
      go_enter Try.func76, Try.ntmps76
      go_wp2_with fail
      refine (HN.out _).mono ?_
      rintro e w1 ⟨rfl, rfl⟩
      go_wp2_with fail
      refine (HK.out _).mono ?_
      rintro e w1 ⟨rfl, rfl⟩
      go_wp2
      go_ret
      exact ⟨rfl, rfl⟩
    | true =>
      rw [hk] at HK
      by_cases u1 : x3 < 0
      · have E : plB (x0, x1, x2, x3, x4) = false := by simp [plB]; omega
        rw [E]
        clear E s1 hkb hk
        go_enter Try.func76, Try.ntmps76
        go_wp2_with fail
        refine (HN.out _).mono ?_
        rintro e w1 ⟨rfl, rfl⟩
        go_wp2_with fail
        refine (HK.out _).mono ?_
        rintro e w1 ⟨rfl, rfl⟩
        go_wp2
        go_ret
        exact ⟨rfl, rfl⟩
      have u1' : 0 ≤ x3 := by omega
      by_cases u2 : 12000 < x3
      · have E : plB (x0, x1, x2, x3, x4) = false := by simp [plB]; omega
        rw [E]
        clear E s1 hkb hk u1
        go_enter Try.func76, Try.ntmps76
        go_wp2_with fail
        refine (HN.out _).mono ?_
        rintro e w1 ⟨rfl, rfl⟩
        go_wp2_with fail
        refine (HK.out _).mono ?_
        rintro e w1 ⟨rfl, rfl⟩
        go_wp2
        go_ret
        exact ⟨rfl, rfl⟩
      have u2' : x3 ≤ 12000 := by omega
      by_cases u3 : x4 < 0
      · have E : plB (x0, x1, x2, x3, x4) = false := by simp [plB]; omega
        rw [E]
        clear E s1 hkb hk u1 u2
        go_enter Try.func76, Try.ntmps76
        go_wp2_with fail
        refine (HN.out _).mono ?_
        rintro e w1 ⟨rfl, rfl⟩
        go_wp2_with fail
        refine (HK.out _).mono ?_
        rintro e w1 ⟨rfl, rfl⟩
        go_wp2
        go_ret
        exact ⟨rfl, rfl⟩
      have u3' : 0 ≤ x4 := by omega
      by_cases u4 : 2000 < x4
      · have E : plB (x0, x1, x2, x3, x4) = false := by simp [plB]; omega
        rw [E]
        clear E s1 hkb hk u1 u2 u3
        go_enter Try.func76, Try.ntmps76
        go_wp2_with fail
        refine (HN.out _).mono ?_
        rintro e w1 ⟨rfl, rfl⟩
        go_wp2_with fail
        refine (HK.out _).mono ?_
        rintro e w1 ⟨rfl, rfl⟩
        go_wp2
        go_ret
        exact ⟨ret_eq (by simp; omega), rfl⟩
      have u4' : x4 ≤ 2000 := by omega
      have E : plB (x0, x1, x2, x3, x4) = true := plB_of s1 hn (by rw [hkb] at hk; simpa using hk) u1' u2' u3' u4'
      rw [E]
      clear E s1 hkb hk u1 u2 u3 u4
      go_enter Try.func76, Try.ntmps76
      go_wp2_with fail
      refine (HN.out _).mono ?_
      rintro e w1 ⟨rfl, rfl⟩
      go_wp2_with fail
      refine (HK.out _).mono ?_
      rintro e w1 ⟨rfl, rfl⟩
      go_wp2
      go_ret
      exact ⟨rfl, rfl⟩
theorem placeRight_grown (x0 x1 : ByteArray) (x2 x3 x4 : Int) (w : World) (h1 : x1.size ≤ 1048576) (b : Bool) (hb : plB (x0, x1, x2, x3, x4) = b) :
    Calls Try.prog 76 #[.agg #[.string x0, .string x1, .int .i64 x2, .int .i64 x3, .int .i64 x4]] w fun e w' => e = .returned (.bool b) ∧ ∃ q os', w' = grow (w.drewN q) os' :=
  (placeRight_any x0 x1 x2 x3 x4 w h1).mono (fun e w' h => ⟨by rw [h.1, hb], by rw [h.2]; exact alloc_grown w _⟩)
theorem cmp_grown (a b : Pl) (w : World) (r : Int) (hr : cmpP a b = r) :
    Calls Try.prog 77 #[.agg #[.string a.1, .string a.2.1, .int .i64 a.2.2.1, .int .i64 a.2.2.2.1, .int .i64 a.2.2.2.2], .agg #[.string b.1, .string b.2.1, .int .i64 b.2.2.1, .int .i64 b.2.2.2.1, .int .i64 b.2.2.2.2]] w fun e w' => e = .returned (.int .i64 r) ∧ ∃ q os', w' = grow (w.drewN q) os' :=
  (comparePlaces_any a b w).mono (fun e w' h => ⟨by rw [h.1, hr], by rw [h.2]; exact alloc2_grown w _ _⟩)

set_option maxRecDepth 100000 in
set_option maxHeartbeats 2000000 in
theorem rightI_any (a : Option Addr) (c : Nat) (l : List Pl) (w : World) (hl : l.length ≤ 1048576) (hs : Small l) (hr : Rd w a (cs l)) :
    Calls Try.prog 45 #[.slice a l.length c] w fun e w' => e = .returned (.bool (placesB l)) ∧ Below w.heap.size w w' := by
  by_cases h1 : 300 < l.length
  · have E : Hid (placesB l = false) := mkHid (by unfold placesB; simp; omega)
    have h1i : (300 : Int) < (l.length : Int) := by omega
    go_enter Try.func45, Try.ntmps45
    go_wp2_with fail
    go_ret
    exact ⟨ret_eq (by rw [E.out]; rfl), Below.refl _ _⟩
  have h1i : (l.length : Int) ≤ 300 := by omega
  have HP : Hid (placesB l = plsB none l) := mkHid (by unfold placesB; rw [decide_eq_true (by omega), Bool.true_and])
  go_enter Try.func45, Try.ntmps45
  have hmx := mixed
  go_wp2_with fail
  go_loopw [3, 4, 10] (fun i0 f i wr => ∃ k : Nat, k ≤ l.length ∧ i = .int .i64 k ∧ Hid (plsB none l = plsB (before l k) (l.drop k)) ∧ Hid (Below w.heap.size w wr))
    (fun _ _ i _ => l.length - (intOf i).toNat)
  case atStart => exact ⟨0, Nat.zero_le _, rfl, mkHid (by simp [before]), mkHid (Below.refl _ _)⟩
  case round =>
    obtain ⟨k, hk, rfl, hF, hbel⟩ := hrel
    have hr1 := hr.below hbel.out
    by_cases hlt : k < l.length
    · have hlti : (k : Int) < (l.length : Int) := by omega
      obtain ⟨⟨x0, x1, x2, x3, x4⟩, hx⟩ : ∃ y, l[k]? = some y := ⟨_, List.getElem?_eq_getElem hlt⟩
      obtain ⟨g1, o1, rfl, c0, c1, c2, c3, c4, l1⟩ := el hr1 hx
      have hst := plsB_step l k _ hx
      simp only at c0 c1 c2 c3 c4
      go_wp2_with fail
      obtain ⟨f0, f1, f2, f3, f4⟩ := cel5 (blk_new wr (.cells #[.string x0, .string x1, .int .i64 x2, .int .i64 x3, .int .i64 x4] 40) wr.heap.size rfl)
      have hwr := hbel.out.size
      have HV := mkHid (hbel.out.alloc (by omega) (.cells #[.string x0, .string x1, .int .i64 x2, .int .i64 x3, .int .i64 x4] 40))
      have hr3 := hr1.alloc (.cells #[.string x0, .string x1, .int .i64 x2, .int .i64 x3, .int .i64 x4] 40)
      have hVs : (wr.alloc (.cells #[.string x0, .string x1, .int .i64 x2, .int .i64 x3, .int .i64 x4] 40)).heap.size = wr.heap.size + 1 := by simp
      generalize wr.alloc (.cells #[.string x0, .string x1, .int .i64 x2, .int .i64 x3, .int .i64 x4] 40) = V at *
      have F0 := fun n os => cell_grown (n := n) (os := os) (by show wr.heap.size < V.heap.size; omega) f0
      have F1 := fun n os => cell_grown (n := n) (os := os) (by show wr.heap.size < V.heap.size; omega) f1
      have F2 := fun n os => cell_grown (n := n) (os := os) (by show wr.heap.size < V.heap.size; omega) f2
      have F3 := fun n os => cell_grown (n := n) (os := os) (by show wr.heap.size < V.heap.size; omega) f3
      have F4 := fun n os => cell_grown (n := n) (os := os) (by show wr.heap.size < V.heap.size; omega) f4
      have hsx := hs _ (List.mem_of_getElem? hx)
      simp only at hsx
      have HS : Hid (∀ (wx : World) (b : Bool), plB (x0, x1, x2, x3, x4) = b → Calls Try.prog 76 #[.agg #[.string x0, .string x1, .int .i64 x2, .int .i64 x3, .int .i64 x4]] wx fun e w' => e = .returned (.bool b) ∧ ∃ q os', w' = grow (wx.drewN q) os') := mkHid (fun wx b hb => placeRight_grown x0 x1 x2 x3 x4 wx hsx.2 b hb)
      have HBad : Hid ((plB (x0, x1, x2, x3, x4) && aft (before l k) (x0, x1, x2, x3, x4)) = false → placesB l = false) := mkHid (fun h => by rw [HP.out, hF.out, hst, h, Bool.false_and])
      have HGood : Hid ((plB (x0, x1, x2, x3, x4) && aft (before l k) (x0, x1, x2, x3, x4)) = true → plsB none l = plsB (before l (k + 1)) (l.drop (k + 1))) := mkHid (fun h => by rw [hF.out, hst, h, Bool.true_and])
      have HO := mkHid (ahead l k hlt)
      have HB2 : Hid (∀ n os, Below w.heap.size w (grow (V.drewN n) os)) := mkHid (fun n os => below_grow os HV.out (by omega))
      have HR := mkHid hr3
      clear hr1 c0 c1 c2 c3 c4 hst hF hx hr3 f0 f1 f2 f3 f4
      cases hn : plB (x0, x1, x2, x3, x4) with
      | false =>
        have E := mkHid (HBad.out (by rw [hn]; rfl))
        have HS1 := mkHid (fun wx => HS.out wx _ hn)
        clear HBad HGood HO HR HS hn
        refine wp_region_quiet_grown mixed (by kernel_rfl) ?_
        repeat (go_big_quiet_step ((go_at_call 76; refine Calls.grown_of (HS1.out _))))
        refine wpQuiet_nil ?_
        intro _ hw'
        obtain ⟨⟨nq, osq⟩, hw''⟩ := hw'
        subst hw''
        go_wp2
        go_ret
        exact ⟨ret_eq (by rw [E.out]; rfl), HB2.out _ _⟩
      | true =>
        have HS1 := mkHid (fun wx => HS.out wx _ hn)
        rw [hn, Bool.true_and] at HBad HGood
        clear HS
        rcases HO.out with ⟨k0, hb0⟩ | ⟨j, ⟨p0, p1, p2, p3, p4⟩, k1, hb0, hp⟩
        · have z1 : (0 < k) = False := by simp [k0]
          have z2 : (0 < (k : Int)) = False := by simp [k0]
          have N1 := mkHid (HGood.out (by rw [hb0]; rfl))
          clear HO HBad HGood HR hn k0 hb0
          refine wp_region_quiet_grown mixed (by kernel_rfl) ?_
          repeat (go_big_quiet_step ((go_at_call 76; refine Calls.grown_of (HS1.out _))))
          refine wpQuiet_nil ?_
          intro _ hw'
          obtain ⟨⟨nq, osq⟩, hw''⟩ := hw'
          subst hw''
          go_wp2
          go_roundw
          case rel => exact ⟨k + 1, by omega, by go_num, N1, mkHid (HB2.out _ _)⟩
          case measure => simp [intOf]; omega
        · have z1 : (0 < k) = True := by simp [k1]
          have z2 : (0 < (k : Int)) = True := by simp [k1]
          have z3 : IntKind.i64.wrap ((k : Int) - 1) = (j : Int) := by rw [show (k : Int) - 1 = (j : Int) by omega, IntKind.wrap_i64]; omega
          have z4 : (j : Int) < (l.length : Int) := by omega
          obtain ⟨g2, o2, hg2, pc0, pc1, pc2, pc3, pc4, pl⟩ := el HR.out hp
          obtain ⟨rfl, rfl⟩ : g1 = g2 ∧ o1 = o2 := by injection hg2 with e; injection e with e1 e2; exact ⟨e1, e2⟩
          simp only at pc0 pc1 pc2 pc3 pc4
          have P0 := fun n os => cell_grown (n := n) (os := os) pl pc0
          have P1 := fun n os => cell_grown (n := n) (os := os) (a := ⟨g1, o1 + j * 5 + 1, none⟩) pl pc1
          have P2 := fun n os => cell_grown (n := n) (os := os) (a := ⟨g1, o1 + j * 5 + 2, none⟩) pl pc2
          have P3 := fun n os => cell_grown (n := n) (os := os) (a := ⟨g1, o1 + j * 5 + 3, none⟩) pl pc3
          have P4 := fun n os => cell_grown (n := n) (os := os) (a := ⟨g1, o1 + j * 5 + 4, none⟩) pl pc4
          have HC1 := mkHid (fun wx => cmp_grown (p0, p1, p2, p3, p4) (x0, x1, x2, x3, x4) wx _ rfl)
          cases hless : lessP (p0, p1, p2, p3, p4) (x0, x1, x2, x3, x4) with
          | false =>
            have E := mkHid (HBad.out (by rw [hb0]; exact hless))
            have hz := (cmpP_nonneg _ _).2 hless
            have hz2 : (0 ≤ cmpP (p0, p1, p2, p3, p4) (x0, x1, x2, x3, x4)) = True := eq_true hz
            generalize cmpP (p0, p1, p2, p3, p4) (x0, x1, x2, x3, x4) = z at *
            clear HO hg2 hp k1 HR pc0 pc1 pc2 pc3 pc4 HBad HGood hn hless hb0 hz
            refine wp_region_quiet_grown mixed (by kernel_rfl) ?_
            repeat (go_big_quiet_step (first | (go_at_call 76; refine Calls.grown_of (HS1.out _)) | (go_at_call 77; refine Calls.grown_of (HC1.out _))))
            refine wpQuiet_nil ?_
            intro _ hw'
            obtain ⟨⟨nq, osq⟩, hw''⟩ := hw'
            subst hw''
            go_wp2
            go_ret
            exact ⟨ret_eq (by rw [E.out]; rfl), HB2.out _ _⟩
          | true =>
            have N1 := mkHid (HGood.out (by rw [hb0]; exact hless))
            have hz := (cmpP_neg _ _).2 hless
            have hz2 : (0 ≤ cmpP (p0, p1, p2, p3, p4) (x0, x1, x2, x3, x4)) = False := eq_false (by omega)
            generalize cmpP (p0, p1, p2, p3, p4) (x0, x1, x2, x3, x4) = z at *
            clear HO hg2 hp k1 HR pc0 pc1 pc2 pc3 pc4 HBad HGood hn hless hb0 hz
            refine wp_region_quiet_grown mixed (by kernel_rfl) ?_
            repeat (go_big_quiet_step (first | (go_at_call 76; refine Calls.grown_of (HS1.out _)) | (go_at_call 77; refine Calls.grown_of (HC1.out _))))
            refine wpQuiet_nil ?_
            intro _ hw'
            obtain ⟨⟨nq, osq⟩, hw''⟩ := hw'
            subst hw''
            go_wp2
            go_roundw
            case rel => exact ⟨k + 1, by omega, by go_num, N1, mkHid (HB2.out _ _)⟩
            case measure => simp [intOf]; omega
    · obtain rfl : k = l.length := by omega
      have E : Hid (placesB l = true) := mkHid (by rw [HP.out, hF.out, List.drop_of_length_le (Nat.le_refl _), plsB])
      clear hr1 hF
      go_wp2
      go_ret
      exact ⟨ret_eq (by rw [E.out]; rfl), hbel.out⟩
end Go.Proofs.Ytlcdbkelonbcfaa.plc
