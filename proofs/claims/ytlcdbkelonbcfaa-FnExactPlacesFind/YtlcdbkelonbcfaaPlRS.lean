/-
  What spec.l10Less and spec.PlacesRight answer and leave. Conditions: places that lie in memory, of texts of at most 1,048,576 bytes.
-/
import Derived.Test.YtlcdbkelonbcfaaCmpI
import Derived.Shelf.SlSortCmp.QuietGrown
namespace Go.Proofs.Ytlcdbkelonbcfaa.plc
open Go.RowKit Go.Joins Go.Sort
open Go.Proofs.Ytlcdbkelonbcfaa.base Go.Proofs.Ytlcdbkelonbcfaa.blk Go.Proofs.Ytlcdbkelonbcfaa.aid
open Go.Proofs.Ytlcdbkelonbcfaa.ord
open Go.Proofs.Ytlcdbkelonbcfaa.obj (objB objB_small)
open Go.Proofs.Ytlcdbkelonbcfaa.row (Rd Own OwnV)
open Go.Proofs.Ytlcdbkelonbcfaa.rwPlace (cs el)
set_option linter.unusedVariables false

theorem toList_eq {a b : ByteArray} : (a.toList == b.toList) = decide (a = b) := by
  by_cases h : a = b
  · subst h; simp
  · have : a.toList ≠ b.toList := fun e => h (by rw [toList_data, toList_data] at e; exact ByteArray.ext (Array.toList_inj.1 e))
    simp [h, this]
set_option maxRecDepth 100000 in
/-- two boxes are laid: its parameters -/
theorem less_any (a b : Pl) (w : World) :
    Calls Try.prog 75 #[plV a, plV b] w fun e w' => e = .returned (.bool (lessP a b)) ∧ w' = (w.alloc (plO a)).alloc (plO b) := by
  obtain ⟨a0, a1, a2, a3, a4⟩ := a
  obtain ⟨b0, b1, b2, b3, b4⟩ := b
  unfold plV plO
  have E : lessP (a0, a1, a2, a3, a4) (b0, b1, b2, b3, b4) = (Op.bytesLess a0.toList b0.toList || ((a0.toList == b0.toList) && Op.bytesLess a1.toList b1.toList)) := by
    rw [toList_eq]; rfl
  rw [E]
  clear E
  cases h1 : Op.bytesLess a0.toList b0.toList with
  | true =>
    go_enter Try.func75, Try.ntmps75
    go_wp2
    go_ret
    exact ⟨rfl, rfl⟩
  | false =>
    cases h2 : (a0.toList == b0.toList) with
    | false =>
      go_enter Try.func75, Try.ntmps75
      go_wp2
      go_ret
      exact ⟨rfl, rfl⟩
    | true =>
      cases h3 : Op.bytesLess a1.toList b1.toList with
      | false =>
        go_enter Try.func75, Try.ntmps75
        go_wp2
        go_ret
        exact ⟨rfl, rfl⟩
      | true =>
        go_enter Try.func75, Try.ntmps75
        go_wp2
        go_ret
        exact ⟨rfl, rfl⟩
theorem alloc_grown (w : World) (o : Obj) : ∃ q os', w.alloc o = grow (w.drewN q) os' := ⟨0, #[o], by rw [alloc_eq_grow]; rfl⟩
theorem alloc2_grown (w : World) (o p : Obj) : ∃ q os', (w.alloc o).alloc p = grow (w.drewN q) os' := ⟨0, #[o] ++ #[p], by rw [alloc_eq_grow, alloc_eq_grow, grow_grow]; rfl⟩
theorem mixed : Try.prog.follows .mixedOrders = true := by kernel_rfl
theorem below_grow {B n : Nat} {w V : World} (os : Array Obj) (h : Below B w V) (hs : B ≤ V.heap.size) : Below B w (grow (V.drewN n) os) :=
  ⟨h.os, h.tape, h.output, by have := h.size; simp; omega, fun k hk => by rw [heap_grow_old _ _ (by show k < V.heap.size; omega)]; exact h.block k hk⟩
theorem less_grown (a b : Pl) (w : World) (r : Bool) (hr : lessP a b = r) :
    Calls Try.prog 75 #[.agg #[.string a.1, .string a.2.1, .int .i64 a.2.2.1, .int .i64 a.2.2.2.1, .int .i64 a.2.2.2.2], .agg #[.string b.1, .string b.2.1, .int .i64 b.2.2.1, .int .i64 b.2.2.2.1, .int .i64 b.2.2.2.2]] w fun e w' => e = .returned (.bool r) ∧ ∃ q os', w' = grow (w.drewN q) os' :=
  (less_any a b w).mono (fun e w' h => ⟨by rw [h.1, hr], by rw [h.2]; exact alloc2_grown w _ _⟩)
/-- the one ahead -/
def before (l : List Pl) (k : Nat) : Option Pl := if k = 0 then none else l[k - 1]?
theorem ahead (l : List Pl) (k : Nat) (h : k < l.length) : (k = 0 ∧ before l k = none) ∨ ∃ j p, k = j + 1 ∧ before l k = some p ∧ l[j]? = some p := by
  cases k with
  | zero => exact .inl ⟨rfl, rfl⟩
  | succ j =>
    have hj : j < l.length := by omega
    exact .inr ⟨j, l[j], rfl, by simp [before, hj], by simp [hj]⟩
theorem plsB_step (l : List Pl) (k : Nat) (x : Pl) (h : l[k]? = some x) : plsB (before l k) (l.drop k) = (plB x && aft (before l k) x && plsB (before l (k + 1)) (l.drop (k + 1))) := by
  have hlt := (List.getElem?_eq_some_iff.1 h).1
  have e : l.drop k = x :: l.drop (k + 1) := by rw [List.drop_eq_getElem_cons hlt, (List.getElem?_eq_some_iff.1 h).2]
  have e2 : before l (k + 1) = some x := by simp [before, h]
  rw [e, plsB, e2]
def Small (l : List Pl) : Prop := ∀ b ∈ l, b.1.size ≤ 1048576 ∧ b.2.1.size ≤ 1048576
theorem plB_parts {x0 x1 : ByteArray} {x2 x3 x4 : Int} (h : plB (x0, x1, x2, x3, x4) = true) : x0.size = 32 ∧ objB x1 = true ∧ (x2 = 1 ∨ x2 = 2) ∧ 0 ≤ x3 ∧ x3 ≤ 12000 ∧ 0 ≤ x4 ∧ x4 ≤ 2000 := by
  unfold plB at h
  simp only [Bool.and_eq_true, Bool.or_eq_true, decide_eq_true_eq] at h
  obtain ⟨⟨⟨⟨h1, h2⟩, h3⟩, h4, h5⟩, h6, h7⟩ := h
  exact ⟨h1, h2, h3, h4, h5, h6, h7⟩
theorem plB_of {x0 x1 : ByteArray} {x2 x3 x4 : Int} (h1 : x0.size = 32) (h2 : objB x1 = true) (h3 : x2 = 1 ∨ x2 = 2) (h4 : 0 ≤ x3) (h5 : x3 ≤ 12000) (h6 : 0 ≤ x4) (h7 : x4 ≤ 2000) : plB (x0, x1, x2, x3, x4) = true := by
  unfold plB
  simp only [Bool.and_eq_true, Bool.or_eq_true, decide_eq_true_eq]
  exact ⟨⟨⟨⟨h1, h2⟩, h3⟩, h4, h5⟩, h6, h7⟩

set_option maxRecDepth 100000 in
set_option maxHeartbeats 2000000 in
theorem rightS_any (a : Option Addr) (c : Nat) (l : List Pl) (w : World) (hl : l.length ≤ 1048576) (hs : Small l) (hr : Rd w a (cs l)) :
    Calls Try.prog 42 #[.slice a l.length c] w fun e w' => e = .returned (.bool (placesB l)) ∧ Below w.heap.size w w' := by
  by_cases h1 : 300 < l.length
  · have E : Hid (placesB l = false) := mkHid (by unfold placesB; simp; omega)
    have h1i : (300 : Int) < (l.length : Int) := by omega
    go_enter Try.func42, Try.ntmps42
    go_wp2_with fail
    go_ret
    exact ⟨ret_eq (by rw [E.out]; rfl), Below.refl _ _⟩
  have h1i : (l.length : Int) ≤ 300 := by omega
  have HP : Hid (placesB l = plsB none l) := mkHid (by unfold placesB; rw [decide_eq_true (by omega), Bool.true_and])
  go_enter Try.func42, Try.ntmps42
  have hmx := mixed
  go_wp2_with fail
  go_loopw [3, 4] (fun i f wr => ∃ k : Nat, k ≤ l.length ∧ i = .int .i64 k ∧ Hid (plsB none l = plsB (before l k) (l.drop k)) ∧ Hid (Below w.heap.size w wr))
    (fun i _ _ => l.length - (intOf i).toNat)
  case atStart => exact ⟨0, Nat.zero_le _, rfl, mkHid (by simp [before]), mkHid (Below.refl _ _)⟩
  case round =>
    obtain ⟨k, hk, rfl, hF, hbel⟩ := hrel
    have hr1 := hr.below hbel.out
    by_cases hlt : k < l.length
    · have hlti : (k : Int) < (l.length : Int) := by omega
      obtain ⟨⟨x0, x1, x2, x3, x4⟩, hx⟩ : ∃ y, l[k]? = some y := ⟨_, List.getElem?_eq_getElem hlt⟩
      obtain ⟨g1, o1, rfl, c0, c1, c2, c3, c4, l1⟩ := el hr1 hx
      have hst := plsB_step l k _ hx
      simp only at c0 c1 c2 c3 c4
      have HO := mkHid (ahead l k hlt)
      have hsx := hs _ (List.mem_of_getElem? hx)
      simp only at hsx
      have HN := mkHid (fun wx => obj.objS_any x1 wx hsx.2)
      have HBad : Hid ((plB (x0, x1, x2, x3, x4) && aft (before l k) (x0, x1, x2, x3, x4)) = false → placesB l = false) := mkHid (fun h => by rw [HP.out, hF.out, hst, h, Bool.false_and])
      have HGood : Hid ((plB (x0, x1, x2, x3, x4) && aft (before l k) (x0, x1, x2, x3, x4)) = true → plsB none l = plsB (before l (k + 1)) (l.drop (k + 1))) := mkHid (fun h => by rw [hF.out, hst, h, Bool.true_and])
      have HV := mkHid (hbel.out.alloc hbel.out.size (.cells #[.string x0, .string x1, .int .i64 x2, .int .i64 x3, .int .i64 x4] 40))
      have hr2 := mkHid (hr1.alloc (.cells #[.string x0, .string x1, .int .i64 x2, .int .i64 x3, .int .i64 x4] 40))
      have hwr := hbel.out.size
      clear hF hst hx hr1
      by_cases s1 : x0.size = 32
      rotate_left
      · have s1i : ((x0.size : Int) != 32) = true := by simp; omega
        have E := mkHid (HBad.out (by simp [plB, s1]))
        clear HBad HGood HO HN s1
        go_wp2_with fail
        go_ret
        exact ⟨ret_eq (by rw [E.out]; rfl), HV.out⟩
      have s1i : ((x0.size : Int) != 32) = false := by simp; omega
      cases hn : objB x1 with
      | false =>
        rw [hn] at HN
        have E := mkHid (HBad.out (by simp [plB, hn]))
        clear HBad HGood HO s1
        go_wp2_with fail
        refine (HN.out _).mono ?_
        rintro e w1 ⟨rfl, rfl⟩
        go_wp2
        go_ret
        exact ⟨ret_eq (by rw [E.out]; rfl), HV.out⟩
      | true =>
        rw [hn] at HN
        by_cases s2 : x2 = 1 ∨ x2 = 2
        rotate_left
        · have t1 : (x2 != 1) = true := by simp; omega
          have t2 : (x2 != 2) = true := by simp; omega
          have E := mkHid (HBad.out (by simp [plB]; omega))
          clear HBad HGood HO s1 s2
          go_wp2_with fail
          refine (HN.out _).mono ?_
          rintro e w1 ⟨rfl, rfl⟩
          go_wp2
          go_ret
          exact ⟨ret_eq (by rw [E.out]; rfl), HV.out⟩
        by_cases s3 : x3 < 0 ∨ 12000 < x3 ∨ x4 < 0 ∨ 2000 < x4
        · have E := mkHid (HBad.out (by simp [plB]; omega))
          clear HBad HGood HO s1
          rcases s2 with rfl | rfl <;>
          (by_cases u1 : x3 < 0
           · go_wp2_with fail
             refine (HN.out _).mono ?_
             rintro e w1 ⟨rfl, rfl⟩
             go_wp2
             go_ret
             exact ⟨ret_eq (by rw [E.out]; rfl), HV.out⟩
           by_cases u2 : 12000 < x3
           · go_wp2_with fail
             refine (HN.out _).mono ?_
             rintro e w1 ⟨rfl, rfl⟩
             go_wp2
             go_ret
             exact ⟨ret_eq (by rw [E.out]; rfl), HV.out⟩
           by_cases u3 : x4 < 0
           · go_wp2_with fail
             refine (HN.out _).mono ?_
             rintro e w1 ⟨rfl, rfl⟩
             go_wp2
             go_ret
             exact ⟨ret_eq (by rw [E.out]; rfl), HV.out⟩
           have u4 : 2000 < x4 := by omega
           go_wp2_with fail
           refine (HN.out _).mono ?_
           rintro e w1 ⟨rfl, rfl⟩
           go_wp2
           go_ret
           exact ⟨ret_eq (by rw [E.out]; rfl), HV.out⟩)
        have u1 : 0 ≤ x3 := by omega
        have u2 : x3 ≤ 12000 := by omega
        have u3 : 0 ≤ x4 := by omega
        have u4 : x4 ≤ 2000 := by omega
        have hpl := plB_of s1 hn s2 u1 u2 u3 u4
        rw [hpl, Bool.true_and] at HBad HGood
        obtain ⟨f0, f1, f2, f3, f4⟩ := cel5 (blk_new wr (.cells #[.string x0, .string x1, .int .i64 x2, .int .i64 x3, .int .i64 x4] 40) wr.heap.size rfl)
        have hVs : (wr.alloc (.cells #[.string x0, .string x1, .int .i64 x2, .int .i64 x3, .int .i64 x4] 40)).heap.size = wr.heap.size + 1 := by simp
        clear s1 s3 hpl
        rcases HO.out with ⟨k0, hb0⟩ | ⟨j, ⟨p0, p1, p2, p3, p4⟩, k1, hb0, hp⟩
        · have z1 : (0 < k) = False := by simp [k0]
          have z2 : (0 < (k : Int)) = False := by simp [k0]
          have N1 := mkHid (HGood.out (by rw [hb0]; rfl))
          clear HO HBad HGood f0 f1 f2 f3 f4 hr2 k0 hb0
          rcases s2 with rfl | rfl <;>
          (go_wp2_with fail
           refine (HN.out _).mono ?_
           rintro e w1 ⟨rfl, rfl⟩
           go_wp2_with fail
           generalize wr.alloc (.cells #[.string x0, .string x1, .int .i64 _, .int .i64 x3, .int .i64 x4] 40) = V at *
           go_quiet (fail)
           go_wp2
           go_roundw
           case rel => exact ⟨k + 1, by omega, by go_num, N1, mkHid (below_drewN HV.out)⟩
           case measure => simp [intOf]; omega)
        · have z1 : (0 < k) = True := by simp [k1]
          have z2 : (0 < (k : Int)) = True := by simp [k1]
          have z3 : IntKind.i64.wrap ((k : Int) - 1) = (j : Int) := by rw [show (k : Int) - 1 = (j : Int) by omega, IntKind.wrap_i64]; omega
          have z4 : (j : Int) < (l.length : Int) := by omega
          obtain ⟨g2, o2, hg2, pc0, pc1, pc2, pc3, pc4, pl⟩ := el hr2.out hp
          obtain ⟨rfl, rfl⟩ : g1 = g2 ∧ o1 = o2 := by injection hg2 with e; injection e with e1 e2; exact ⟨e1, e2⟩
          simp only at pc0 pc1 pc2 pc3 pc4
          have F0 := fun n os => cell_grown (n := n) (os := os) (a := ⟨wr.heap.size, 0, none⟩) (by simp) f0
          have F1 := fun n os => cell_grown (n := n) (os := os) (a := ⟨wr.heap.size, 1, none⟩) (by simp) f1
          have F2 := fun n os => cell_grown (n := n) (os := os) (a := ⟨wr.heap.size, 2, none⟩) (by simp) f2
          have F3 := fun n os => cell_grown (n := n) (os := os) (a := ⟨wr.heap.size, 3, none⟩) (by simp) f3
          have F4 := fun n os => cell_grown (n := n) (os := os) (a := ⟨wr.heap.size, 4, none⟩) (by simp) f4
          have P0 := fun n os => cell_grown (n := n) (os := os) pl pc0
          have P1 := fun n os => cell_grown (n := n) (os := os) (a := ⟨g1, o1 + j * 5 + 1, none⟩) pl pc1
          have P2 := fun n os => cell_grown (n := n) (os := os) (a := ⟨g1, o1 + j * 5 + 2, none⟩) pl pc2
          have P3 := fun n os => cell_grown (n := n) (os := os) (a := ⟨g1, o1 + j * 5 + 3, none⟩) pl pc3
          have P4 := fun n os => cell_grown (n := n) (os := os) (a := ⟨g1, o1 + j * 5 + 4, none⟩) pl pc4
          have HB2 : Hid (∀ n os, Below w.heap.size w (grow ((wr.alloc (.cells #[.string x0, .string x1, .int .i64 x2, .int .i64 x3, .int .i64 x4] 40)).drewN n) os)) := mkHid (fun n os => below_grow os HV.out (by simp; omega))
          cases hless : lessP (p0, p1, p2, p3, p4) (x0, x1, x2, x3, x4) with
          | false =>
            have E := mkHid (HBad.out (by rw [hb0]; exact hless))
            have HS1 := mkHid (fun wx => less_grown (p0, p1, p2, p3, p4) (x0, x1, x2, x3, x4) wx _ hless)
            clear HO hg2 hp k1 hr2 pc0 pc1 pc2 pc3 pc4 HBad HGood hless hb0 f0 f1 f2 f3 f4 HV
            rcases s2 with rfl | rfl <;>
            (go_wp2_with fail
             refine (HN.out _).mono ?_
             rintro e w1 ⟨rfl, rfl⟩
             clear HN c0 c1 c2 c3 c4
             go_wp2_with fail
             generalize wr.alloc (.cells #[.string x0, .string x1, .int .i64 _, .int .i64 x3, .int .i64 x4] 40) = V at *
             refine wp_region_quiet_grown mixed (by kernel_rfl) ?_
             repeat (go_big_quiet_step ((go_at_call 75; refine Calls.grown_of (HS1.out _))))
             refine wpQuiet_nil ?_
             intro _ hw'
             obtain ⟨⟨nq, osq⟩, hw''⟩ := hw'
             subst hw''
             go_wp2
             go_ret
             exact ⟨ret_eq (by rw [E.out]; rfl), HB2.out _ _⟩)
          | true =>
            have N1 := mkHid (HGood.out (by rw [hb0]; exact hless))
            have HS1 := mkHid (fun wx => less_grown (p0, p1, p2, p3, p4) (x0, x1, x2, x3, x4) wx _ hless)
            clear HO hg2 hp k1 hr2 pc0 pc1 pc2 pc3 pc4 HBad HGood hless hb0 f0 f1 f2 f3 f4 HV
            rcases s2 with rfl | rfl <;>
            (go_wp2_with fail
             refine (HN.out _).mono ?_
             rintro e w1 ⟨rfl, rfl⟩
             clear HN c0 c1 c2 c3 c4
             go_wp2_with fail
             generalize wr.alloc (.cells #[.string x0, .string x1, .int .i64 _, .int .i64 x3, .int .i64 x4] 40) = V at *
             refine wp_region_quiet_grown mixed (by kernel_rfl) ?_
             repeat (go_big_quiet_step ((go_at_call 75; refine Calls.grown_of (HS1.out _))))
             refine wpQuiet_nil ?_
             intro _ hw'
             obtain ⟨⟨nq, osq⟩, hw''⟩ := hw'
             subst hw''
             go_wp2
             go_roundw
             case rel => exact ⟨k + 1, by omega, by go_num, N1, mkHid (HB2.out _ _)⟩
             case measure => simp [intOf]; omega)
    · obtain rfl : k = l.length := by omega
      have E : Hid (placesB l = true) := mkHid (by rw [HP.out, hF.out, List.drop_of_length_le (Nat.le_refl _), plsB])
      clear hr1 hF
      go_wp2
      go_ret
      exact ⟨ret_eq (by rw [E.out]; rfl), hbel.out⟩
end Go.Proofs.Ytlcdbkelonbcfaa.plc
