/-
  What impl.FilesRight answers and leaves. Conditions: files that lie in memory, of texts of at most 1,048,576 bytes; internal/bytealg.MaxLen holds a number.
-/
import Derived.Test.YtmmmadehifajlaaDoorFlJ
import Derived.Test.YtmmmadehifajlaaDoorFlR
import Derived.Shelf.SlSortCmp.QuietGrown
namespace Go.Proofs.YtmmmadehifajlaaDoor.fil
open Go.RowKit Go.Joins Go.Sort
open Go.Proofs.YtmmmadehifajlaaDoor.base Go.Proofs.YtmmmadehifajlaaDoor.blk Go.Proofs.YtmmmadehifajlaaDoor.aid
open Go.Proofs.YtmmmadehifajlaaDoor.ord
open Go.Proofs.YtmmmadehifajlaaDoor.row (Rd Own OwnV)
open Go.Proofs.YtmmmadehifajlaaDoor.rwFile (cs el)
open Go.Proofs.YtmmmadehifajlaaDoor.obj (nameB name_small)
set_option linter.unusedVariables false
set_option linter.unusedSimpArgs false

theorem mixed : Tryd.prog.follows .mixedOrders = true := by kernel_rfl
theorem below_grow {B n : Nat} {w V : World} (os : Array Obj) (h : Below B w V) (hs : B ≤ V.heap.size) : Below B w (grow (V.drewN n) os) :=
  ⟨h.os, h.tape, h.output, by have := h.size; simp; omega, fun k hk => by rw [heap_grow_old _ _ (by show k < V.heap.size; omega)]; exact h.block k hk⟩
theorem grow_one (W : World) (o : Obj) : W.alloc o = grow (W.drewN 0) #[o] := by
  rw [alloc_eq_grow]
  rfl
set_option maxRecDepth 100000 in
set_option maxHeartbeats 8000000 in
theorem rightI_any (a : Option Addr) (c : Nat) (l : List Fi) (w : World) (hl : l.length ≤ 1048576) (hs : Small l) (hG : GM w) (hr : Rd w a (cs l)) :
    Calls Tryd.prog 7 #[.slice a l.length c] w fun e w' => e = .returned (.bool (filesB l)) ∧ Below w.heap.size w w' := by
  by_cases h1 : 20 < l.length
  · have E : Hid (filesB l = false) := mkHid (by unfold filesB; simp; omega)
    have h1i : (20 : Int) < (l.length : Int) := by omega
    clear hr
    go_enter Tryd.func7, Tryd.ntmps7
    go_wp2_with fail
    go_ret
    exact ⟨ret_eq (by rw [E.out]; rfl), Below.refl _ _⟩
  have h1i : (l.length : Int) ≤ 20 := by omega
  have HP := mkHid (filesB_of (l := l) (by omega))
  have HGx := mkHid hG
  clear hG
  go_enter Tryd.func7, Tryd.ntmps7
  have hmx := mixed
  go_wp2_with fail
  go_loopw [3, 4, 10] (fun i0 f i wr => ∃ k : Nat, k ≤ l.length ∧ i = .int .i64 k ∧ Hid (filsB l none l = filsB l (before l k) (l.drop k)) ∧ Hid (Below w.heap.size w wr) ∧ Hid (GM wr))
    (fun _ _ i _ => l.length - (intOf i).toNat)
  case atStart => exact ⟨0, Nat.zero_le _, rfl, mkHid (by simp [before]), mkHid (Below.refl _ _), HGx⟩
  case round =>
    clear HGx
    obtain ⟨k, hk, rfl, hF, hbel, HGr⟩ := hrel
    have hr1 := hr.below hbel.out
    by_cases hlt : k < l.length
    · have hlti : (k : Int) < (l.length : Int) := by omega
      obtain ⟨⟨x0, x1⟩, hx⟩ : ∃ y, l[k]? = some y := ⟨_, List.getElem?_eq_getElem hlt⟩
      have hdm := List.mem_of_getElem? hx
      obtain ⟨g1, o1, rfl, c0, c1, l1⟩ := el hr1 hx
      have hst := filsB_step l l k _ hx
      rw [fileB_is] at hst
      have hsx := hs _ hdm
      simp only at c0 c1 hsx hst
      have hwr := hbel.out.size
      go_wp2_with fail
      obtain ⟨f0, f1⟩ := cel2 (blk_new wr (.cells #[.string x0, .string x1] 35) wr.heap.size rfl)
      have HV := mkHid (hbel.out.alloc (by omega) (.cells #[.string x0, .string x1] 35))
      have HGv := mkHid (HGr.out.below (below_alloc1 wr (.cells #[.string x0, .string x1] 35)))
      have hr3 := hr1.alloc (.cells #[.string x0, .string x1] 35)
      have hVs0 : (wr.alloc (.cells #[.string x0, .string x1] 35)).heap.size = wr.heap.size + 1 := by simp
      generalize hV : wr.alloc (.cells #[.string x0, .string x1] 35) = V at *
      have hVs : w.heap.size ≤ V.heap.size := by omega
      have l2 : wr.heap.size < V.heap.size := by omega
      have F0 := fun n os => cell_grown (n := n) (os := os) (a := ⟨wr.heap.size, 0, none⟩) (by exact l2) f0
      have F1 := fun n os => cell_grown (n := n) (os := os) (a := ⟨wr.heap.size, 1, none⟩) (by exact l2) f1
      have HG2 : Hid (∀ n os, GM (grow (V.drewN n) os)) := mkHid (fun n os => HGv.out.below (below_grow os (Below.refl _ _) (Nat.le_refl _)))
      have HS : Hid (∀ (n : Nat) (os : Array Obj), Calls Tryd.prog 12 #[.string x0] (grow (V.drewN n) os) fun e w' => e = .returned (.bool (pathB x0)) ∧ ∃ q os', w' = grow ((grow (V.drewN n) os).drewN q) os') := mkHid (fun n os => (pathI_any x0 _ hsx.1 (HG2.out n os)).mono (fun e w' h => ⟨h.1, 0, #[pcObj x0], h.2.trans (grow_one _ _)⟩))
      have HB2 : Hid (∀ n os, Below w.heap.size w (grow (V.drewN n) os)) := mkHid (fun n os => below_grow os HV.out hVs)
      have hx1i : (x1.size : Int) ≤ 1048576 := by omega
      have HR := mkHid hr3
      clear hr1 c0 c1 hx hr3 f0 f1 hdm hV HGr HGv
      cases hn : pathB x0 with
      | false =>
        have E : Hid (filesB l = false) := mkHid (by rw [HP.out, hF.out, hst, hn]; rfl)
        rw [hn] at HS
        clear HR hn hst hF
        refine wp_region_quiet_grown mixed (by kernel_rfl) ?_
        repeat (go_big_quiet_step ((go_at_call 12; refine Calls.grown_of (HS.out _ _))))
        refine wpQuiet_nil ?_
        intro _ hw'
        obtain ⟨⟨nq, osq⟩, hw''⟩ := hw'
        subst hw''
        go_wp2
        go_ret
        exact ⟨ret_eq (by rw [E.out]; rfl), HB2.out _ _⟩
      | true =>
        rw [hn] at HS
        by_cases hz : 1500 < x1.size
        · have hzi : decide ((1500 : Int) < (x1.size : Int)) = true := by simp; omega
          have E : Hid (filesB l = false) := mkHid (by
            have : decide (x1.size ≤ 1500) = false := by simp; omega
            rw [HP.out, hF.out, hst, this]; simp)
          clear HR hn hst hF hz
          refine wp_region_quiet_grown mixed (by kernel_rfl) ?_
          repeat (go_big_quiet_step ((go_at_call 12; refine Calls.grown_of (HS.out _ _))))
          refine wpQuiet_nil ?_
          intro _ hw'
          obtain ⟨⟨nq, osq⟩, hw''⟩ := hw'
          subst hw''
          go_wp2
          go_ret
          exact ⟨ret_eq (by rw [E.out]; rfl), HB2.out _ _⟩
        · have hzi : decide ((1500 : Int) < (x1.size : Int)) = false := by simp; omega
          have hzd : decide (x1.size ≤ 1500) = true := by simp; omega
          have hF2 := hF.out
          rw [hst, hn, hzd, Bool.true_and, Bool.true_and] at hF2
          rcases ahead l k hlt with ⟨k0, hb0⟩ | ⟨j, ⟨p0, p1⟩, k1, hpj, hb0⟩
          · have z1 : decide (0 < k) = false := by simp [k0]
            have z2 : decide ((0 : Int) < (k : Int)) = false := by simp [k0]
            rw [hb0] at hF2
            have HF2 : Hid (filsB l none l = (noneU x0 l && filsB l (before l (k + 1)) (l.drop (k + 1)))) := mkHid hF2
            clear hF hF2 hb0 hz hzd k0 HR hn hst
            refine wp_region_quiet_grown mixed (by kernel_rfl) ?_
            repeat (go_big_quiet_step ((go_at_call 12; refine Calls.grown_of (HS.out _ _))))
            refine wpQuiet_nil ?_
            intro _ hw'
            obtain ⟨⟨nq, osq⟩, hw''⟩ := hw'
            subst hw''
            have HBn := mkHid (fun wx (h : Below w.heap.size w wx) => beneath_any (some ⟨g1, o1, none⟩) c l x0 wx (by omega) hs hsx.1 (hr.below h))
            have BV := mkHid (HB2.out nq osq)
            have G0 := F0 nq osq
            have GC := HG2.out nq osq
            clear F0 F1 HB2 HG2 HS
            generalize grow (V.drewN nq) osq = U at *
            go_wp2_with fail
            refine (HBn.out _ BV.out).mono ?_
            rintro e w5 ⟨a5, c5, rfl, hF5⟩
            have B5 := mkHid (BV.out.trans (hF5.below.mono BV.out.size))
            have G5 := GM.below GC hF5.below
            clear hF5 HBn BV GC
            have hbs := ben_some x0 l
            generalize hbn : (ben x0 l).length = bn at *
            clear hbn
            cases hnu : noneU x0 l with
            | false =>
              have hpos := hbs.2 hnu
              have hposi : 0 < (bn : Int) := by omega
              have E : Hid (filesB l = false) := mkHid (by rw [HP.out, HF2.out, hnu]; rfl)
              clear HF2 hnu hbs
              go_wp2
              go_ret
              exact ⟨ret_eq (by rw [E.out]; rfl), B5.out⟩
            | true =>
              obtain rfl : bn = 0 := by
                rcases Nat.eq_zero_or_pos bn with h | h
                · exact h
                · have := hbs.1 h
                  rw [hnu] at this
                  cases this
              have N1 : Hid (filsB l none l = filsB l (before l (k + 1)) (l.drop (k + 1))) := mkHid (by rw [HF2.out, hnu]; rfl)
              clear HF2 hnu hbs
              go_wp2
              exact ⟨⟨k + 1, by omega, by go_num, N1, B5, mkHid G5⟩, by simp [intOf]; omega⟩
          · have z1 : decide (0 < k) = true := by simp [k1]
            have z2 : decide ((0 : Int) < (k : Int)) = true := by simp [k1]
            have z3 : IntKind.i64.wrap ((k : Int) - 1) = (j : Int) := by rw [show (k : Int) - 1 = (j : Int) by omega, IntKind.wrap_i64]; omega
            have z4 : (j : Int) < (l.length : Int) := by omega
            obtain ⟨g2, o2, hg2, pc0, pc1, pl'⟩ := el HR.out hpj
            obtain ⟨rfl, rfl⟩ : g1 = g2 ∧ o1 = o2 := by injection hg2 with e; injection e with e1 e2; exact ⟨e1, e2⟩
            simp only at pc0
            have P0 := fun n os => cell_grown (n := n) (os := os) pl' pc0
            rw [hb0] at hF2
            have hba : aft (some (p0, p1)) (x0, x1) = blt p0 x0 := rfl
            rw [hba] at hF2
            cases hless : Op.bytesLess p0.toList x0.toList with
            | false =>
              have E : Hid (filesB l = false) := mkHid (by
                have : blt p0 x0 = false := hless
                rw [HP.out, hF2, this]; rfl)
              clear hF hF2 hb0 hz hzd k1 HR hn hst hg2 pc0 pc1 hpj hba
              refine wp_region_quiet_grown mixed (by kernel_rfl) ?_
              repeat (go_big_quiet_step ((go_at_call 12; refine Calls.grown_of (HS.out _ _))))
              refine wpQuiet_nil ?_
              intro _ hw'
              obtain ⟨⟨nq, osq⟩, hw''⟩ := hw'
              subst hw''
              go_wp2
              go_ret
              exact ⟨ret_eq (by rw [E.out]; rfl), HB2.out _ _⟩
            | true =>
              have HF2 : Hid (filsB l none l = (noneU x0 l && filsB l (before l (k + 1)) (l.drop (k + 1)))) := mkHid (by
                have : blt p0 x0 = true := hless
                rw [hF2, this]; rfl)
              clear hF hF2 hb0 hz hzd k1 HR hn hst hg2 pc0 pc1 hpj hba
              refine wp_region_quiet_grown mixed (by kernel_rfl) ?_
              repeat (go_big_quiet_step ((go_at_call 12; refine Calls.grown_of (HS.out _ _))))
              refine wpQuiet_nil ?_
              intro _ hw'
              obtain ⟨⟨nq, osq⟩, hw''⟩ := hw'
              subst hw''
              have HBn := mkHid (fun wx (h : Below w.heap.size w wx) => beneath_any (some ⟨g1, o1, none⟩) c l x0 wx (by omega) hs hsx.1 (hr.below h))
              have BV := mkHid (HB2.out nq osq)
              have G0 := F0 nq osq
              have GC := HG2.out nq osq
              clear F0 F1 P0 HB2 HG2 HS
              generalize grow (V.drewN nq) osq = U at *
              go_wp2_with fail
              refine (HBn.out _ BV.out).mono ?_
              rintro e w5 ⟨a5, c5, rfl, hF5⟩
              have B5 := mkHid (BV.out.trans (hF5.below.mono BV.out.size))
              have G5 := GM.below GC hF5.below
              clear hF5 HBn BV GC
              have hbs := ben_some x0 l
              generalize hbn : (ben x0 l).length = bn at *
              clear hbn
              cases hnu : noneU x0 l with
              | false =>
                have hpos := hbs.2 hnu
                have hposi : 0 < (bn : Int) := by omega
                have E : Hid (filesB l = false) := mkHid (by rw [HP.out, HF2.out, hnu]; rfl)
                clear HF2 hnu hbs
                go_wp2
                go_ret
                exact ⟨ret_eq (by rw [E.out]; rfl), B5.out⟩
              | true =>
                obtain rfl : bn = 0 := by
                  rcases Nat.eq_zero_or_pos bn with h | h
                  · exact h
                  · have := hbs.1 h
                    rw [hnu] at this
                    cases this
                have N1 : Hid (filsB l none l = filsB l (before l (k + 1)) (l.drop (k + 1))) := mkHid (by rw [HF2.out, hnu]; rfl)
                clear HF2 hnu hbs
                go_wp2
                exact ⟨⟨k + 1, by omega, by go_num, N1, B5, mkHid G5⟩, by simp [intOf]; omega⟩
    · obtain rfl : k = l.length := by omega
      have E : Hid (filesB l = true) := mkHid (by rw [HP.out, hF.out, List.drop_of_length_le (Nat.le_refl _), filsB])
      clear hr1 hF
      go_wp2
      go_ret
      exact ⟨ret_eq (by rw [E.out]; rfl), hbel.out⟩
end Go.Proofs.YtmmmadehifajlaaDoor.fil
