/-
  What spec.DriveRight answers and leaves. Conditions: at most 1,048,576 files, which lie in memory, of texts of at most 1,048,576 bytes.
-/
import Derived.Test.YtlcdbkelonbcfaaDrvS
import Derived.Laws.Cover1
namespace Go.Proofs.Ytlcdbkelonbcfaa.drv
open Go.RowKit Go.Joins
open Go.Proofs.Ytlcdbkelonbcfaa.base Go.Proofs.Ytlcdbkelonbcfaa.blk Go.Proofs.Ytlcdbkelonbcfaa.aid
open Go.Proofs.Ytlcdbkelonbcfaa.row (Rd Own OwnV)
open Go.Proofs.Ytlcdbkelonbcfaa.rwStored (cs)
set_option linter.unusedVariables false

theorem below_drewN {B n : Nat} {w V : World} (h : Below B w V) : Below B w (V.drewN n) := ⟨h.os, h.tape, h.output, h.size, h.block⟩
theorem below_trans {w W V : World} (h : Below w.heap.size w W) (h2 : Below W.heap.size W V) : Below w.heap.size w V := h.trans (h2.mono h.size)
theorem driveB_no {l : List (ByteArray × ByteArray × Int)} {r : Int} (h : filesB none l = false) : driveB l r = false := by unfold driveB; rw [h]; simp
theorem ahead (l : List (ByteArray × ByteArray × Int)) (k : Nat) (h : k < l.length) : (k = 0 ∧ before l k = none) ∨ ∃ j p, k = j + 1 ∧ before l k = some p ∧ l[j]? = some p := by
  cases k with
  | zero => exact .inl ⟨rfl, rfl⟩
  | succ j =>
    have hj : j < l.length := by omega
    exact .inr ⟨j, l[j], rfl, by simp [before, hj], by simp [hj]⟩
set_option maxRecDepth 100000 in
set_option maxHeartbeats 2000000 in
theorem right_any (a : Option Addr) (c : Nat) (l : List (ByteArray × ByteArray × Int)) (r : Int) (w : World) (hl : l.length ≤ 1048576) (hs : Small l) (hr : Rd w a (cs l)) :
    Calls Try.prog 62 #[.agg #[.slice a l.length c, .int .i64 r]] w fun e w' => e = .returned (.bool (driveB l r)) ∧ Below w.heap.size w w' := by
  have hc0 := (cel2 (blk_new w (.cells #[.slice a l.length c, .int .i64 r] 92) w.heap.size rfl))
  obtain ⟨hc0, hc1⟩ := hc0
  have hr0 := hr.alloc (.cells #[.slice a l.length c, .int .i64 r] 92)
  have hB := mkHid (below_alloc1 w (.cells #[.slice a l.length c, .int .i64 r] 92))
  clear hr
  by_cases h1 : 60 < l.length
  · have E : Hid (driveB l r = false) := mkHid (by unfold driveB; simp; omega)
    have h1i : (60 : Int) < (l.length : Int) := by omega
    go_enter Try.func62, Try.ntmps62
    go_wp2_with fail
    go_ret
    exact ⟨ret_eq (by rw [E.out]; rfl), hB.out⟩
  by_cases h2 : r < 0
  · have E : Hid (driveB l r = false) := mkHid (by unfold driveB; simp; omega)
    have h1i : (l.length : Int) ≤ 60 := by omega
    go_enter Try.func62, Try.ntmps62
    go_wp2_with fail
    go_ret
    exact ⟨ret_eq (by rw [E.out]; rfl), hB.out⟩
  by_cases h3 : 100000 < r
  · have E : Hid (driveB l r = false) := mkHid (by unfold driveB; simp; omega)
    have h1i : (l.length : Int) ≤ 60 := by omega
    have h2i : 0 ≤ r := by omega
    go_enter Try.func62, Try.ntmps62
    go_wp2_with fail
    go_ret
    exact ⟨ret_eq (by rw [E.out]; rfl), hB.out⟩
  have h1i : (l.length : Int) ≤ 60 := by omega
  have h2i : 0 ≤ r := by omega
  have h3i : r ≤ 100000 := by omega
  go_enter Try.func62, Try.ntmps62
  go_wp2_with fail
  have hW : (w.alloc (.cells #[.slice a l.length c, .int .i64 r] 92)).heap.size = w.heap.size + 1 := by simp
  generalize w.alloc (.cells #[.slice a l.length c, .int .i64 r] 92) = W at *
  go_loopw [3, 4] (fun i f wr => ∃ k : Nat, k ≤ l.length ∧ i = .int .i64 k ∧ Hid (filesB none l = filesB (before l k) (l.drop k)) ∧ Hid (Below W.heap.size W wr))
    (fun i _ _ => l.length - (intOf i).toNat)
  case atStart => exact ⟨0, Nat.zero_le _, rfl, mkHid (by simp [before]), mkHid (Below.refl _ _)⟩
  case round =>
    obtain ⟨k, hk, rfl, hF, hbel⟩ := hrel
    have d0 : wr.cell? ⟨w.heap.size, 0, none⟩ = some (.slice a l.length c) := (hbel.out.cell (p := ⟨w.heap.size, 0, none⟩) (by simp; omega)).trans hc0
    have d1 : wr.cell? ⟨w.heap.size, 1, none⟩ = some (.int .i64 r) := (hbel.out.cell (p := ⟨w.heap.size, 1, none⟩) (by simp; omega)).trans hc1
    have hr1 := hr0.below hbel.out
    by_cases hlt : k < l.length
    · have hlti : (k : Int) < (l.length : Int) := by omega
      obtain ⟨⟨x0, x1, x2⟩, hx⟩ : ∃ y, l[k]? = some y := ⟨_, List.getElem?_eq_getElem hlt⟩
      obtain ⟨g1, o1, rfl, c0, c1, c2, l1⟩ := rwStored.el hr1 hx
      have hst := filesB_step l k _ hx
      simp only at c0 c1 c2
      go_wp2_with fail
      have e0 := cel3 (blk_new wr (.cells #[.string x0, .string x1, .int .i64 x2] 94) wr.heap.size rfl)
      obtain ⟨e0, e1, e2⟩ := e0
      have q0 : (wr.alloc (.cells #[.string x0, .string x1, .int .i64 x2] 94)).cell? ⟨w.heap.size, 0, none⟩ = some (.slice (some ⟨g1, o1, none⟩) l.length c) := ((below_alloc1 wr (.cells #[.string x0, .string x1, .int .i64 x2] 94)).cell (p := ⟨w.heap.size, 0, none⟩) (by have := hbel.out.size; simp; omega)).trans d0
      have HB1 := mkHid (hbel.out.alloc (by have := hbel.out.size; omega) (.cells #[.string x0, .string x1, .int .i64 x2] 94))
      have hr2 := hr1.alloc (.cells #[.string x0, .string x1, .int .i64 x2] 94)
      generalize wr.alloc (.cells #[.string x0, .string x1, .int .i64 x2] 94) = V at *
      have HN := mkHid (fun wx => name_spec x0 wx (hs _ (List.mem_of_getElem? hx)).1)
      have HBad : Hid (fileB (before l k) (x0, x1, x2) = false → driveB l r = false) := mkHid (fun h => driveB_no (by rw [hF.out, hst, h, Bool.false_and]))
      have HGood : Hid (fileB (before l k) (x0, x1, x2) = true → filesB none l = filesB (before l (k + 1)) (l.drop (k + 1))) := mkHid (fun h => by rw [hF.out, hst, h, Bool.true_and])
      have HO := mkHid (ahead l k hlt)
      have HB2 := mkHid (below_trans hB.out HB1.out)
      clear hr1 c0 c1 c2 hc0 hc1 hr0 d0 d1 hst hF hx
      cases hn : nameB x0 with
      | false =>
        have E := mkHid (HBad.out (by simp [fileB, hn]))
        rw [hn] at HN
        clear HBad HGood HO
        go_quiet ((go_at_call 80; exact Calls.quiet_of_same (HN.out _)))
        go_wp2
        go_ret
        exact ⟨ret_eq (by rw [E.out]; rfl), below_drewN HB2.out⟩
      | true =>
        rw [hn] at HN
        rcases HO.out with ⟨k0, hb0⟩ | ⟨j, ⟨p0, p1, p2⟩, k1, hb0, hp⟩
        · have z1 : (0 < k) = False := by simp [k0]
          have z2 : (0 < (k : Int)) = False := by simp [k0]
          clear HO
          by_cases s1 : 20000 < x1.size
          · have s1i : 20000 < (x1.size : Int) := by omega
            have E := mkHid (HBad.out (by simp [fileB]; omega))
            clear HBad HGood
            go_quiet ((go_at_call 80; exact Calls.quiet_of_same (HN.out _)))
            go_wp2
            go_ret
            exact ⟨ret_eq (by rw [E.out]; rfl), below_drewN HB2.out⟩
          have t1 : decide (20000 < (x1.size : Int)) = false := by simp; omega
          have t2 : (20000 < x1.size) = False := by simp; omega
          by_cases s2 : x2 < 0
          · have t3 : decide (x2 < 0) = true := by simp [s2]
            have E := mkHid (HBad.out (by simp [fileB]; omega))
            clear s1 s2
            clear HBad HGood
            go_quiet ((go_at_call 80; exact Calls.quiet_of_same (HN.out _)))
            go_wp2
            go_ret
            exact ⟨ret_eq (by rw [E.out]; rfl), below_drewN HB2.out⟩
          have t3 : decide (x2 < 0) = false := by simp; omega
          by_cases s3 : (x1.size : Int) < x2
          · have t4 : decide ((x1.size : Int) < x2) = true := by simp [s3]
            have E := mkHid (HBad.out (by simp [fileB]; omega))
            clear s1 s2 s3
            clear HBad HGood
            go_quiet ((go_at_call 80; exact Calls.quiet_of_same (HN.out _)))
            go_wp2
            go_ret
            exact ⟨ret_eq (by rw [E.out]; rfl), below_drewN HB2.out⟩
          have t4 : decide ((x1.size : Int) < x2) = false := by simp; omega
          have N1 := mkHid (HGood.out (by rw [hb0]; simp [fileB, hn]; omega))
          clear HBad HGood s1 s2 s3
          go_quiet ((go_at_call 80; exact Calls.quiet_of_same (HN.out _)))
          go_wp2
          go_roundw
          case rel => exact ⟨k + 1, by omega, by go_num, N1, mkHid (below_drewN HB1.out)⟩
          case measure => simp [intOf]; omega
        · have z1 : (0 < k) = True := by simp [k1]
          have z2 : (0 < (k : Int)) = True := by simp [k1]
          have z3 : IntKind.i64.wrap ((k : Int) - 1) = (j : Int) := by rw [show (k : Int) - 1 = (j : Int) by omega, IntKind.wrap_i64]; omega
          have z4 : (j : Int) < (l.length : Int) := by omega
          obtain ⟨g2, o2, hg2, pc, _, _, _⟩ := rwStored.el hr2 hp
          obtain ⟨rfl, rfl⟩ : g1 = g2 ∧ o1 = o2 := by injection hg2 with e; injection e with e1 e2; exact ⟨e1, e2⟩
          simp only at pc
          clear HO hg2 hp k1
          cases hlt2 : Op.bytesLess p0.toList x0.toList with
          | false =>
            have E := mkHid (HBad.out (by rw [hb0]; simp [fileB, blt, hlt2]))
            clear HBad HGood
            go_quiet ((go_at_call 80; exact Calls.quiet_of_same (HN.out _)))
            go_wp2
            go_ret
            exact ⟨ret_eq (by rw [E.out]; rfl), below_drewN HB2.out⟩
          | true =>
            by_cases s1 : 20000 < x1.size
            · have s1i : 20000 < (x1.size : Int) := by omega
              have E := mkHid (HBad.out (by simp [fileB]; omega))
              clear HBad HGood
              go_quiet ((go_at_call 80; exact Calls.quiet_of_same (HN.out _)))
              go_wp2
              go_ret
              exact ⟨ret_eq (by rw [E.out]; rfl), below_drewN HB2.out⟩
            have t1 : decide (20000 < (x1.size : Int)) = false := by simp; omega
            have t2 : (20000 < x1.size) = False := by simp; omega
            by_cases s2 : x2 < 0
            · have t3 : decide (x2 < 0) = true := by simp [s2]
              have E := mkHid (HBad.out (by simp [fileB]; omega))
              clear s1 s2
              clear HBad HGood
              go_quiet ((go_at_call 80; exact Calls.quiet_of_same (HN.out _)))
              go_wp2
              go_ret
              exact ⟨ret_eq (by rw [E.out]; rfl), below_drewN HB2.out⟩
            have t3 : decide (x2 < 0) = false := by simp; omega
            by_cases s3 : (x1.size : Int) < x2
            · have t4 : decide ((x1.size : Int) < x2) = true := by simp [s3]
              have E := mkHid (HBad.out (by simp [fileB]; omega))
              clear s1 s2 s3
              clear HBad HGood
              go_quiet ((go_at_call 80; exact Calls.quiet_of_same (HN.out _)))
              go_wp2
              go_ret
              exact ⟨ret_eq (by rw [E.out]; rfl), below_drewN HB2.out⟩
            have t4 : decide ((x1.size : Int) < x2) = false := by simp; omega
            have N1 := mkHid (HGood.out (by rw [hb0]; simp [fileB, hn, blt, hlt2]; omega))
            clear HBad HGood s1 s2 s3
            go_quiet ((go_at_call 80; exact Calls.quiet_of_same (HN.out _)))
            go_wp2
            go_roundw
            case rel => exact ⟨k + 1, by omega, by go_num, N1, mkHid (below_drewN HB1.out)⟩
            case measure => simp [intOf]; omega
    · obtain rfl : k = l.length := by omega
      have E : Hid (driveB l r = decide (bytes l ≤ r)) := mkHid (by
        have hf : filesB none l = true := by rw [hF.out, List.drop_of_length_le (Nat.le_refl _), filesB]
        unfold driveB
        rw [hf]
        simp [h2i, h3i]
        omega)
      have HBy := mkHid (fun wx (hx : Rd wx a (cs l)) => bytes_any a c l r wx hl hs hx)
      have HB2 := mkHid (below_trans hB.out hbel.out)
      have HR := mkHid hr1
      clear hr1 hr0 hF hc0 hc1
      generalize bytes l = z at *
      go_wp2_with fail
      go_region_held3 (fun w' => w'.cell? ⟨w.heap.size, 0, none⟩ = some (.slice a l.length c) ∧ w'.cell? ⟨w.heap.size, 1, none⟩ = some (.int .i64 r)) (go_keep)
        ((go_at_call 90; refine Calls.mono (HBy.out _ (by exact HR.out)) ?_; rintro e w2 ⟨rfl, hb2⟩; have hb2 := re (w := wr) hb2 rfl rfl rfl rfl; have f0 := (hb2.cell (p := ⟨w.heap.size, 0, none⟩) (by have := hbel.out.size; simp; omega)).trans d0; have f1 := (hb2.cell (p := ⟨w.heap.size, 1, none⟩) (by have := hbel.out.size; simp; omega)).trans d1; have B2 := mkHid (below_trans HB2.out hb2); clear hb2))
      go_wp2
      go_ret
      exact ⟨ret_eq (by rw [E.out]; by_cases hzr : z ≤ r <;> simp [hzr] <;> omega), B2.out⟩
end Go.Proofs.Ytlcdbkelonbcfaa.drv
