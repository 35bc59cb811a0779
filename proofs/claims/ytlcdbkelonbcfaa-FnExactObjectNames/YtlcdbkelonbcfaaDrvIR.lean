/-
  What impl.storedRight, fits and DriveRight answer and leave. Conditions: at most 1,048,576 files, which lie in memory, of texts of at most 1,048,576 bytes.
-/
import Derived.Test.YtlcdbkelonbcfaaDrvR
import Derived.Shelf.SlSortCmp.QuietGrown
namespace Go.Proofs.Ytlcdbkelonbcfaa.drv
open Go.RowKit Go.Joins Go.Sort
open Go.Proofs.Ytlcdbkelonbcfaa.base Go.Proofs.Ytlcdbkelonbcfaa.blk Go.Proofs.Ytlcdbkelonbcfaa.aid
open Go.Proofs.Ytlcdbkelonbcfaa.row (Rd Own OwnV)
open Go.Proofs.Ytlcdbkelonbcfaa.rwStored (cs)
set_option linter.unusedVariables false

/-- a file by itself is right -/
def storedB (f : ByteArray × ByteArray × Int) : Bool := nameB f.1 && decide (f.2.1.size ≤ 20000) && decide (0 ≤ f.2.2) && decide (f.2.2 ≤ (f.2.1.size : Int))
theorem fileB_stored (p : Option (ByteArray × ByteArray × Int)) (f : ByteArray × ByteArray × Int) : fileB p f = (storedB f && (match p with | none => true | some g => blt g.1 f.1)) := by
  unfold fileB storedB
  cases p with
  | none => cases nameB f.1 <;> simp
  | some g =>
    simp only
    generalize blt g.1 f.1 = q
    cases nameB f.1 <;> cases q <;> simp
set_option maxRecDepth 100000 in
theorem stored_any (x0 x1 : ByteArray) (x2 : Int) (w : World) (h0 : x0.size ≤ 1048576) (h1 : x1.size ≤ 1048576) :
    Calls Try.prog 93 #[.agg #[.string x0, .string x1, .int .i64 x2]] w fun e w' => e = .returned (.bool (storedB (x0, x1, x2))) ∧ w' = w.alloc (.cells #[.string x0, .string x1, .int .i64 x2] 94) := by
  have HN := mkHid (fun wx => name_impl x0 wx h0)
  cases hn : nameB x0 with
  | false =>
    have E : Hid (storedB (x0, x1, x2) = false) := mkHid (by unfold storedB; simp [hn])
    rw [hn] at HN
    go_enter Try.func93, Try.ntmps93
    go_wp2_with fail
    refine (HN.out _).mono ?_
    rintro e w1 ⟨rfl, rfl⟩
    go_wp2
    go_ret
    exact ⟨ret_eq (by rw [E.out]; rfl), rfl⟩
  | true =>
    rw [hn] at HN
    by_cases s1 : x1.size ≤ 20000
    · have s1i : (x1.size : Int) ≤ 20000 := by omega
      by_cases s2 : 0 ≤ x2
      · have E : Hid (storedB (x0, x1, x2) = decide (x2 ≤ (x1.size : Int))) := mkHid (by unfold storedB; simp [hn, s1, s2])
        go_enter Try.func93, Try.ntmps93
        go_wp2_with fail
        refine (HN.out _).mono ?_
        rintro e w1 ⟨rfl, rfl⟩
        go_wp2
        all_goals (go_ret; exact ⟨ret_eq (by rw [E.out]; rfl), rfl⟩)
      · have E : Hid (storedB (x0, x1, x2) = false) := mkHid (by unfold storedB; simp [s2])
        have s2i : x2 < 0 := by omega
        go_enter Try.func93, Try.ntmps93
        go_wp2_with fail
        refine (HN.out _).mono ?_
        rintro e w1 ⟨rfl, rfl⟩
        go_wp2
        go_ret
        exact ⟨ret_eq (by rw [E.out]; rfl), rfl⟩
    · have E : Hid (storedB (x0, x1, x2) = false) := mkHid (by unfold storedB; simp [s1])
      have s1i : 20000 < (x1.size : Int) := by omega
      go_enter Try.func93, Try.ntmps93
      go_wp2_with fail
      refine (HN.out _).mono ?_
      rintro e w1 ⟨rfl, rfl⟩
      go_wp2
      go_ret
      exact ⟨ret_eq (by rw [E.out]; rfl), rfl⟩

/-- there are not too many files, nor bytes in them -/
def fitsB (l : List (ByteArray × ByteArray × Int)) (r : Int) : Bool := decide (l.length ≤ 60) && decide (bytes l ≤ r)
set_option maxRecDepth 100000 in
theorem fits_any (a : Option Addr) (c : Nat) (l : List (ByteArray × ByteArray × Int)) (r : Int) (w : World) (hl : l.length ≤ 1048576) (hs : Small l) (hr : Rd w a (cs l)) :
    Calls Try.prog 92 #[.agg #[.slice a l.length c, .int .i64 r]] w fun e w' => e = .returned (.bool (fitsB l r)) ∧ Below w.heap.size w w' := by
  obtain ⟨hc0, hc1⟩ := (cel2 (blk_new w (.cells #[.slice a l.length c, .int .i64 r] 92) w.heap.size rfl))
  have hr0 := hr.alloc (.cells #[.slice a l.length c, .int .i64 r] 92)
  have hB := mkHid (below_alloc1 w (.cells #[.slice a l.length c, .int .i64 r] 92))
  have hbs := bytes_le l (fun f hf => (hs f hf).2)
  clear hr
  by_cases h1 : 60 < l.length
  · have E : Hid (fitsB l r = false) := mkHid (by unfold fitsB; simp; omega)
    have h1i : (60 : Int) < (l.length : Int) := by omega
    go_enter Try.func92, Try.ntmps92
    go_wp2
    go_ret
    exact ⟨ret_eq (by rw [E.out]; rfl), hB.out⟩
  have h1i : (l.length : Int) ≤ 60 := by omega
  go_enter Try.func92, Try.ntmps92
  go_wp2_with fail
  have hW : (w.alloc (.cells #[.slice a l.length c, .int .i64 r] 92)).heap.size = w.heap.size + 1 := by simp
  generalize w.alloc (.cells #[.slice a l.length c, .int .i64 r] 92) = W at *
  go_loopw [3, 5, 13] (fun n f i wr => ∃ k : Nat, k ≤ l.length ∧ i = .int .i64 k ∧ n = .int .i64 (bytes (l.take k)) ∧ Hid (Below W.heap.size W wr))
    (fun _ _ i _ => l.length - (intOf i).toNat)
  case atStart => exact ⟨0, Nat.zero_le _, rfl, rfl, mkHid (Below.refl _ _)⟩
  case round =>
    obtain ⟨k, hk, rfl, rfl, hbel⟩ := hrel
    have d1 : wr.cell? ⟨w.heap.size, 1, none⟩ = some (.int .i64 r) := (hbel.out.cell (p := ⟨w.heap.size, 1, none⟩) (by simp; omega)).trans hc1
    have hr1 := hr0.below hbel.out
    by_cases hlt : k < l.length
    · have hlti : (k : Int) < (l.length : Int) := by omega
      obtain ⟨⟨x0, x1, x2⟩, hx⟩ : ∃ y, l[k]? = some y := ⟨_, List.getElem?_eq_getElem hlt⟩
      obtain ⟨g1, o1, rfl, c0, c1, c2, l1⟩ := rwStored.el hr1 hx
      have ht : l.take (k + 1) = l.take k ++ [(x0, x1, x2)] := by rw [List.take_add_one, hx]; rfl
      have hsum : bytes (l.take (k + 1)) = bytes (l.take k) + (x1.size : Int) := by rw [ht, bytes_app]; simp [bytes]
      have h1 := bytes_pos (l.take k)
      have h2 : bytes (l.take (k + 1)) ≤ bytes l := by
        have e := bytes_app (l.take (k + 1)) (l.drop (k + 1))
        rw [List.take_append_drop] at e
        have := bytes_pos (l.drop (k + 1))
        omega
      have hxs : (x1.size : Int) ≤ 1048576 := by have := (hs _ (List.mem_of_getElem? hx)).2; simp only at this; omega
      have HS := mkHid hsum
      have hb1 : bytes (l.take k) ≤ 1099511627776 := by omega
      have HB1 := mkHid (hbel.out.alloc (by have := hbel.out.size; omega) (.cells #[.string x0, .string x1, .int .i64 x2] 94))
      simp only at c0 c1 c2
      generalize bytes (l.take k) = z at *
      clear hx ht hsum h2 hs hr0 hr1 hbel
      go_wp2
      exact ⟨⟨k + 1, by omega, by go_num, by rw [HS.out], HB1⟩, by simp [intOf]; omega⟩
    · obtain rfl : k = l.length := by omega
      rw [List.take_of_length_le (Nat.le_refl _)]
      have E : Hid (fitsB l r = decide (bytes l ≤ r)) := mkHid (by unfold fitsB; simp; omega)
      have HB2 := mkHid (below_trans hB.out hbel.out)
      generalize bytes l = z at *
      clear hr1 hr0 hbel hc0 hc1
      go_wp2
      all_goals (go_ret; exact ⟨ret_eq (by rw [E.out]; rfl), HB2.out⟩)

theorem drive_parts {l : List (ByteArray × ByteArray × Int)} {r : Int} (h0 : 0 ≤ r) (h1 : r ≤ 100000) : driveB l r = (fitsB l r && filesB none l) := by
  unfold driveB fitsB
  generalize filesB none l = q
  cases q <;> simp [h0, h1]
theorem below_grow {B n : Nat} {w V : World} (os : Array Obj) (h : Below B w V) (hs : B ≤ V.heap.size) : Below B w (grow (V.drewN n) os) :=
  ⟨h.os, h.tape, h.output, by have := h.size; simp; omega, fun k hk => by rw [heap_grow_old _ _ (by show k < V.heap.size; omega)]; exact h.block k hk⟩
theorem alloc_grown (w : World) (o : Obj) : ∃ q os', w.alloc o = grow (w.drewN q) os' := ⟨0, #[o], by rw [alloc_eq_grow]; rfl⟩
theorem mixed : Try.prog.follows .mixedOrders = true := by kernel_rfl
theorem stored_grown (x0 x1 : ByteArray) (x2 : Int) (w : World) (h0 : x0.size ≤ 1048576) (h1 : x1.size ≤ 1048576) (b : Bool) (hb : storedB (x0, x1, x2) = b) :
    Calls Try.prog 93 #[.agg #[.string x0, .string x1, .int .i64 x2]] w fun e w' => e = .returned (.bool b) ∧ ∃ q os', w' = grow (w.drewN q) os' :=
  (stored_any x0 x1 x2 w h0 h1).mono (fun e w' h => ⟨by rw [h.1, hb], by rw [h.2]; exact alloc_grown w _⟩)
set_option maxRecDepth 100000 in
set_option maxHeartbeats 2000000 in
theorem rightI_any (a : Option Addr) (c : Nat) (l : List (ByteArray × ByteArray × Int)) (r : Int) (w : World) (hl : l.length ≤ 1048576) (hs : Small l) (hr : Rd w a (cs l)) :
    Calls Try.prog 67 #[.agg #[.slice a l.length c, .int .i64 r]] w fun e w' => e = .returned (.bool (driveB l r)) ∧ Below w.heap.size w w' := by
  obtain ⟨hc0, hc1⟩ := (cel2 (blk_new w (.cells #[.slice a l.length c, .int .i64 r] 92) w.heap.size rfl))
  have hr0 := hr.alloc (.cells #[.slice a l.length c, .int .i64 r] 92)
  have hB := mkHid (below_alloc1 w (.cells #[.slice a l.length c, .int .i64 r] 92))
  clear hr
  by_cases h2 : r < 0
  · have E : Hid (driveB l r = false) := mkHid (by unfold driveB; simp; omega)
    go_enter Try.func67, Try.ntmps67
    go_wp2_with fail
    go_ret
    exact ⟨ret_eq (by rw [E.out]; rfl), hB.out⟩
  have h2i : 0 ≤ r := by omega
  by_cases h3 : 100000 < r
  · have E : Hid (driveB l r = false) := mkHid (by unfold driveB; simp; omega)
    go_enter Try.func67, Try.ntmps67
    go_wp2_with fail
    go_ret
    exact ⟨ret_eq (by rw [E.out]; rfl), hB.out⟩
  have h3i : r ≤ 100000 := by omega
  have HF := mkHid (fits_any a c l r (w.alloc (.cells #[.slice a l.length c, .int .i64 r] 92)) hl hs hr0)
  have HP := mkHid (drive_parts (l := l) h2i h3i)
  cases hf : fitsB l r with
  | false =>
    have E : Hid (driveB l r = false) := mkHid (by rw [HP.out, hf]; rfl)
    rw [hf] at HF
    clear hr0
    go_enter Try.func67, Try.ntmps67
    go_wp2_with fail
    refine HF.out.mono ?_
    rintro e w1 ⟨rfl, hb1⟩
    have HB1 := mkHid (below_trans hB.out hb1)
    clear hb1 HF
    go_wp2
    go_ret
    exact ⟨ret_eq (by rw [E.out]; rfl), HB1.out⟩
  | true =>
  have h60 : l.length ≤ 60 := by unfold fitsB at hf; simp at hf; exact hf.1
  rw [hf, Bool.true_and] at HP
  rw [hf] at HF
  go_enter Try.func67, Try.ntmps67
  go_wp2_with fail
  refine HF.out.mono ?_
  rintro e W1 ⟨rfl, hb1⟩
  have hr1 := hr0.below hb1
  have e0 : W1.cell? ⟨w.heap.size, 0, none⟩ = some (.slice a l.length c) := (hb1.cell (p := ⟨w.heap.size, 0, none⟩) (by simp)).trans hc0
  have HB1 := mkHid (below_trans hB.out hb1)
  have hW : w.heap.size + 1 ≤ W1.heap.size := by have := hb1.size; simpa using this
  clear hr0 hc0 hc1 hb1 HF
  have hmx := mixed
  go_wp2_with fail
  go_loopw [3, 4, 21] (fun i0 f i wr => ∃ k : Nat, k ≤ l.length ∧ i = .int .i64 k ∧ Hid (filesB none l = filesB (before l k) (l.drop k)) ∧ Hid (Below W1.heap.size W1 wr))
    (fun _ _ i _ => l.length - (intOf i).toNat)
  case atStart => exact ⟨0, Nat.zero_le _, rfl, mkHid (by simp [before]), mkHid (Below.refl _ _)⟩
  case round =>
    obtain ⟨k, hk, rfl, hF, hbel⟩ := hrel
    have d0 : wr.cell? ⟨w.heap.size, 0, none⟩ = some (.slice a l.length c) := (hbel.out.cell (p := ⟨w.heap.size, 0, none⟩) (by simp; omega)).trans e0
    have hr2 := hr1.below hbel.out
    by_cases hlt : k < l.length
    · have hlti : (k : Int) < (l.length : Int) := by omega
      obtain ⟨⟨x0, x1, x2⟩, hx⟩ : ∃ y, l[k]? = some y := ⟨_, List.getElem?_eq_getElem hlt⟩
      obtain ⟨g1, o1, rfl, c0, c1, c2, l1⟩ := rwStored.el hr2 hx
      have hst := filesB_step l k _ hx
      simp only at c0 c1 c2
      go_wp2_with fail
      obtain ⟨f0, f1, f2⟩ := cel3 (blk_new wr (.cells #[.string x0, .string x1, .int .i64 x2] 94) wr.heap.size rfl)
      have hwr := hbel.out.size
      have q0 : (wr.alloc (.cells #[.string x0, .string x1, .int .i64 x2] 94)).cell? ⟨w.heap.size, 0, none⟩ = some (.slice (some ⟨g1, o1, none⟩) l.length c) := ((below_alloc1 wr (.cells #[.string x0, .string x1, .int .i64 x2] 94)).cell (p := ⟨w.heap.size, 0, none⟩) (by simp; omega)).trans d0
      have HV := mkHid (hbel.out.alloc (by omega) (.cells #[.string x0, .string x1, .int .i64 x2] 94))
      have hr3 := hr2.alloc (.cells #[.string x0, .string x1, .int .i64 x2] 94)
      have hVs : (wr.alloc (.cells #[.string x0, .string x1, .int .i64 x2] 94)).heap.size = wr.heap.size + 1 := by simp
      generalize wr.alloc (.cells #[.string x0, .string x1, .int .i64 x2] 94) = V at *
      have F0 := fun n os => cell_grown (n := n) (os := os) (by show wr.heap.size < V.heap.size; omega) f0
      have F1 := fun n os => cell_grown (n := n) (os := os) (by show wr.heap.size < V.heap.size; omega) f1
      have F2 := fun n os => cell_grown (n := n) (os := os) (by show wr.heap.size < V.heap.size; omega) f2
      have Q0 := fun n os => cell_grown (n := n) (os := os) (by show w.heap.size < V.heap.size; omega) q0
      have HS : Hid (∀ (wx : World) (b : Bool), storedB (x0, x1, x2) = b → Calls Try.prog 93 #[.agg #[.string x0, .string x1, .int .i64 x2]] wx fun e w' => e = .returned (.bool b) ∧ ∃ q os', w' = grow (wx.drewN q) os') := mkHid (fun wx b hb => stored_grown x0 x1 x2 wx (hs _ (List.mem_of_getElem? hx)).1 (hs _ (List.mem_of_getElem? hx)).2 b hb)
      have HBad : Hid (fileB (before l k) (x0, x1, x2) = false → driveB l r = false) := mkHid (fun h => by rw [HP.out, hF.out, hst, h, Bool.false_and])
      have HGood : Hid (fileB (before l k) (x0, x1, x2) = true → filesB none l = filesB (before l (k + 1)) (l.drop (k + 1))) := mkHid (fun h => by rw [hF.out, hst, h, Bool.true_and])
      have HO := mkHid (ahead l k hlt)
      have HB2 : Hid (∀ n os, Below w.heap.size w (grow (V.drewN n) os)) := mkHid (fun n os => below_grow os (HB1.out.trans (HV.out.mono (by omega))) (by omega))
      have HB3 : Hid (∀ n os, Below W1.heap.size W1 (grow (V.drewN n) os)) := mkHid (fun n os => below_grow os HV.out (by omega))
      have HR := mkHid hr3
      clear hr1 c0 c1 c2 hr2 d0 e0 hst hF hx hr3 f0 f1 f2 q0
      cases hn : storedB (x0, x1, x2) with
      | false =>
        have E := mkHid (HBad.out (by rw [fileB_stored, hn]; rfl))
        have HS1 := mkHid (fun wx => HS.out wx _ hn)
        clear HBad HGood HO HR HS
        refine wp_region_quiet_grown mixed (by kernel_rfl) ?_
        repeat (go_big_quiet_step ((go_at_call 93; refine Calls.grown_of (HS1.out _))))
        refine wpQuiet_nil ?_
        intro _ hw'
        obtain ⟨⟨nq, osq⟩, hw''⟩ := hw'
        subst hw''
        go_wp2
        go_ret
        exact ⟨ret_eq (by rw [E.out]; rfl), HB2.out _ _⟩
      | true =>
        have HS1 := mkHid (fun wx => HS.out wx _ hn)
        clear HS
        rcases HO.out with ⟨k0, hb0⟩ | ⟨j, ⟨p0, p1, p2⟩, k1, hb0, hp⟩
        · have z1 : (0 < k) = False := by simp [k0]
          have z2 : (0 < (k : Int)) = False := by simp [k0]
          have N1 := mkHid (HGood.out (by rw [fileB_stored, hn, hb0]; rfl))
          clear HO HBad HGood HR
          refine wp_region_quiet_grown mixed (by kernel_rfl) ?_
          repeat (go_big_quiet_step ((go_at_call 93; refine Calls.grown_of (HS1.out _))))
          refine wpQuiet_nil ?_
          intro _ hw'
          obtain ⟨⟨nq, osq⟩, hw''⟩ := hw'
          subst hw''
          go_wp2
          go_roundw
          case rel => exact ⟨k + 1, by omega, by go_num, N1, mkHid (HB3.out _ _)⟩
          case measure => simp [intOf]; omega
        · have z1 : (0 < k) = True := by simp [k1]
          have z2 : (0 < (k : Int)) = True := by simp [k1]
          have z3 : IntKind.i64.wrap ((k : Int) - 1) = (j : Int) := by rw [show (k : Int) - 1 = (j : Int) by omega, IntKind.wrap_i64]; omega
          have z4 : (j : Int) < (l.length : Int) := by omega
          obtain ⟨g2, o2, hg2, pc, _, _, pl⟩ := rwStored.el HR.out hp
          obtain ⟨rfl, rfl⟩ : g1 = g2 ∧ o1 = o2 := by injection hg2 with e; injection e with e1 e2; exact ⟨e1, e2⟩
          simp only at pc
          have PC := fun n os => cell_grown (n := n) (os := os) pl pc
          clear HO hg2 hp k1 HR pc
          cases hlt2 : Op.bytesLess p0.toList x0.toList with
          | false =>
            have E := mkHid (HBad.out (by rw [fileB_stored, hn, hb0]; simp [blt, hlt2]))
            clear HBad HGood
            refine wp_region_quiet_grown mixed (by kernel_rfl) ?_
            repeat (go_big_quiet_step ((go_at_call 93; refine Calls.grown_of (HS1.out _))))
            refine wpQuiet_nil ?_
            intro _ hw'
            obtain ⟨⟨nq, osq⟩, hw''⟩ := hw'
            subst hw''
            go_wp2
            go_ret
            exact ⟨ret_eq (by rw [E.out]; rfl), HB2.out _ _⟩
          | true =>
            have N1 := mkHid (HGood.out (by rw [fileB_stored, hn, hb0]; simp [blt, hlt2]))
            clear HBad HGood
            refine wp_region_quiet_grown mixed (by kernel_rfl) ?_
            repeat (go_big_quiet_step ((go_at_call 93; refine Calls.grown_of (HS1.out _))))
            refine wpQuiet_nil ?_
            intro _ hw'
            obtain ⟨⟨nq, osq⟩, hw''⟩ := hw'
            subst hw''
            go_wp2
            go_roundw
            case rel => exact ⟨k + 1, by omega, by go_num, N1, mkHid (HB3.out _ _)⟩
            case measure => simp [intOf]; omega
    · obtain rfl : k = l.length := by omega
      have E : Hid (driveB l r = true) := mkHid (by rw [HP.out, hF.out, List.drop_of_length_le (Nat.le_refl _), filesB])
      have HB2 := mkHid (HB1.out.trans (hbel.out.mono (by omega)))
      clear hr1 hr2 hF
      go_wp2
      go_ret
      exact ⟨ret_eq (by rw [E.out]; rfl), HB2.out⟩
end Go.Proofs.Ytlcdbkelonbcfaa.drv
