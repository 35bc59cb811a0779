/-
  laws.FnExactArrayRight answers true at every array, and leaves what was there as it was. No condition.
-/
import Derived.Test.YtfckgpmphcadeaaArR
namespace Go.Proofs.Ytfckgpmphcadeaa.arr
open Go.RowKit Go.Joins
open Go.Proofs.Ytfckgpmphcadeaa.base Go.Proofs.Ytfckgpmphcadeaa.blk Go.Proofs.Ytfckgpmphcadeaa.aid
open Go.Proofs.Ytfckgpmphcadeaa.row (Rd Own OwnV)
open Go.Proofs.Ytfckgpmphcadeaa.rwStored (cs)
open Go.Proofs.Ytfckgpmphcadeaa.mem (Mem Mine Off)
set_option linter.unusedVariables false
set_option linter.unusedSimpArgs false

theorem some_le : ∀ (l : List Dv) (d : Dv), d ∈ l → (d.2.2.1.length : Int) ≤ some_ l
  | [], d, h => by simp at h
  | e :: r, d, h => by
    have hp := some_pos r
    unfold some_
    rcases List.mem_cons.1 h with rfl | h
    · omega
    · have := some_le r d h
      omega
theorem rdA_mem {W wx : World} {a : Option Addr} {ds' : List Dv} (h : Mem W [] [] (⟨25, a, dcs ds'⟩ :: mines ds'.reverse) wx) : RdA wx a ds' := by
  have h2 : Mem W [] [] (⟨25, a, dcs ds'⟩ :: (mines ds'.reverse ++ [])) wx := by rw [List.append_nil]; exact h
  exact rdA_of h2 (fun d hd => List.mem_reverse.2 hd)
/-- what stands in memory while the law goes on -/
structure Lx (w : World) (a : Option Addr) (ds : List Dv) (c : Nat) (k m : Int) (wr : World) : Prop where
  below : Below w.heap.size w wr
  b : wr.heap[w.heap.size]? = some (.cells #[.int .i64 k, .int .i64 m, .slice a ds.length c] 59)
  r : RdA wr a ds
theorem Lx.next {w wr w' : World} {a : Option Addr} {ds : List Dv} {c : Nat} {k m : Int} (h : Lx w a ds c k m wr) (hb : Below wr.heap.size wr w') : Lx w a ds c k m w' :=
  ⟨h.below.trans (hb.mono h.below.size), blk_below h.b hb, h.r.below hb⟩
set_option maxRecDepth 100000 in
set_option maxHeartbeats 2000000 in
theorem right_walk (k m : Int) (a : Option Addr) (c : Nat) (ds : List Dv) (w : World) (hl : (ds.length : Int) ≤ 9223372036854775807) (hs : Big ds) (hr : RdA w a ds) :
    Calls Try.prog 5 #[.agg #[.int .i64 k, .int .i64 m, .slice a ds.length c]] w fun e w' => e = .returned (.bool true) ∧ Below w.heap.size w w' := by
  have HZ := mkHid (szA_any k m a c ds (w.alloc (.cells #[.int .i64 k, .int .i64 m, .slice a ds.length c] 59)) hl hs (hr.alloc _))
  have S0 : Hid (Lx w a ds c k m (w.alloc (.cells #[.int .i64 k, .int .i64 m, .slice a ds.length c] 59))) := mkHid ⟨below_alloc1 w _, blk_new w _ _ rfl, hr.alloc _⟩
  clear hr hs hl
  obtain ⟨c0, c1, c2⟩ := cel3 S0.out.b
  go_enter Try.func5, Try.ntmps5
  go_wp2_with fail
  refine HZ.out.mono ?_
  rintro e w1 ⟨⟨z, rfl, hL⟩, hb1⟩
  have S1 := mkHid (S0.out.next hb1)
  by_cases hz : z < 0
  · clear hb1 HZ hL S0 c0 c1 c2
    go_wp2
    go_ret
    exact ⟨rfl, S1.out.below⟩
  · have hz0 : 0 ≤ z := by omega
    obtain ⟨hz1, hfit⟩ : (z + (ds.length + some_ ds) ≤ 1048576) ∧ FitA ds := by
      rcases hL with h | ⟨_, h2, h3⟩
      · exact absurd h (by omega)
      · exact ⟨h2, h3⟩
    have hp := some_pos ds
    have hl1 : ds.length ≤ 1048576 := by omega
    have hl2 : ∀ d ∈ ds, d.2.2.1.length ≤ 1048576 := fun d hd => by have := some_le ds d hd; omega
    have HT := mkHid (fun wx (hx : RdA wx a ds) => toA_any k m a c ds wx hl1 hl2 hx)
    unfold APost at HT
    have HS := mkHid (fun wx a' c' ds' n (hn : ds'.length = n) (hv : ds'.map val = ds.map val) (hx : RdA wx a' ds') => by
      have h := arrS_any k m a' c' ds' wx (by rw [val_len hv]; exact hl1) (val_sizes (P := fun l _ => l.length ≤ 1048576) hv hl2) (val_sizes (P := fun l _ => Fit l) hv hfit) hx
      rw [hv, hn] at h
      exact h)
    have HI := mkHid (fun wx a' c' ds' n (hn : ds'.length = n) (hv : ds'.map val = ds.map val) (hx : RdA wx a' ds') => by
      have h := arrI_any k m a' c' ds' wx (by rw [val_len hv]; exact hl1) (val_sizes (P := fun l _ => l.length ≤ 1048576) hv hl2) (val_sizes (P := fun l _ => Fit l) hv hfit) hx
      rw [hv, hn] at h
      exact h)
    have HE := mkHid (fun wx a1 c1 a2 c2 d1 d2 n (hn : d1.length = n) (hn2 : n = ds.length) (h1 : d1.map val = ds.map val) (h2 : d2.map val = ds.map val) (x1 : RdA wx a1 d1) (x2 : RdA wx a2 d2) => eqA_same k m a1 a2 c1 c2 d1 d2 wx n hn (h2.trans h1.symm) (by omega) (val_sizes (P := fun l _ => l.length ≤ 1048576) h1 hl2) x1 x2)
    have HLen := mkHid (fun (d1 : List Dv) (h : d1.map val = ds.map val) => val_len h)
    generalize arrB k m (ds.map val) = bb at *
    have hbb : (bb != bb) = false := by cases bb <;> rfl
    clear hb1 HZ hL S0 c0 c1 c2 hfit hl2 hz1 hp hl1
    obtain ⟨c0, c1, c2⟩ := cel3 S1.out.b
    go_wp2_with fail
    refine (HT.out _ S1.out.r).mono ?_
    rintro e w2 ⟨G2, d2, rfl, hv2, hM2⟩
    have S2 := mkHid (And.intro (S1.out.next hM2.below) (rdA_mem hM2))
    have V2 := mkHid hv2
    clear hM2 hv2 S1 c0 c1 c2
    go_wp2_with fail
    refine (HS.out _ _ _ d2 _ (HLen.out d2 V2.out) V2.out S2.out.2).mono ?_
    rintro e w3 ⟨rfl, hb3⟩
    have S3 := mkHid (S2.out.1.next hb3)
    clear hb3 S2 V2 HS
    obtain ⟨c0, c1, c2⟩ := cel3 S3.out.b
    go_wp2_with fail
    refine (HT.out _ S3.out.r).mono ?_
    rintro e w4 ⟨G4, d4, rfl, hv4, hM4⟩
    have S4 := mkHid (And.intro ((S3.out.next hM4.below).next (below_alloc1 w4 (.cells #[.int .i64 k, .int .i64 m, .slice (some ⟨G4, 0, none⟩) ds.length ds.length] 64))) (And.intro ((rdA_mem hM4).alloc (.cells #[.int .i64 k, .int .i64 m, .slice (some ⟨G4, 0, none⟩) ds.length ds.length] 64)) (blk_new w4 (.cells #[.int .i64 k, .int .i64 m, .slice (some ⟨G4, 0, none⟩) ds.length ds.length] 64) w4.heap.size rfl)))
    have V4 := mkHid hv4
    clear hM4 hv4 S3 c0 c1 c2
    obtain ⟨c0, c1, c2⟩ := cel3 S4.out.2.2
    go_wp2_with fail
    refine (HI.out _ _ _ d4 _ (HLen.out d4 V4.out) V4.out S4.out.2.1).mono ?_
    rintro e w5 ⟨rfl, hb5⟩
    have S5 := mkHid (And.intro (S4.out.1.next hb5) (And.intro (S4.out.2.1.below hb5) (blk_below S4.out.2.2 hb5)))
    clear hb5 S4 HI c0 c1 c2
    obtain ⟨c0, c1, c2⟩ := cel3 S5.out.2.2
    obtain ⟨d0, d1, d2⟩ := cel3 S5.out.1.b
    go_wp2_with fail
    go_region_held3 (fun w' => w'.cell? ⟨w4.heap.size, 0, none⟩ = some (.int .i64 k) ∧ w'.cell? ⟨w4.heap.size, 1, none⟩ = some (.int .i64 m) ∧ w'.cell? ⟨w4.heap.size, 2, none⟩ = some (.slice (some ⟨G4, 0, none⟩) ds.length ds.length) ∧ w'.cell? ⟨w.heap.size, 0, none⟩ = some (.int .i64 k) ∧ w'.cell? ⟨w.heap.size, 1, none⟩ = some (.int .i64 m) ∧ w'.cell? ⟨w.heap.size, 2, none⟩ = some (.slice a ds.length c)) (go_keep)
      ((first
        | (go_at_call 29; refine Calls.mono (HT.out _ (by first | exact S5.out.1.r | exact S5.out.1.r.drew)) ?_; rintro e w6 ⟨G6, d6, rfl, hv6, hM6⟩; have r6 := re (w := w5) hM6.below rfl rfl rfl rfl; have S6 := mkHid (And.intro (S5.out.1.next r6) (And.intro (S5.out.2.1.below r6) (And.intro (blk_below S5.out.2.2 r6) (rdA_mem hM6)))); have V6 := mkHid hv6; obtain ⟨e0, e1, e2⟩ := cel3 S6.out.2.2.1; obtain ⟨f0, f1, f2⟩ := cel3 S6.out.1.b; clear hM6 r6 hv6)
        | (go_at_call 31; refine Calls.mono (HE.out _ _ _ _ _ d4 d6 _ (HLen.out d4 V4.out) rfl V4.out V6.out (by first | exact S6.out.2.1 | exact S6.out.2.1.drew) (by first | exact S6.out.2.2.2 | exact S6.out.2.2.2.drew)) ?_; rintro e w7 ⟨rfl, hb7⟩; have r7 := re (w := w6) hb7 rfl rfl rfl rfl; have S7 := mkHid (And.intro (S6.out.1.next r7) (blk_below S6.out.2.2.1 r7)); obtain ⟨g0, g1, g2⟩ := cel3 S7.out.2; obtain ⟨h0, h1, h2⟩ := cel3 S7.out.1.b; clear hb7 r7)))
    go_wp2
    go_ret
    exact ⟨rfl, by first | exact S7.out.1.below | exact S7.out.1.below.drew⟩
end Go.Proofs.Ytfckgpmphcadeaa.arr
